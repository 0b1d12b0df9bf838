/-
  A sender of the program's and the document's own, beside one another.
-/
import Derived.Test.YtcnmkojlledipaaMrRefA
namespace Go.Proofs.Ytcnmkojlledipaa.Mr
open Go.RowKit
set_option linter.unusedVariables false
set_option linter.unusedSimpArgs false
set_option maxRecDepth 20000

/-- a sender, the document's own, and blocks that are held beside them -/
structure ZS (w0 w : World) (p : Nat) (A : Int) (a : Option Addr) (l : List It) (q : Nat) (B A' : Int) (b : Option Addr) (xs : List It) (H : List (Nat × Obj)) : Prop where
  r1 : Rn w0 w p A a l
  r2 : RAt w q B A' b xs
  o1 : w0.heap.size ≤ q
  o2 : w0.heap.size ≤ blk q b
  d : Dis [p, blk p a] [q, blk q b]
  h : ∀ g ∈ H, w.heap[g.1]? = some g.2 ∧ g.1 ∉ [p, blk p a] ∧ g.1 ∉ [q, blk q b]
def Z (w0 w : World) (p : Nat) (A : Int) (l : List It) (q : Nat) (B A' : Int) (xs : List It) (H : List (Nat × Obj)) : Prop := ∃ a b, ZS w0 w p A a l q B A' b xs H
section
variable {w0 w w' : World} {p q : Nat} {A B A' C : Int} {a b : Option Addr} {l l' xs : List It} {H : List (Nat × Obj)}
theorem Z.be (h : Z w0 w p A l q B A' xs H) : Below w0.heap.size w0 w := by obtain ⟨a, b, h⟩ := h; exact h.r1.be
theorem Z.rx (h : Z w0 w p A l q B A' xs H) : Rx w0 w p A l := by obtain ⟨a, b, h⟩ := h; exact ⟨a, h.r1⟩
theorem Z.nums (h : Z w0 w p A l q B A' xs H) : (0 ≤ B ∧ B ≤ A' ∧ A' ≤ B + (xs.length : Int)) ∧ B + (xs.length : Int) ≤ 4611686018427387904 := by obtain ⟨a, b, h⟩ := h; exact h.r2.nums
theorem Z.held (h : Z w0 w p A l q B A' xs H) {g : Nat} {o : Obj} (hg : (g, o) ∈ H) : w.heap[g]? = some o := by obtain ⟨a, b, h⟩ := h; exact (h.h _ hg).1
theorem Z.free (h : Z w0 w p A l q B A' xs H) : Z w0 w p A l q B A' xs [] := by obtain ⟨a, b, h⟩ := h; exact ⟨a, b, h.r1, h.r2, h.o1, h.o2, h.d, fun g hg => by cases hg⟩
theorem Z.below (h : Z w0 w p A l q B A' xs H) (hb : Below w.heap.size w w') : Z w0 w' p A l q B A' xs H := by
  obtain ⟨a, b, h⟩ := h
  exact ⟨a, b, h.r1.below hb, h.r2.below hb (Nat.le_refl _), h.o1, h.o2, h.d, fun g hg => ⟨(hb.block _ (lt_of_heap (h.h g hg).1)).trans (h.h g hg).1, (h.h g hg).2⟩⟩
theorem Z.hold (h : Z w0 w p A l q B A' xs H) (hb : Below w.heap.size w w') {g : Nat} {o : Obj} (hg : w.heap.size ≤ g) (k : w'.heap[g]? = some o) : Z w0 w' p A l q B A' xs ((g, o) :: H) := by
  obtain ⟨a, b, h⟩ := h
  refine ⟨a, b, h.r1.below hb, h.r2.below hb (Nat.le_refl _), h.o1, h.o2, h.d, fun e he => ?_⟩
  rcases List.mem_cons.1 he with rfl | he
  · exact ⟨k, fun hm => by have := h.r1.at_.lts _ hm; simp at this; omega, fun hm => by have := h.r2.lts _ hm; simp at this; omega⟩
  · exact ⟨(hb.block _ (lt_of_heap (h.h e he).1)).trans (h.h e he).1, (h.h e he).2⟩
theorem ZS.step1 (h : ZS w0 w p A a l q B A' b xs H) (k : Aft w0 w p a C l' w') : Z w0 w' p C l' q B A' xs H := by
  obtain ⟨a', h1, h2, h3⟩ := k
  refine ⟨a', b, h1, h.r2.keep h3 h.d, h.o1, h.o2, h.d.left h2.both h.r2.lts, fun g hg => ?_⟩
  obtain ⟨e1, e2, e3⟩ := h.h g hg
  refine ⟨(h3.block _ (lt_of_heap e1) e2).trans e1, fun hm => ?_, e3⟩
  rcases h2.both _ hm with hm | hm
  · exact e2 hm
  · have := lt_of_heap e1; omega
theorem ZS.step2 (h : ZS w0 w p A a l q B A' b xs H) {ys : List It} (k : ∃ b', RAt w' q B C b' ys ∧ (b' = b ∨ Fresh w.heap.size b') ∧ But [q] w w') : Z w0 w' p A l q B C ys H := by
  obtain ⟨b', h1, h2, h3⟩ := k
  have hs := h.r1.be.size
  have hbe : Below w0.heap.size w0 w' := h.r1.be.trans (h3.to_below (fun x hx => by simp at hx; subst hx; exact h.o1) hs)
  have hq : ∀ x ∈ [q, blk q b'], x ∈ [q, blk q b] ∨ w.heap.size ≤ x := by
    intro x hx
    simp at hx
    rcases hx with rfl | rfl
    · simp
    · rcases h2 with rfl | h2
      · simp
      · cases b' with
        | none => simp [blk]
        | some y => exact .inr (h2 y rfl)
  refine ⟨a, b', ⟨h.r1.at_.keep h3 (fun x hx hm => h.d x hm (by simp at hx; simp [hx])), h.r1.op, h.r1.oa, hbe⟩, h1, h.o1, ?_, h.d.right hq h.r1.at_.lts, fun g hg => ?_⟩
  · rcases hq (blk q b') (by simp) with e | e
    · simp at e
      rcases e with e | e
      · rw [e]; exact h.o1
      · rw [e]; exact h.o2
    · omega
  · obtain ⟨e1, e2, e3⟩ := h.h g hg
    refine ⟨(h3.block _ (lt_of_heap e1) (fun hm => e3 (by simp at hm; simp [hm]))).trans e1, e2, fun hm => ?_⟩
    rcases hq _ hm with hm | hm
    · exact e3 hm
    · have := lt_of_heap e1; omega
theorem Z.add (h : Z w0 w p A l q B A' xs H) (x : It) (hl : l.length < 100000) : Calls Try.prog 12 #[.pointer (some ⟨p, 0, none⟩), itV x] w fun e w' => e = .returned (.tuple #[.int .i64 (addN A l), .int .i64 (addE A l)]) ∧ Z w0 w' p A (addL A l x) q B A' xs H := by
  obtain ⟨a, b, h⟩ := h
  exact (h.r1.add x hl).mono fun e w' k => ⟨k.1, h.step1 k.2⟩
theorem Z.ack (h : Z w0 w p A l q B A' xs H) (n : Int) : Calls Try.prog 14 #[.pointer (some ⟨p, 0, none⟩), .int .i64 n] w fun e w' => e = .returned (.bool (ackB A l n)) ∧ Z w0 w' p (ackA A l n) (ackL A l n) q B A' xs H := by
  obtain ⟨a, b, h⟩ := h
  exact (h.r1.ack n).mono fun e w' k => ⟨k.1, h.step1 k.2⟩
theorem Z.radd (h : Z w0 w p A l q B A' xs H) (x : It) (hx : B + (xs.length : Int) < 4611686018427387904) (hl : xs.length < 90000) : Calls Try.prog 13 #[.pointer (some ⟨q, 0, none⟩), itV x] w fun e w' => e = .returned (.tuple #[.int .i64 (B + (xs.length : Int) + 1), .int .i64 0]) ∧ Z w0 w' p A l q B A' (xs ++ [x]) H := by
  obtain ⟨a, b, h⟩ := h
  exact (radd_ok h.r2 x hx hl).mono fun e w' ⟨k1, b', k2, k3, k4⟩ => ⟨k1, h.step2 ⟨b', k2, .inr k3, k4⟩⟩
theorem Z.raddF (h : Z w0 w p A l q B A' xs H) (x : It) (hx : ¬ B + (xs.length : Int) < 4611686018427387904) : Calls Try.prog 13 #[.pointer (some ⟨q, 0, none⟩), itV x] w fun e w' => e = .returned (.tuple #[.int .i64 0, .int .i64 23]) ∧ Z w0 w' p A l q B A' xs H := by
  have h' := h
  obtain ⟨a, b, h⟩ := h
  exact (radd_full h.r2 x hx).mono fun e w' ⟨k1, k2⟩ => ⟨k1, h'.below k2⟩
theorem Z.rackY (h : Z w0 w p A l q B A' xs H) (n : Int) (h1 : A' < n) (h2 : n ≤ B + (xs.length : Int)) : Calls Try.prog 15 #[.pointer (some ⟨q, 0, none⟩), .int .i64 n] w fun e w' => e = .returned (.bool true) ∧ Z w0 w' p A l q B n xs H := by
  obtain ⟨a, b, h⟩ := h
  exact (rack_yes h.r2 n h1 h2).mono fun e w' ⟨k1, k2, k3⟩ => ⟨k1, h.step2 ⟨b, k2, .inl rfl, k3⟩⟩
theorem Z.rackN (h : Z w0 w p A l q B A' xs H) (n : Int) (h1 : n ≤ A' ∨ (A' < n ∧ B + (xs.length : Int) < n)) : Calls Try.prog 15 #[.pointer (some ⟨q, 0, none⟩), .int .i64 n] w fun e w' => e = .returned (.bool false) ∧ Z w0 w' p A l q B A' xs H := by
  have h' := h
  obtain ⟨a, b, h⟩ := h
  refine (rack_no h.r2 n h1).mono ?_
  rintro e w' ⟨rfl, d, rfl⟩
  exact ⟨rfl, h'.below ((Below.refl _ _).drewB d)⟩
theorem Z.rlast (h : Z w0 w p A l q B A' xs H) : Calls Try.prog 20 #[.pointer (some ⟨q, 0, none⟩)] w fun e w' => e = .returned (.int .i64 (B + (xs.length : Int))) ∧ ∃ d, w' = w.drewN d := by
  obtain ⟨a, b, h⟩ := h
  exact rlast_any h.r2
theorem Z.cell2 (h : Z w0 w p A l q B A' xs H) : w.cell? ⟨q, 2, none⟩ = some (.int .i64 A') := by
  obtain ⟨a, b, h⟩ := h
  obtain ⟨_, _, _, c, _⟩ := h.r2.cell
  exact c
theorem Z.rleft {k : Nat} (h : Z w0 w p A l q B (B + (k : Int)) xs H) (hl : xs.length ≤ 90000) : Calls Try.prog 18 #[.pointer (some ⟨q, 0, none⟩)] w fun e w' => ∃ a' cap', e = .returned (.slice a' (xs.length - k) cap') ∧ OwnI w' a' cap' (numb (B + (k : Int)) (xs.drop k)) ∧ Fresh w.heap.size a' ∧ Below w.heap.size w w' := by
  obtain ⟨a, b, h⟩ := h
  exact rleft_any h.r2 hl
end
/-- the document's own beside the program's -/
theorem new_both {w0 w : World} {p : Nat} {A : Int} {l : List It} (h : Rx w0 w p A l) (c : Int) : Calls Try.prog 11 #[.int .i64 c] w fun e w' => ∃ q, e = .returned (.pointer (some ⟨q, 0, none⟩)) ∧ Z w0 w' p A l q (base c) (base c) [] [] := by
  obtain ⟨a, h⟩ := h
  refine (rnew_any w c).mono ?_
  rintro e w' ⟨rfl, h1, h2⟩
  refine ⟨_, rfl, a, none, h.below h2, h1, h.be.size, h.be.size, ?_, fun g hg => by cases hg⟩
  intro x hx hm
  have := h.at_.lts x hx
  simp [blk] at hm
  omega
end Go.Proofs.Ytcnmkojlledipaa.Mr
