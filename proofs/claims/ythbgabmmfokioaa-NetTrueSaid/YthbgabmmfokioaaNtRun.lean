/-
  A net of the call's own through its calls; the calls whose answers the document fixes; two rows that are the same.
-/
import Derived.Test.YthbgabmmfokioaaNtCopy
import Derived.Laws.StructEq
namespace Go.Proofs.Ythbgabmmfokioaa.Nt
open Go.RowKit
set_option linter.unusedVariables false
set_option linter.unusedSimpArgs false
set_option maxRecDepth 20000

/-- a net of the call's own -/
structure Rn (w0 w : World) (p : Nat) (a : Option Addr) (l : List Lt) : Prop where
  at_ : NAt tN w p a l
  op : w0.heap.size ≤ p
  oa : Fresh w0.heap.size a
  be : Below w0.heap.size w0 w
/-- what becomes of it in a call -/
def Aft (w0 w : World) (p : Nat) (a : Option Addr) (l' : List Lt) (w' : World) : Prop := ∃ a', Rn w0 w' p a' l' ∧ Anew w a a' ∧ But [p, blk p a] w w'
section
variable {w0 w w' : World} {p : Nat} {a : Option Addr} {l l' : List Lt}
theorem Rn.aft (h : Rn w0 w p a l) (k : ∃ a', NAt tN w' p a' l' ∧ Anew w a a' ∧ But [p, blk p a] w w') : Aft w0 w p a l' w' := by
  obtain ⟨a', h1, h2, h3⟩ := k
  refine ⟨a', ⟨h1, h.op, h.oa.anew h2 h.be.size, h.be.trans (h3.to_below ?_ h.be.size)⟩, h2, h3⟩
  intro x hx
  simp at hx
  rcases hx with rfl | rfl
  · exact h.op
  · exact h.oa.blk h.op
theorem Rn.below (h : Rn w0 w p a l) (hb : Below w.heap.size w w') : Rn w0 w' p a l := ⟨h.at_.below hb (Nat.le_refl _), h.op, h.oa, h.be.trans (hb.mono h.be.size)⟩
theorem Rn.send (h : Rn w0 w p a l) (x : Lt) : Calls Try.prog 11 #[.pointer (some ⟨p, 0, none⟩), ltV x] w fun e w' => e = .returned (.int .i64 (sendE l x)) ∧ Aft w0 w p a (sendL l x) w' :=
  (send_any h.at_ x).mono fun e w' k => ⟨k.1, h.aft k.2⟩
theorem Rn.take (h : Rn w0 w p a l) (i : Int) : Calls Try.prog 13 #[.pointer (some ⟨p, 0, none⟩), .int .i64 i] w fun e w' => e = .returned (.tuple #[ltV (takeV l i), .bool (takeB l)]) ∧ Aft w0 w p a (takeL l i) w' :=
  (take_any h.at_ i).mono fun e w' k => ⟨k.1, h.aft k.2⟩
theorem Rn.drop (h : Rn w0 w p a l) (i : Int) : Calls Try.prog 17 #[.pointer (some ⟨p, 0, none⟩), .int .i64 i] w fun e w' => e = .returned (.bool (takeB l)) ∧ Aft w0 w p a (takeL l i) w' :=
  (drop_any h.at_ i).mono fun e w' k => ⟨k.1, h.aft k.2⟩
theorem Rn.copy (h : Rn w0 w p a l) (i : Int) : Calls Try.prog 15 #[.pointer (some ⟨p, 0, none⟩), .int .i64 i] w fun e w' => e = .returned (.bool (copyB l)) ∧ Aft w0 w p a (copyL l i) w' :=
  (copy_any h.at_ i).mono fun e w' k => ⟨k.1, h.aft k.2⟩
theorem Rn.all (h : Rn w0 w p a l) : Calls Try.prog 18 #[.pointer (some ⟨p, 0, none⟩)] w fun e w' => ∃ a' cap', e = .returned (.slice a' l.length cap') ∧ OwnL w' a' cap' l ∧ Fresh w.heap.size a' ∧ Below w.heap.size w w' := all_any h.at_
theorem Rn.to (h : Rn w0 w p a l) (q : Int) : Calls Try.prog 21 #[.pointer (some ⟨p, 0, none⟩), .int .i64 q] w fun e w' => e = .returned (toV l q) ∧ Below w.heap.size w w' := to_any h.at_ q
theorem Rn.len (h : Rn w0 w p a l) : Calls Try.prog 20 #[.pointer (some ⟨p, 0, none⟩)] w fun e w' => e = .returned (.int .i64 (l.length : Int)) ∧ w = w' := len_any h.at_
end
theorem new_run (w0 w : World) (hb : Below w0.heap.size w0 w) : Calls Try.prog 10 #[] w fun e w' => ∃ p, e = .returned (.pointer (some ⟨p, 0, none⟩)) ∧ Rn w0 w' p none [] ∧ w.heap.size ≤ p ∧ Below w.heap.size w w' := by
  refine (new_any w).mono ?_
  rintro e w' ⟨p, rfl, h1, h2, h3⟩
  exact ⟨p, rfl, ⟨h1, Nat.le_trans hb.size h2, Fresh.none _, hb.trans (h3.mono hb.size)⟩, h2, h3⟩

/-! the calls whose answers the document fixes -/
def A1 : Lt := ⟨0, 1, ⟨#[97]⟩⟩
def B1 : Lt := ⟨1, 2, ⟨#[98]⟩⟩
def C1 : Lt := ⟨1, 1, ⟨#[]⟩⟩
/-- a net, its row wherever -/
def Rx (w0 w : World) (p : Nat) (l : List Lt) : Prop := ∃ a, Rn w0 w p a l
theorem Rx.of {w0 w w' : World} {p : Nat} {a : Option Addr} {l : List Lt} (h : Aft w0 w p a l w') : Rx w0 w' p l := by obtain ⟨a', h, _⟩ := h; exact ⟨a', h⟩
theorem Rx.send {w0 w : World} {p : Nat} {l : List Lt} (h : Rx w0 w p l) (x : Lt) : Calls Try.prog 11 #[.pointer (some ⟨p, 0, none⟩), ltV x] w fun e w' => e = .returned (.int .i64 (sendE l x)) ∧ Rx w0 w' p (sendL l x) := by
  obtain ⟨a, h⟩ := h
  exact (h.send x).mono fun e w' k => ⟨k.1, Rx.of k.2⟩
theorem Rx.take {w0 w : World} {p : Nat} {l : List Lt} (h : Rx w0 w p l) (i : Int) : Calls Try.prog 13 #[.pointer (some ⟨p, 0, none⟩), .int .i64 i] w fun e w' => e = .returned (.tuple #[ltV (takeV l i), .bool (takeB l)]) ∧ Rx w0 w' p (takeL l i) := by
  obtain ⟨a, h⟩ := h
  exact (h.take i).mono fun e w' k => ⟨k.1, Rx.of k.2⟩
theorem Rx.drop {w0 w : World} {p : Nat} {l : List Lt} (h : Rx w0 w p l) (i : Int) : Calls Try.prog 17 #[.pointer (some ⟨p, 0, none⟩), .int .i64 i] w fun e w' => e = .returned (.bool (takeB l)) ∧ Rx w0 w' p (takeL l i) := by
  obtain ⟨a, h⟩ := h
  exact (h.drop i).mono fun e w' k => ⟨k.1, Rx.of k.2⟩
theorem Rx.copy {w0 w : World} {p : Nat} {l : List Lt} (h : Rx w0 w p l) (i : Int) : Calls Try.prog 15 #[.pointer (some ⟨p, 0, none⟩), .int .i64 i] w fun e w' => e = .returned (.bool (copyB l)) ∧ Rx w0 w' p (copyL l i) := by
  obtain ⟨a, h⟩ := h
  exact (h.copy i).mono fun e w' k => ⟨k.1, Rx.of k.2⟩
theorem Rx.below {w0 w w' : World} {p : Nat} {l : List Lt} (h : Rx w0 w p l) (hb : Below w.heap.size w w') : Rx w0 w' p l := by obtain ⟨a, h⟩ := h; exact ⟨a, h.below hb⟩
theorem Rx.be {w0 w : World} {p : Nat} {l : List Lt} (h : Rx w0 w p l) : Below w0.heap.size w0 w := by obtain ⟨a, h⟩ := h; exact h.be
theorem Rx.len {w0 w : World} {p : Nat} {l : List Lt} (h : Rx w0 w p l) : Calls Try.prog 20 #[.pointer (some ⟨p, 0, none⟩)] w fun e w' => e = .returned (.int .i64 (l.length : Int)) ∧ w = w' := by
  obtain ⟨a, h⟩ := h
  exact h.len
theorem Rx.all {w0 w : World} {p : Nat} {l : List Lt} (h : Rx w0 w p l) : Calls Try.prog 18 #[.pointer (some ⟨p, 0, none⟩)] w fun e w' => ∃ a' cap', e = .returned (.slice a' l.length cap') ∧ Rx w0 w' p l := by
  obtain ⟨a, h⟩ := h
  refine h.all.mono ?_
  rintro e w' ⟨a', cap', rfl, _, _, hb⟩
  exact ⟨a', cap', rfl, a, h.below hb⟩
theorem Rx.to {w0 w : World} {p : Nat} {l : List Lt} (h : Rx w0 w p l) (q : Int) : Calls Try.prog 21 #[.pointer (some ⟨p, 0, none⟩), .int .i64 q] w fun e w' => e = .returned (toV l q) ∧ Rx w0 w' p l ∧ Below w.heap.size w w' := by
  obtain ⟨a, h⟩ := h
  refine (h.to q).mono ?_
  rintro e w' ⟨rfl, hb⟩
  exact ⟨rfl, ⟨a, h.below hb⟩, hb⟩
/-- a block that was made just before stays -/
theorem Rx.copy_keep {w0 w : World} {p : Nat} {l : List Lt} (h : Rx w0 w p l) (o : Obj) (i : Int) : Calls Try.prog 15 #[.pointer (some ⟨p, 0, none⟩), .int .i64 i] (w.alloc o) fun e w' => e = .returned (.bool (copyB l)) ∧ Rx w0 w' p (copyL l i) ∧ w'.heap[w.heap.size]? = some o ∧ w.heap.size < w'.heap.size := by
  obtain ⟨a, h⟩ := h
  have h1 := h.below ((Below.refl _ _).alloc (Nat.le_refl _) o)
  refine (h1.copy i).mono ?_
  rintro e w' ⟨rfl, ha⟩
  refine ⟨rfl, Rx.of ha, ?_⟩
  obtain ⟨a', _, _, hb⟩ := ha
  have e1 := h.at_.lt
  have e2 := h.at_.ltb
  have := hb.size
  simp at this
  exact ⟨(hb.block _ (by simp) (by simp; omega)).trans (heap_alloc_new w o), by omega⟩

set_option maxHeartbeats 4000000 in
theorem awake_any (w : World) : Calls Try.prog 9 #[] w fun e w' => e = .returned (.bool true) ∧ Below w.heap.size w w' := by
  have HN := Lib.hid (new_run w w (Below.refl _ _))
  have hS1 : ∀ w' p, Rx w w' p [] → Calls Try.prog 11 #[.pointer (some ⟨p, 0, none⟩), .agg #[.int .i64 0, .int .i64 1, .string ⟨#[97]⟩]] w' fun e w'' => e = .returned (.int .i64 0) ∧ Rx w w'' p [A1] := fun w' p h => h.send A1
  have hS2 : ∀ w' p, Rx w w' p [A1] → Calls Try.prog 11 #[.pointer (some ⟨p, 0, none⟩), .agg #[.int .i64 1, .int .i64 2, .string ⟨#[98]⟩]] w' fun e w'' => e = .returned (.int .i64 0) ∧ Rx w w'' p [A1, B1] := fun w' p h => h.send B1
  have hS3 : ∀ w' p, Rx w w' p [A1, B1] → Calls Try.prog 11 #[.pointer (some ⟨p, 0, none⟩), .agg #[.int .i64 1, .int .i64 1, .string ⟨#[]⟩]] w' fun e w'' => e = .returned (.int .i64 1) ∧ Rx w w'' p [A1, B1] := fun w' p h => h.send C1
  have hT : ∀ w' p, Rx w w' p [A1, B1] → Calls Try.prog 13 #[.pointer (some ⟨p, 0, none⟩), .int .i64 3] w' fun e w'' => e = .returned (.tuple #[.agg #[.int .i64 1, .int .i64 2, .string ⟨#[98]⟩], .bool true]) ∧ Rx w w'' p [A1] := fun w' p h => h.take 3
  have hC : ∀ w' p, Rx w w' p [A1] → Calls Try.prog 15 #[.pointer (some ⟨p, 0, none⟩), .int .i64 (-1)] (w'.alloc (.cells #[.int .i64 1, .int .i64 2, .string ⟨#[98]⟩] 31)) fun e w'' => e = .returned (.bool true) ∧ Rx w w'' p [A1, A1] ∧ w''.heap[w'.heap.size]? = some (.cells #[.int .i64 1, .int .i64 2, .string ⟨#[98]⟩] 31) ∧ w'.heap.size < w''.heap.size := fun w' p h => h.copy_keep _ (-1)
  have hO : ∀ w' p, Rx w w' p [A1, A1] → Calls Try.prog 21 #[.pointer (some ⟨p, 0, none⟩), .int .i64 1] w' fun e w'' => e = .returned (.tuple #[.int .i64 0, .bool true]) ∧ Rx w w'' p [A1, A1] ∧ Below w'.heap.size w' w'' := fun w' p h => h.to 1
  have hL2 : ∀ w' p, Rx w w' p [A1, A1] → Calls Try.prog 20 #[.pointer (some ⟨p, 0, none⟩)] w' fun e w'' => e = .returned (.int .i64 2) ∧ w' = w'' := fun w' p h => h.len
  have hA : ∀ w' p, Rx w w' p [A1, A1] → Calls Try.prog 18 #[.pointer (some ⟨p, 0, none⟩)] w' fun e w'' => ∃ a' cap', e = .returned (.slice a' 2 cap') ∧ Rx w w'' p [A1, A1] := fun w' p h => h.all
  have hD : ∀ w' p, Rx w w' p [A1, A1] → Calls Try.prog 17 #[.pointer (some ⟨p, 0, none⟩), .int .i64 0] w' fun e w'' => e = .returned (.bool true) ∧ Rx w w'' p [A1] := fun w' p h => h.drop 0
  have hL1 : ∀ w' p, Rx w w' p [A1] → Calls Try.prog 20 #[.pointer (some ⟨p, 0, none⟩)] w' fun e w'' => e = .returned (.int .i64 1) ∧ w' = w'' := fun w' p h => h.len
  have HS1 := Lib.hid hS1
  have HS2 := Lib.hid hS2
  have HS3 := Lib.hid hS3
  have HT := Lib.hid hT
  have HC := Lib.hid hC
  have HO := Lib.hid hO
  have HL2 := Lib.hid hL2
  have HA := Lib.hid hA
  have HD := Lib.hid hD
  have HL1 := Lib.hid hL1
  clear hS1 hS2 hS3 hT hC hO hL2 hA hD hL1
  go_enter Try.func9, Try.ntmps9
  go_wp2_with (first
    | (go_at_call 10; with_reducible refine HN.out.mono ?_; rintro e w1 ⟨p, rfl, h1, _, _⟩
       have H := Lib.hid (show Rx w w1 p [] from ⟨_, h1⟩)
       clear h1)
    | (go_at_call 11; with_reducible refine (HS1.out _ _ H.out).mono ?_; rintro e w2 ⟨rfl, h2⟩
       have K2 := Lib.hid h2
       clear h2)
    | (go_at_call 11; with_reducible refine (HS2.out _ _ K2.out).mono ?_; rintro e w3 ⟨rfl, h3⟩
       have K3 := Lib.hid h3
       clear h3 K2)
    | (go_at_call 11; with_reducible refine (HS3.out _ _ K3.out).mono ?_; rintro e w4 ⟨rfl, h4⟩
       have K4 := Lib.hid h4
       clear h4)
    | (go_at_call 13; with_reducible refine (HT.out _ _ K4.out).mono ?_; rintro e w5 ⟨rfl, h5⟩
       have K5 := Lib.hid h5
       clear h5)
    | (go_at_call 15; with_reducible refine (HC.out _ _ K5.out).mono ?_; rintro e w6 ⟨rfl, h6, g6, s6⟩
       have K6 := Lib.hid h6
       have G6 := Lib.hid g6
       have S6 := Lib.hid s6
       clear h6 g6 s6)
    | (go_at_call 21; with_reducible refine (HO.out _ _ K6.out).mono ?_; rintro e w7 ⟨rfl, h7, b7⟩
       have K7 := Lib.hid h7
       have c7 : w7.cell? ⟨w5.heap.size, 2, none⟩ = some (.string ⟨#[98]⟩) := by rw [b7.cell (p := ⟨w5.heap.size, 2, none⟩) S6.out]; simp [World.cell?, G6.out]
       clear h7 b7)
    | (go_at_call 20; with_reducible refine (HL2.out _ _ K7.out).mono ?_; rintro e w8 ⟨rfl, rfl⟩)
    | (go_at_call 18; with_reducible refine (HA.out _ _ K7.out).mono ?_; rintro e w9 ⟨aA, cA, rfl, h9⟩
       have K9 := Lib.hid h9
       clear h9)
    | (go_at_call 17; with_reducible refine (HD.out _ _ K9.out).mono ?_; rintro e wa ⟨rfl, ha⟩
       have Ka := Lib.hid ha
       clear ha)
    | (go_at_call 20; with_reducible refine (HL1.out _ _ Ka.out).mono ?_; rintro e wb ⟨rfl, rfl⟩))
  go_ret
  exact ⟨rfl, Ka.out.be⟩
end Go.Proofs.Ythbgabmmfokioaa.Nt
