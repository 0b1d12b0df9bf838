/-
  Two senders of the call's own, beside one another.
-/
import Derived.Test.YtcnmkojlledipaaMrNum
namespace Go.Proofs.Ytcnmkojlledipaa.Mr
open Go.RowKit
set_option linter.unusedVariables false
set_option linter.unusedSimpArgs false
set_option maxRecDepth 20000

def Dis (L M : List Nat) : Prop := ∀ x ∈ L, x ∉ M
theorem Dis.symm {L M : List Nat} (h : Dis L M) : Dis M L := fun x hx hl => h x hl hx
theorem Dis.left {L L' M : List Nat} {B : Nat} (h : Dis L M) (hL : ∀ x ∈ L', x ∈ L ∨ B ≤ x) (hM : ∀ x ∈ M, x < B) : Dis L' M := by
  intro x hx hm
  rcases hL x hx with g | g
  · exact h x g hm
  · have := hM x hm; omega
theorem Dis.right {L M M' : List Nat} {B : Nat} (h : Dis L M) (hM : ∀ x ∈ M', x ∈ M ∨ B ≤ x) (hL : ∀ x ∈ L, x < B) : Dis L M' := (h.symm.left hM hL).symm
theorem SAt.lts {w : World} {p : Nat} {A : Int} {a : Option Addr} {l : List It} (h : SAt w p A a l) : ∀ x ∈ [p, blk p a], x < w.heap.size := by
  intro x hx
  simp at hx
  rcases hx with rfl | rfl
  · exact h.lt
  · exact h.ltb
theorem SAt.keep {w w' : World} {p : Nat} {A : Int} {a : Option Addr} {l : List It} (h : SAt w p A a l) {M : List Nat} (hb : But M w w') (hd : Dis M [p, blk p a]) : SAt w' p A a l :=
  h.but hb (fun hm => hd _ hm (by simp)) (fun hm => hd _ hm (by simp))
theorem Moved.both {w : World} {p : Nat} {a a' : Option Addr} (h : Moved w p a a') : ∀ x ∈ [p, Mr.blk p a'], x ∈ [p, Mr.blk p a] ∨ w.heap.size ≤ x := by
  intro x hx
  simp at hx
  rcases hx with rfl | rfl
  · simp
  · rcases h with e | e
    · rw [e]; simp
    · exact .inr e

structure S2 (w0 w : World) (p : Nat) (A : Int) (a : Option Addr) (l : List It) (q : Nat) (B : Int) (b : Option Addr) (m : List It) : Prop where
  r1 : Rn w0 w p A a l
  r2 : Rn w0 w q B b m
  d : Dis [p, blk p a] [q, blk q b]
def X2 (w0 w : World) (p : Nat) (A : Int) (l : List It) (q : Nat) (B : Int) (m : List It) : Prop := ∃ a b, S2 w0 w p A a l q B b m
section
variable {w0 w w' : World} {p q : Nat} {A B A' B' : Int} {a b : Option Addr} {l m l' m' : List It}
theorem S2.step1 (h : S2 w0 w p A a l q B b m) (k : Aft w0 w p a A' l' w') : X2 w0 w' p A' l' q B m := by
  obtain ⟨a', h1, h2, h3⟩ := k
  exact ⟨a', b, h1, ⟨h.r2.at_.keep h3 h.d, h.r2.op, h.r2.oa, h1.be⟩, h.d.left h2.both h.r2.at_.lts⟩
theorem S2.step2 (h : S2 w0 w p A a l q B b m) (k : Aft w0 w q b B' m' w') : X2 w0 w' p A l q B' m' := by
  obtain ⟨b', h1, h2, h3⟩ := k
  exact ⟨a, b', ⟨h.r1.at_.keep h3 h.d.symm, h.r1.op, h.r1.oa, h1.be⟩, h1, h.d.right h2.both h.r1.at_.lts⟩
theorem X2.below (h : X2 w0 w p A l q B m) (hb : Below w.heap.size w w') : X2 w0 w' p A l q B m := by
  obtain ⟨a, b, h⟩ := h
  exact ⟨a, b, h.r1.below hb, h.r2.below hb, h.d⟩
theorem X2.be (h : X2 w0 w p A l q B m) : Below w0.heap.size w0 w := by obtain ⟨a, b, h⟩ := h; exact h.r1.be
theorem X2.x1 (h : X2 w0 w p A l q B m) : Rx w0 w p A l := by obtain ⟨a, b, h⟩ := h; exact ⟨a, h.r1⟩
theorem X2.x2 (h : X2 w0 w p A l q B m) : Rx w0 w q B m := by obtain ⟨a, b, h⟩ := h; exact ⟨b, h.r2⟩
theorem X2.add1 (h : X2 w0 w p A l q B m) (x : It) (hl : l.length < 100000) : Calls Try.prog 12 #[.pointer (some ⟨p, 0, none⟩), itV x] w fun e w' => e = .returned (.tuple #[.int .i64 (addN A l), .int .i64 (addE A l)]) ∧ X2 w0 w' p A (addL A l x) q B m := by
  obtain ⟨a, b, h⟩ := h
  exact (h.r1.add x hl).mono fun e w' k => ⟨k.1, h.step1 k.2⟩
theorem X2.add2 (h : X2 w0 w p A l q B m) (x : It) (hl : m.length < 100000) : Calls Try.prog 12 #[.pointer (some ⟨q, 0, none⟩), itV x] w fun e w' => e = .returned (.tuple #[.int .i64 (addN B m), .int .i64 (addE B m)]) ∧ X2 w0 w' p A l q B (addL B m x) := by
  obtain ⟨a, b, h⟩ := h
  exact (h.r2.add x hl).mono fun e w' k => ⟨k.1, h.step2 k.2⟩
theorem X2.ack1 (h : X2 w0 w p A l q B m) (n : Int) : Calls Try.prog 14 #[.pointer (some ⟨p, 0, none⟩), .int .i64 n] w fun e w' => e = .returned (.bool (ackB A l n)) ∧ X2 w0 w' p (ackA A l n) (ackL A l n) q B m := by
  obtain ⟨a, b, h⟩ := h
  exact (h.r1.ack n).mono fun e w' k => ⟨k.1, h.step1 k.2⟩
theorem X2.ack2 (h : X2 w0 w p A l q B m) (n : Int) : Calls Try.prog 14 #[.pointer (some ⟨q, 0, none⟩), .int .i64 n] w fun e w' => e = .returned (.bool (ackB B m n)) ∧ X2 w0 w' p A l q (ackA B m n) (ackL B m n) := by
  obtain ⟨a, b, h⟩ := h
  exact (h.r2.ack n).mono fun e w' k => ⟨k.1, h.step2 k.2⟩
end
/-- a second sender beside a first one -/
theorem new_two {w0 w : World} {p : Nat} {A : Int} {l : List It} (h : Rx w0 w p A l) (b : Int) : Calls Try.prog 10 #[.int .i64 b] w fun e w' => ∃ q, e = .returned (.pointer (some ⟨q, 0, none⟩)) ∧ X2 w0 w' p A l q (base b) [] := by
  obtain ⟨a, h⟩ := h
  refine (new_run w0 w b h.be).mono ?_
  rintro e w' ⟨rfl, h1, h2⟩
  refine ⟨_, rfl, a, none, h.below h2, h1, ?_⟩
  intro x hx hm
  have := h.at_.lts x hx
  simp [blk] at hm
  omega

/-- two senders, and a block that is held beside them -/
def X3 (w0 w : World) (p : Nat) (A : Int) (l : List It) (q : Nat) (B : Int) (m : List It) (G : Nat) (o : Obj) : Prop :=
  ∃ a b, S2 w0 w p A a l q B b m ∧ w.heap[G]? = some o ∧ Dis [p, blk p a] [G] ∧ Dis [q, blk q b] [G]
section
variable {w0 w w' : World} {p q G : Nat} {A B A' B' : Int} {a b : Option Addr} {l m l' m' : List It} {o : Obj}
theorem Dis.one {L : List Nat} {G : Nat} (h : Dis L [G]) : G ∉ L := fun hm => h G hm (by simp)
theorem X3.x2 (h : X3 w0 w p A l q B m G o) : X2 w0 w p A l q B m := by obtain ⟨a, b, h, _⟩ := h; exact ⟨a, b, h⟩
theorem X3.held (h : X3 w0 w p A l q B m G o) : w.heap[G]? = some o := by obtain ⟨a, b, _, h, _⟩ := h; exact h
theorem X3.below (h : X3 w0 w p A l q B m G o) (hb : Below w.heap.size w w') : X3 w0 w' p A l q B m G o := by
  obtain ⟨a, b, h, k, d1, d2⟩ := h
  exact ⟨a, b, ⟨h.r1.below hb, h.r2.below hb, h.d⟩, (hb.block _ (lt_of_heap k)).trans k, d1, d2⟩
theorem X3.of (h : X2 w0 w p A l q B m) (hb : Below w.heap.size w w') (hG : w.heap.size ≤ G) (k : w'.heap[G]? = some o) : X3 w0 w' p A l q B m G o := by
  obtain ⟨a, b, h⟩ := h
  refine ⟨a, b, ⟨h.r1.below hb, h.r2.below hb, h.d⟩, k, fun x hx hm => ?_, fun x hx hm => ?_⟩
  · have := h.r1.at_.lts x hx; simp at hm; omega
  · have := h.r2.at_.lts x hx; simp at hm; omega
theorem X3.step1 (h : S2 w0 w p A a l q B b m) (k : w.heap[G]? = some o) (d1 : Dis [p, blk p a] [G]) (d2 : Dis [q, blk q b] [G]) (t : Aft w0 w p a A' l' w') : X3 w0 w' p A' l' q B m G o := by
  obtain ⟨a', h1, h2, h3⟩ := t
  exact ⟨a', b, ⟨h1, ⟨h.r2.at_.keep h3 h.d, h.r2.op, h.r2.oa, h1.be⟩, h.d.left h2.both h.r2.at_.lts⟩, (h3.block _ (lt_of_heap k) d1.one).trans k, d1.left h2.both (fun x hx => by simp at hx; subst hx; exact lt_of_heap k), d2⟩
theorem X3.step2 (h : S2 w0 w p A a l q B b m) (k : w.heap[G]? = some o) (d1 : Dis [p, blk p a] [G]) (d2 : Dis [q, blk q b] [G]) (t : Aft w0 w q b B' m' w') : X3 w0 w' p A l q B' m' G o := by
  obtain ⟨b', h1, h2, h3⟩ := t
  exact ⟨a, b', ⟨⟨h.r1.at_.keep h3 h.d.symm, h.r1.op, h.r1.oa, h1.be⟩, h1, h.d.right h2.both h.r1.at_.lts⟩, (h3.block _ (lt_of_heap k) d2.one).trans k, d1, d2.left h2.both (fun x hx => by simp at hx; subst hx; exact lt_of_heap k)⟩
theorem X3.add1 (h : X3 w0 w p A l q B m G o) (x : It) (hl : l.length < 100000) : Calls Try.prog 12 #[.pointer (some ⟨p, 0, none⟩), itV x] w fun e w' => e = .returned (.tuple #[.int .i64 (addN A l), .int .i64 (addE A l)]) ∧ X3 w0 w' p A (addL A l x) q B m G o := by
  obtain ⟨a, b, h, k, d1, d2⟩ := h
  exact (h.r1.add x hl).mono fun e w' t => ⟨t.1, X3.step1 h k d1 d2 t.2⟩
theorem X3.add2 (h : X3 w0 w p A l q B m G o) (x : It) (hl : m.length < 100000) : Calls Try.prog 12 #[.pointer (some ⟨q, 0, none⟩), itV x] w fun e w' => e = .returned (.tuple #[.int .i64 (addN B m), .int .i64 (addE B m)]) ∧ X3 w0 w' p A l q B (addL B m x) G o := by
  obtain ⟨a, b, h, k, d1, d2⟩ := h
  exact (h.r2.add x hl).mono fun e w' t => ⟨t.1, X3.step2 h k d1 d2 t.2⟩
theorem X3.ack1 (h : X3 w0 w p A l q B m G o) (n : Int) : Calls Try.prog 14 #[.pointer (some ⟨p, 0, none⟩), .int .i64 n] w fun e w' => e = .returned (.bool (ackB A l n)) ∧ X3 w0 w' p (ackA A l n) (ackL A l n) q B m G o := by
  obtain ⟨a, b, h, k, d1, d2⟩ := h
  exact (h.r1.ack n).mono fun e w' t => ⟨t.1, X3.step1 h k d1 d2 t.2⟩
theorem X3.ack2 (h : X3 w0 w p A l q B m G o) (n : Int) : Calls Try.prog 14 #[.pointer (some ⟨q, 0, none⟩), .int .i64 n] w fun e w' => e = .returned (.bool (ackB B m n)) ∧ X3 w0 w' p A l q (ackA B m n) (ackL B m n) G o := by
  obtain ⟨a, b, h, k, d1, d2⟩ := h
  exact (h.r2.ack n).mono fun e w' t => ⟨t.1, X3.step2 h k d1 d2 t.2⟩
end

/-- an item of an own row: its cells, which can be written -/
theorem OwnI.item {w : World} {a : Option Addr} {cap : Nat} {l : List It} (h : OwnI w a cap l) {k : Nat} {x : It} (hx : l[k]? = some x) :
    ∃ g off, a = some ⟨g, off, none⟩ ∧ g < w.heap.size ∧ w.cell? ⟨g, off + k * 5, none⟩ = some (.int .i64 x.seq) ∧ w.cell? ⟨g, off + k * 5 + 1, none⟩ = some (.int .i64 x.blk) ∧ w.cell? ⟨g, off + k * 5 + 2, none⟩ = some (.string x.data) ∧ w.cell? ⟨g, off + k * 5 + 3, none⟩ = some (.int .i64 x.cl) ∧ w.cell? ⟨g, off + k * 5 + 4, none⟩ = some (.int .i64 x.n) ∧ w.frozen? ⟨g, off + k * 5, none⟩ = false ∧ w.frozen? ⟨g, off + k * 5 + 2, none⟩ = false := by
  obtain ⟨g, off, rfl, h1, h2⟩ := h.at hx
  obtain ⟨g', off', he, h3, c⟩ := h.rd.at hx
  injection he with he
  injection he with e1 e2
  subst e1 e2
  exact ⟨g, off, rfl, h1, c.1, c.2.1, c.2.2.1, c.2.2.2.1, c.2.2.2.2, h2 0 (by omega), h2 2 (by omega)⟩

/-- how many are taken away -/
def ackK (A : Int) (n : Nat) (q : Int) : Nat := if A < q ∧ q ≤ A + n then (q - A).toNat else 0
theorem ackK_le (A : Int) (n : Nat) (q : Int) : ackK A n q ≤ n := by unfold ackK; split <;> omega
theorem ackK_add (A s : Int) (n : Nat) (q : Int) : ackK (A + s) n (q + s) = ackK A n q := by
  unfold ackK
  by_cases h : A < q ∧ q ≤ A + n
  · rw [if_pos h, if_pos (by omega)]; omega
  · rw [if_neg h, if_neg (by omega)]
theorem ack_gen (A : Int) (xs : List It) (q : Int) : ackB A (numb A xs) q = decide (A < q ∧ q ≤ A + (xs.length : Int)) ∧ ackA A (numb A xs) q = A + (ackK A xs.length q : Int) ∧ ackL A (numb A xs) q = numb (A + (ackK A xs.length q : Int)) (xs.drop (ackK A xs.length q)) := by
  have e : last A (numb A xs) = A + (xs.length : Int) := by unfold last; rw [numb_length]
  have hb : ackB A (numb A xs) q = decide (A < q ∧ q ≤ A + (xs.length : Int)) := by unfold ackB; rw [e]; simp
  unfold ackA ackL ackK
  rw [hb]
  by_cases h : A < q ∧ q ≤ A + (xs.length : Int)
  · rw [decide_eq_true h, if_pos rfl, if_pos rfl, if_pos h, numb_drop]
    exact ⟨rfl, by omega, rfl⟩
  · rw [decide_eq_false h, if_neg Bool.false_ne_true, if_neg Bool.false_ne_true, if_neg h]
    exact ⟨rfl, by simp, by simp⟩
end Go.Proofs.Ytcnmkojlledipaa.Mr
