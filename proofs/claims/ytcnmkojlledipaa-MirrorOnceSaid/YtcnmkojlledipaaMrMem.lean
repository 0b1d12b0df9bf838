/-
  Rows of items in memory: what stays while some blocks are written; rows that are read, rows of the call's own; append.
-/
import Derived.Test.YtcnmkojlledipaaProg
import Derived.Test.YtcnmkojlledipaaMrMath
import Derived.WalkKit
import Derived.Lib.Hide
import Derived.Below
import Derived.Maps.AppendAt
import Derived.OwnWalk
import Derived.Deep.AppendSrc
import Derived.Deep.Upon
import Derived.Deep.RegionLaw
import Derived.Deep.QuietTactic
import Derived.BigQuiet
import Derived.Shelf.RegionOpenPlain
namespace Go.Proofs.Ytcnmkojlledipaa.Mr
open Go.RowKit
set_option linter.unusedVariables false
set_option linter.unusedSimpArgs false
set_option maxRecDepth 20000

/-! what stays: all blocks but those of l -/
structure But (l : List Nat) (w w' : World) : Prop where
  os : w'.os = w.os
  tape : w'.tape = w.tape
  output : w'.output = w.output
  size : w.heap.size ≤ w'.heap.size
  block : ∀ k, k < w.heap.size → k ∉ l → w'.heap[k]? = w.heap[k]?

theorem But.refl (l : List Nat) (w : World) : But l w w := ⟨rfl, rfl, rfl, Nat.le_refl _, fun _ _ _ => rfl⟩
theorem But.trans {l : List Nat} {a b c : World} (h : But l a b) (k : But l b c) : But l a c :=
  ⟨k.os.trans h.os, k.tape.trans h.tape, k.output.trans h.output, Nat.le_trans h.size k.size, fun i hi hn => (k.block i (Nat.lt_of_lt_of_le hi h.size) hn).trans (h.block i hi hn)⟩
theorem But.mono {l m : List Nat} {a b : World} (h : But l a b) (hs : ∀ x, x ∈ l → x ∈ m) : But m a b := ⟨h.os, h.tape, h.output, h.size, fun i hi hn => h.block i hi fun hl => hn (hs i hl)⟩
/-- what is new since may be written, too -/
theorem But.then {l m : List Nat} {a b c : World} (h : But l a b) (k : But m b c) (hm : ∀ x ∈ m, x ∈ l ∨ a.heap.size ≤ x) : But l a c :=
  ⟨k.os.trans h.os, k.tape.trans h.tape, k.output.trans h.output, Nat.le_trans h.size k.size, fun i hi hn =>
    (k.block i (Nat.lt_of_lt_of_le hi h.size) (fun hx => by rcases hm i hx with g | g; exact hn g; omega)).trans (h.block i hi hn)⟩
theorem But.alloc {l : List Nat} {a w : World} (h : But l a w) (o : Obj) : But l a (w.alloc o) :=
  h.trans ⟨rfl, rfl, rfl, by simp, fun k hk _ => Below.heap_alloc _ _ _ hk⟩
theorem But.set {l : List Nat} {a w : World} (h : But l a w) {p : Addr} (v : Value) (hp : p.block ∈ l ∨ a.heap.size ≤ p.block) : But l a (w.setCell p v) := by
  refine ⟨h.os, h.tape, h.output, by simpa [World.setCell] using h.size, fun k hk hn => ?_⟩
  have hne : k ≠ p.block := by
    rintro rfl
    rcases hp with hp | hp
    · exact hn hp
    · omega
  exact (Below.heap_setCell w p v k hne).trans (h.block k hk hn)
theorem But.drew {l : List Nat} {a w : World} (h : But l a w) : But l a w.drew := ⟨h.os, h.tape, h.output, h.size, h.block⟩
theorem But.drewN {l : List Nat} {a w : World} (h : But l a w) (n : Nat) : But l a (w.drewN n) := ⟨h.os, h.tape, h.output, h.size, h.block⟩
theorem But.grown {l : List Nat} {a w w' : World} {row : Option Nat} (h : But l a w) (hg : w.grownBy w' row) (hr : ∀ k, row = some k → k ∈ l ∨ a.heap.size ≤ k) : But l a w' := by
  refine ⟨hg.os.trans h.os, hg.tape.trans h.tape, hg.output.trans h.output, Nat.le_trans h.size hg.size, fun k hk hn => ?_⟩
  have hne : some k ≠ row := by
    intro e
    rcases hr k e.symm with h1 | h1
    · exact hn h1
    · omega
  exact (hg.block k (Nat.lt_of_lt_of_le hk h.size) hne).trans (h.block k hk hn)
theorem But.below {l : List Nat} {a w w' : World} {B : Nat} (h : But l a w) (hb : Below B w w') (hB : a.heap.size ≤ B) : But l a w' :=
  ⟨hb.os.trans h.os, hb.tape.trans h.tape, hb.output.trans h.output, Nat.le_trans h.size hb.size, fun k hk hn => (hb.block k (by omega)).trans (h.block k hk hn)⟩
theorem But.to_below {l : List Nat} {a w : World} {B : Nat} (h : But l a w) (hl : ∀ x ∈ l, B ≤ x) (hB : B ≤ a.heap.size) : Below B a w :=
  ⟨h.os, h.tape, h.output, h.size, fun k hk => h.block k (by omega) fun hm => by have := hl k hm; omega⟩
theorem But.of_below {a w : World} (h : Below a.heap.size a w) : But [] a w := (But.refl _ _).below h (Nat.le_refl _)
theorem But.cell {l : List Nat} {a w : World} (h : But l a w) {b o : Nat} (hb : b < a.heap.size) (hn : b ∉ l) : w.cell? ⟨b, o, none⟩ = a.cell? ⟨b, o, none⟩ := World.cell?_of_block (w := a) (h.block b hb hn)
theorem But.frozen {l : List Nat} {a w : World} (h : But l a w) {b o : Nat} (hb : b < a.heap.size) (hn : b ∉ l) : w.frozen? ⟨b, o, none⟩ = a.frozen? ⟨b, o, none⟩ := World.frozen?_of_block (w := a) (h.block b hb hn)
theorem below_drewN (w : World) (n : Nat) : Below w.heap.size w (w.drewN n) := ⟨rfl, rfl, rfl, Nat.le_refl _, fun _ _ => rfl⟩

/-! a row of items, as cells -/
def itms : List It → List Value
  | [] => []
  | x :: l => .int .i64 x.seq :: .int .i64 x.blk :: .string x.data :: .int .i64 x.cl :: .int .i64 x.n :: itms l
/-- an item as a value -/
def itV (x : It) : Value := .agg #[.int .i64 x.seq, .int .i64 x.blk, .string x.data, .int .i64 x.cl, .int .i64 x.n]

theorem itms_length : ∀ l : List It, (itms l).length = l.length * 5
  | [] => rfl
  | x :: l => by simp only [itms, List.length_cons, itms_length l]; omega
theorem itms_append : ∀ l m : List It, itms (l ++ m) = itms l ++ itms m
  | [], m => rfl
  | x :: l, m => by simp only [itms, List.cons_append, itms_append l m]
theorem itms_get : ∀ {l : List It} {i : Nat} {x : It}, l[i]? = some x → (itms l)[i * 5]? = some (.int .i64 x.seq) ∧ (itms l)[i * 5 + 1]? = some (.int .i64 x.blk) ∧ (itms l)[i * 5 + 2]? = some (.string x.data) ∧ (itms l)[i * 5 + 3]? = some (.int .i64 x.cl) ∧ (itms l)[i * 5 + 4]? = some (.int .i64 x.n)
  | [], i, x, h => by simp at h
  | q :: l, 0, x, h => by simp at h; subst h; exact ⟨rfl, rfl, rfl, rfl, rfl⟩
  | q :: l, i + 1, x, h => by
    have := itms_get (l := l) (i := i) (x := x) (by simpa using h)
    rw [show (i + 1) * 5 = i * 5 + 1 + 1 + 1 + 1 + 1 by omega]
    simpa [itms] using this
theorem itms_drop : ∀ (l : List It) (k : Nat), (itms l).drop (k * 5) = itms (l.drop k)
  | l, 0 => by simp
  | [], k + 1 => by simp [itms]
  | x :: l, k + 1 => by
    rw [show (k + 1) * 5 = k * 5 + 1 + 1 + 1 + 1 + 1 by omega]
    simpa [itms] using itms_drop l k
theorem itms_take : ∀ (l : List It) (k : Nat), (itms l).take (k * 5) = itms (l.take k)
  | l, 0 => by simp [itms]
  | [], k + 1 => by simp [itms]
  | x :: l, k + 1 => by
    rw [show (k + 1) * 5 = k * 5 + 1 + 1 + 1 + 1 + 1 by omega]
    simpa [itms] using itms_take l k
theorem itms_one : ∀ l : List It, ∀ u ∈ itms l, u.oneCell' = true
  | [], u, h => by simp [itms] at h
  | x :: l, u, h => by
    simp only [itms, List.mem_cons] at h
    rcases h with rfl | rfl | rfl | rfl | rfl | h
    · rfl
    · rfl
    · rfl
    · rfl
    · rfl
    · exact itms_one l u h
/-- one item's number, one item's bytes -/
theorem itms_seq : ∀ {l : List It} {i : Nat} {x : It} (s : Int), l[i]? = some x → itms (l.set i (x.no s)) = (itms l).set (i * 5) (.int .i64 s)
  | [], i, x, s, h => by simp at h
  | q :: l, 0, x, s, h => by simp at h; subst h; rfl
  | q :: l, i + 1, x, s, h => by
    have := itms_seq (l := l) (i := i) (x := x) s (by simpa using h)
    rw [show (i + 1) * 5 = i * 5 + 1 + 1 + 1 + 1 + 1 by omega]
    simpa [itms] using this
theorem itms_dt : ∀ {l : List It} {i : Nat} {x : It} (s : ByteArray), l[i]? = some x → itms (l.set i (x.dt s)) = (itms l).set (i * 5 + 2) (.string s)
  | [], i, x, s, h => by simp at h
  | q :: l, 0, x, s, h => by simp at h; subst h; rfl
  | q :: l, i + 1, x, s, h => by
    have := itms_dt (l := l) (i := i) (x := x) s (by simpa using h)
    rw [show (i + 1) * 5 + 2 = i * 5 + 2 + 1 + 1 + 1 + 1 + 1 by omega]
    simpa [itms] using this

theorem it_info : (Try.prog.info? 29).map (fun i => (i.zero, i.size, i.bytes)) = some (some (.agg #[.int .i64 0, .int .i64 0, .string ⟨#[]⟩, .int .i64 0, .int .i64 0]), 5, 48) := by kernel_rfl

/-- a slice that reads as items -/
def Rd (w : World) (a : Option Addr) (n : Nat) (l : List It) : Prop :=
  l.length = n ∧ (n = 0 ∨ ∃ b off, a = some ⟨b, off, none⟩ ∧ b < w.heap.size ∧ ∀ j u, (itms l)[j]? = some u → w.cell? ⟨b, off + j, none⟩ = some u)

theorem lt_of_heap {w : World} {g : Nat} {o : Obj} (h : w.heap[g]? = some o) : g < w.heap.size := (Array.getElem?_eq_some_iff.1 h).1
theorem addr_add (b off k : Nat) : ((⟨b, off, none⟩ : Addr).add k) = ⟨b, off + k, none⟩ := by by_cases z : k = 0 <;> simp [Addr.add, z]

theorem Rd.nil (w : World) (a : Option Addr) : Rd w a 0 [] := ⟨rfl, .inl rfl⟩
theorem Rd.at {w : World} {a : Option Addr} {n : Nat} {l : List It} (h : Rd w a n l) {i : Nat} {x : It} (hx : l[i]? = some x) :
    ∃ b off, a = some ⟨b, off, none⟩ ∧ b < w.heap.size ∧ w.cell? ⟨b, off + i * 5, none⟩ = some (.int .i64 x.seq) ∧ w.cell? ⟨b, off + i * 5 + 1, none⟩ = some (.int .i64 x.blk) ∧ w.cell? ⟨b, off + i * 5 + 2, none⟩ = some (.string x.data) ∧ w.cell? ⟨b, off + i * 5 + 3, none⟩ = some (.int .i64 x.cl) ∧ w.cell? ⟨b, off + i * 5 + 4, none⟩ = some (.int .i64 x.n) := by
  have hi := (List.getElem?_eq_some_iff.1 hx).1
  rcases h.2 with h0 | ⟨b, off, ha, hb, hc⟩
  · have := h.1; omega
  · obtain ⟨k1, k2, k3, k4, k5⟩ := itms_get hx
    exact ⟨b, off, ha, hb, hc _ _ k1, by rw [Nat.add_assoc]; exact hc _ _ k2, by rw [Nat.add_assoc]; exact hc _ _ k3, by rw [Nat.add_assoc]; exact hc _ _ k4, by rw [Nat.add_assoc]; exact hc _ _ k5⟩
theorem Rd.keep {w w' : World} {a : Option Addr} {n : Nat} {l : List It} (h : Rd w a n l) (hs : w.heap.size ≤ w'.heap.size) (hk : ∀ b off, a = some ⟨b, off, none⟩ → b < w.heap.size → w'.heap[b]? = w.heap[b]?) : Rd w' a n l := by
  refine ⟨h.1, ?_⟩
  rcases h.2 with h0 | ⟨b, off, ha, hb, hc⟩
  · exact .inl h0
  · exact .inr ⟨b, off, ha, by omega, fun j u hu => (World.cell?_of_block (w := w) (a := ⟨b, off + j, none⟩) (hk b off ha hb)).trans (hc j u hu)⟩
theorem Rd.below {w w' : World} {a : Option Addr} {n : Nat} {l : List It} (h : Rd w a n l) {B : Nat} (hb : Below B w w') (hB : w.heap.size ≤ B) : Rd w' a n l := h.keep hb.size fun b off _ hlt => hb.block b (by omega)
theorem Rd.drew {w : World} {a : Option Addr} {n : Nat} {l : List It} (h : Rd w a n l) (q : Nat) : Rd (w.drewN q) a n l := h
theorem Rd.drop {w : World} {b off n : Nat} {l : List It} (h : Rd w (some ⟨b, off, none⟩) n l) (k : Nat) (hk : k ≤ n) : Rd w (some ⟨b, off + k * 5, none⟩) (n - k) (l.drop k) := by
  refine ⟨by simp [h.1], ?_⟩
  rcases h.2 with h0 | ⟨b', off', ha, hb, hc⟩
  · exact .inl (by omega)
  · injection ha with ha
    injection ha with e1 e2
    subst e1 e2
    refine .inr ⟨b, off + k * 5, rfl, hb, fun j u hu => ?_⟩
    rw [← itms_drop, List.getElem?_drop] at hu
    rw [Nat.add_assoc]
    exact hc _ u hu

/-- an own row of items, anywhere in its block -/
def OwnI (w : World) (a : Option Addr) (cap : Nat) (l : List It) : Prop :=
  (a = none ∧ cap = 0 ∧ l = []) ∨ ∃ g off cur, a = some ⟨g, off, none⟩ ∧ w.heap[g]? = some (.cells cur 29 (0, 0)) ∧ l.length ≤ cap ∧ cap ≤ maxLen ∧ off + cap * 5 ≤ cur.size ∧ (cur.toList.drop off).take (l.length * 5) = itms l
/-- the block of a row, if it has one -/
def blk (p : Nat) : Option Addr → Nat
  | some a => a.block
  | none => p

theorem OwnI.nil (w : World) : OwnI w none 0 [] := .inl ⟨rfl, rfl, rfl⟩
theorem OwnI.cap {w : World} {a : Option Addr} {cap : Nat} {l : List It} (h : OwnI w a cap l) : l.length ≤ cap ∧ cap ≤ maxLen := by
  rcases h with ⟨rfl, rfl, rfl⟩ | ⟨g, off, cur, rfl, h1, h2, h3, h4, h5⟩
  · simp [maxLen]
  · exact ⟨h2, h3⟩
theorem OwnI.of_block {w w' : World} {a : Option Addr} {cap : Nat} {l : List It} (h : OwnI w a cap l) {p : Nat} (hb : w'.heap[blk p a]? = w.heap[blk p a]?) : OwnI w' a cap l := by
  rcases h with h | ⟨g, off, cur, rfl, h1, h2⟩
  · exact .inl h
  · exact .inr ⟨g, off, cur, rfl, by simp only [blk] at hb; rw [hb]; exact h1, h2⟩
theorem OwnI.lt {w : World} {a : Option Addr} {cap : Nat} {l : List It} (h : OwnI w a cap l) {p : Nat} (hl : p < w.heap.size) : blk p a < w.heap.size := by
  rcases h with ⟨rfl, rfl, rfl⟩ | ⟨g, off, cur, rfl, h1, h2, h3, h4, h5⟩
  · exact hl
  · exact lt_of_heap h1
theorem OwnI.but {w w' : World} {a : Option Addr} {cap : Nat} {l : List It} (h : OwnI w a cap l) {q : List Nat} (hb : But q w w') {p : Nat} (hp : blk p a ∉ q) : OwnI w' a cap l := by
  rcases h with h | ⟨g, off, cur, rfl, h1, h2⟩
  · exact .inl h
  · exact .inr ⟨g, off, cur, rfl, by rw [hb.block g (lt_of_heap h1) hp]; exact h1, h2⟩
theorem OwnI.below {w w' : World} {a : Option Addr} {cap : Nat} {l : List It} (h : OwnI w a cap l) {B : Nat} (hb : Below B w w') (hB : w.heap.size ≤ B) : OwnI w' a cap l := by
  rcases h with h | ⟨g, off, cur, rfl, h1, h2⟩
  · exact .inl h
  · exact .inr ⟨g, off, cur, rfl, by rw [hb.block g (by have := lt_of_heap h1; omega)]; exact h1, h2⟩
theorem OwnI.drew {w : World} {a : Option Addr} {cap : Nat} {l : List It} (h : OwnI w a cap l) (q : Nat) : OwnI (w.drewN q) a cap l := h
theorem OwnI.rd {w : World} {a : Option Addr} {cap : Nat} {l : List It} (h : OwnI w a cap l) : Rd w a l.length l := by
  refine ⟨rfl, ?_⟩
  rcases h with ⟨rfl, rfl, rfl⟩ | ⟨g, off, cur, rfl, h1, h2, h3, h4, h5⟩
  · exact .inl rfl
  · refine .inr ⟨g, off, rfl, lt_of_heap h1, fun j u hu => ?_⟩
    have hj := (List.getElem?_eq_some_iff.1 hu).1
    rw [itms_length] at hj
    rw [← h5, List.getElem?_take, if_pos hj, List.getElem?_drop, Array.getElem?_toList] at hu
    simp only [World.cell?, h1]
    simpa using hu
/-- the rest of an own row -/
theorem OwnI.rest {w : World} {g off cap : Nat} {l : List It} (h : OwnI w (some ⟨g, off, none⟩) cap l) (k : Nat) (hk : k ≤ l.length) : OwnI w (some ⟨g, off + k * 5, none⟩) (cap - k) (l.drop k) := by
  rcases h with ⟨h, _, _⟩ | ⟨g', off', cur, he, h1, h2, h3, h4, h5⟩
  · cases h
  · injection he with he
    injection he with e1 e2
    subst e1 e2
    refine .inr ⟨g, off + k * 5, cur, rfl, h1, by simp; omega, by omega, by omega, ?_⟩
    rw [← itms_drop, ← h5, List.drop_take, List.drop_drop, List.length_drop]
    congr 1
    omega
theorem OwnI.none_left {w : World} {g off cap : Nat} {l : List It} (h : OwnI w (some ⟨g, off, none⟩) cap l) : OwnI w (some ⟨g, off, none⟩) 0 [] := by
  rcases h with ⟨h, _, _⟩ | ⟨g', off', cur, he, h1, h2, h3, h4, h5⟩
  · cases h
  · injection he with he
    injection he with e1 e2
    subst e1 e2
    exact .inr ⟨g, off, cur, rfl, h1, by simp, by simp, by omega, by simp [itms]⟩
theorem take_set' {α : Type} (l : List α) (n i : Nat) (v : α) : (l.set i v).take n = (l.take n).set i v := by
  rw [List.take_set]
theorem drop_set' {α : Type} (l : List α) (o i : Nat) (v : α) : (l.set (o + i) v).drop o = (l.drop o).set i v := by
  rw [List.drop_set, if_neg (by omega), Nat.add_sub_cancel_left]
/-- one cell of an own row is written -/
theorem OwnI.write {w : World} {a : Option Addr} {cap : Nat} {l l' : List It} (h : OwnI w a cap l) {g off : Nat} (ha : a = some ⟨g, off, none⟩) (j : Nat) (v : Value) (hl : l'.length = l.length) (hv : itms l' = (itms l).set j v) : OwnI (w.setCell ⟨g, off + j, none⟩ v) a cap l' := by
  subst ha
  rcases h with ⟨h, _, _⟩ | ⟨g', off', cur, he, h1, h2, h3, h4, h5⟩
  · cases h
  · injection he with he
    injection he with e1 e2
    subst e1 e2
    refine .inr ⟨g, off, cur.setIfInBounds (off + j) v, rfl, ?_, by omega, h3, by simpa using h4, ?_⟩
    · simp only [World.setCell, Array.getElem?_modify, if_pos]
      simp [h1]
    · rw [Array.toList_setIfInBounds, drop_set', take_set', hl, h5, hv]
theorem OwnI.seq {w : World} {cap : Nat} {l : List It} {g off : Nat} (h : OwnI w (some ⟨g, off, none⟩) cap l) {k : Nat} {x : It} (hx : l[k]? = some x) (s : Int) : OwnI (w.setCell ⟨g, off + k * 5, none⟩ (.int .i64 s)) (some ⟨g, off, none⟩) cap (l.set k (x.no s)) :=
  h.write rfl (k * 5) _ (by simp) (itms_seq s hx)
theorem OwnI.dt {w : World} {cap : Nat} {l : List It} {g off : Nat} (h : OwnI w (some ⟨g, off, none⟩) cap l) {k : Nat} {x : It} (hx : l[k]? = some x) (s : ByteArray) : OwnI (w.setCell ⟨g, off + k * 5 + 2, none⟩ (.string s)) (some ⟨g, off, none⟩) cap (l.set k (x.dt s)) := by
  rw [Nat.add_assoc]
  exact h.write rfl (k * 5 + 2) _ (by simp) (itms_dt s hx)
theorem OwnI.at {w : World} {a : Option Addr} {cap : Nat} {l : List It} (h : OwnI w a cap l) {k : Nat} {x : It} (hx : l[k]? = some x) :
    ∃ g off, a = some ⟨g, off, none⟩ ∧ g < w.heap.size ∧ ∀ i, i < 5 → w.frozen? ⟨g, off + k * 5 + i, none⟩ = false := by
  have hi := (List.getElem?_eq_some_iff.1 hx).1
  rcases h with ⟨rfl, rfl, rfl⟩ | ⟨g, off, cur, rfl, h1, h2, h3, h4, h5⟩
  · simp at hi
  · exact ⟨g, off, rfl, lt_of_heap h1, fun i hi => by simp [World.frozen?, h1]⟩

/-- where a row lies behind an append: where it lay, or in a new block -/
def Anew (w : World) (a a' : Option Addr) : Prop := a' = a ∨ ∃ g, a' = some ⟨g, 0, none⟩ ∧ w.heap.size ≤ g
theorem Anew.blk {w : World} {a a' : Option Addr} (h : Anew w a a') (p : Nat) : blk p a' = blk p a ∨ w.heap.size ≤ blk p a' := by
  rcases h with rfl | ⟨g, rfl, hg⟩
  · exact .inl rfl
  · exact .inr hg
theorem Anew.refl (w : World) (a : Option Addr) : Anew w a a := .inl rfl
theorem Anew.trans {w w' : World} {a b c : Option Addr} (h : Anew w a b) (k : Anew w' b c) (hs : w.heap.size ≤ w'.heap.size) : Anew w a c := by
  rcases k with rfl | ⟨g, rfl, hg⟩
  · exact h
  · exact .inr ⟨g, rfl, by omega⟩
theorem Anew.more {w w' : World} {a b : Option Addr} (h : Anew w' a b) (hs : w.heap.size ≤ w'.heap.size) : Anew w a b := by
  rcases h with h | ⟨g, rfl, hg⟩
  · exact .inl h
  · exact .inr ⟨g, rfl, by omega⟩

theorem lay_take {α : Type} (l : List α) (o : Nat) (v : α) (ho : o < l.length) : (l.set o v).take (o + 1) = l.take o ++ [v] := by
  rw [List.take_succ_eq_append_getElem (by simpa using ho), List.getElem_set_self, List.take_set_of_le (Nat.le_refl _)]
theorem lay_drop {α : Type} (l : List α) (o k : Nat) (v : α) (h : o < k) : (l.set o v).drop k = l.drop k := List.drop_set_of_lt h
theorem obj_setCells {b : Nat} {e : TypeId} {fr : Nat × Nat} : ∀ (vs : List Value) (o : Nat) (w : World) (cur : Array Value), w.heap[b]? = some (.cells cur e fr) → o + vs.length ≤ cur.size →
    ∃ cur', (w.setCells b o vs).heap[b]? = some (.cells cur' e fr) ∧ cur'.size = cur.size ∧ cur'.toList = cur.toList.take o ++ vs ++ cur.toList.drop (o + vs.length)
  | [], o, w, cur, h, hs => ⟨cur, h, rfl, by simp⟩
  | v :: r, o, w, cur, h, hs => by
    have h1 : (w.setCell ⟨b, o, none⟩ v).heap[b]? = some (.cells (cur.setIfInBounds o v) e fr) := by
      simp only [World.setCell, Array.getElem?_modify, if_pos]
      simp [h]
    simp only [List.length_cons] at hs
    obtain ⟨cur', g1, g2, g3⟩ := obj_setCells r (o + 1) _ _ h1 (by simp; omega)
    refine ⟨cur', by rw [World.setCells]; exact g1, by rw [g2]; simp, ?_⟩
    rw [g3, Array.toList_setIfInBounds]
    simp only [List.length_cons]
    have ho : o < cur.toList.length := by rw [Array.length_toList]; omega
    rw [lay_take _ _ _ ho, lay_drop _ _ _ _ (show o < o + 1 + r.length by omega)]
    simp [show o + 1 + r.length = o + (r.length + 1) by omega]
theorem heap_setCells (b : Nat) : ∀ (vs : List Value) (o : Nat) (w : World) (k : Nat), k ≠ b → (w.setCells b o vs).heap[k]? = w.heap[k]?
  | [], _, _, _, _ => rfl
  | v :: r, o, w, k, hk => by rw [World.setCells, heap_setCells b r _ _ k hk, Below.heap_setCell _ _ _ _ hk]
theorem size_setCells (b : Nat) : ∀ (vs : List Value) (o : Nat) (w : World), (w.setCells b o vs).heap.size = w.heap.size
  | [], _, _ => rfl
  | v :: r, o, w => by rw [World.setCells, size_setCells b r]; simp [World.setCell]
theorem os_setCells (b : Nat) : ∀ (vs : List Value) (o : Nat) (w : World), (w.setCells b o vs).os = w.os ∧ (w.setCells b o vs).tape = w.tape ∧ (w.setCells b o vs).output = w.output
  | [], _, _ => ⟨rfl, rfl, rfl⟩
  | v :: r, o, w => by rw [World.setCells]; exact os_setCells b r _ _

/-- append: an own row, and any row that reads as letters -/
theorem run_append_I (w : World) (ty : TypeId) {a : Option Addr} {cap : Nat} {l : List It} (h : OwnI w a cap l) {ax : Option Addr} {m c : Nat} {ms : List It} (hx : Rd w ax m ms) (hs : l.length + m ≤ 100000) :
    ∃ a' cap' w', (Builtin.append_ #[36, 36] ty #[.slice a l.length cap, .slice ax m c]).run Try.prog w = .ok (.slice a' (l.length + m) cap') w' ∧ OwnI w' a' cap' (l ++ ms) ∧ w.grownBy w' (Value.slice a l.length cap).ownBlock ∧ Anew w a a' := by
  obtain ⟨i0, hi0, hz0, hz1, hz2⟩ := info_parts it_info
  have hlm : (l ++ ms).length = l.length + m := by rw [List.length_append, hx.1]
  have hcap := h.cap
  have hml : (100000 : Nat) ≤ maxLen := by simp [maxLen]
  by_cases hm0 : m = 0
  · -- nothing is appended
    subst hm0
    obtain rfl : ms = [] := List.eq_nil_of_length_eq_zero hx.1
    have hsrc : Src Try.prog i0.size 36 (.slice ax 0 c) 0 [] w := by
      cases ax with
      | none => exact Src.ofNil w Try.underlying36 c
      | some p => exact Src.ofSlice w Try.underlying36 p 0 c [] (by simp) (by simp) (by simp)
    refine ⟨a, cap, w, run_append_nothing w _ _ ty _ i0 Try.underlying36 hi0 a l.length cap hcap.1 _ hsrc, by simpa using h, ⟨rfl, rfl, rfl, Nat.le_refl _, fun _ _ _ => rfl⟩, .inl rfl⟩
  · obtain ⟨bx, ox, rfl, hbx, hcx⟩ := hx.2.resolve_left hm0
    have hnl : (itms ms).length = m * i0.size := by rw [itms_length, hx.1, hz1]
    have hnews : ∀ j u, (itms ms)[j]? = some u → w.cell? ((⟨bx, ox, none⟩ : Addr).add j) = some u := fun j u hu => by rw [addr_add]; exact hcx j u hu
    have hsrc : Src Try.prog i0.size 36 (.slice (some ⟨bx, ox, none⟩) m c) m (itms ms) w := Src.ofSlice w Try.underlying36 _ m c _ hnl hnews (itms_one _)
    by_cases hroom : l.length + m ≤ cap
    · rcases h with ⟨rfl, rfl, rfl⟩ | ⟨g, off, cur, rfl, h1, h2, h3, h4, h5⟩
      · simp at hroom; omega
      · have hfit : off + l.length * 5 + (itms ms).length ≤ cur.size := by rw [itms_length, hx.1]; omega
        have hcell : ∀ j, j < (itms ms).length → (w.cell? ⟨g, off + l.length * i0.size + j, none⟩).isSome = true := fun j hj => by
          rw [hz1]
          simp only [World.cell?, h1]
          rw [Array.getElem?_eq_getElem (by omega)]; rfl
        have hfrz : ∀ j, j < (itms ms).length → w.frozen? ⟨g, off + l.length * i0.size + j, none⟩ = false := fun j hj => by simp [World.frozen?, h1]
        have hrun := run_append_room_src (P := Try.prog) w _ _ ty _ i0 Try.underlying36 hi0 g off l.length cap _ m (itms ms) hsrc hroom hcell hfrz
        rw [hz1] at hrun
        obtain ⟨cur', c1, c2, c3⟩ := obj_setCells (itms ms) (off + l.length * 5) w cur h1 hfit
        have hcz : cur.toList.length = cur.size := Array.length_toList
        have hco : off ≤ (cur.toList.take (off + l.length * 5)).length := by rw [List.length_take, hcz]; omega
        refine ⟨_, _, _, hrun, .inr ⟨g, off, cur', rfl, c1, by omega, h3, by omega, ?_⟩, ?_, .inl rfl⟩
        · rw [hlm, c3, List.append_assoc, List.drop_append_of_le_length hco, List.drop_take, Nat.add_sub_cancel_left, h5, ← List.append_assoc, ← itms_append]
          rw [show (l.length + m) * 5 = (itms (l ++ ms)).length by rw [itms_length, hlm]]
          exact List.take_left
        · obtain ⟨e1, e2, e3⟩ := os_setCells g (itms ms) (off + l.length * 5) w
          exact ⟨e1, e2, e3, Nat.le_of_eq (size_setCells _ _ _ _).symm, fun k _ hk => heap_setCells _ _ _ _ _ (fun e => hk (by simp [Value.ownBlock, e]))⟩
    · have hold : (Builtin.firstCells i0.size l.length (.slice a l.length cap)).run Try.prog w.drew = .ok (itms l).toArray w.drew := by
        rw [hz1]
        rcases h with ⟨rfl, rfl, rfl⟩ | ⟨g, off, cur, rfl, h1, h2, h3, h4, h5⟩
        · exact run_firstCells_none w.drew 5 0 0 0
        · exact run_firstCells_some w.drew 5 l.length ⟨g, off, none⟩ l.length cap _ (itms_length l) (fun j u hu => by
            rw [addr_add]
            have hj := (List.getElem?_eq_some_iff.1 hu).1
            rw [itms_length] at hj
            rw [← h5, List.getElem?_take, if_pos hj, List.getElem?_drop, Array.getElem?_toList] at hu
            show w.cell? _ = _
            simp only [World.cell?, h1]
            simpa using hu)
      have hrun := run_append_grow_src (P := Try.prog) w _ _ ty _ i0 _ Try.underlying36 hi0 hz0 a l.length cap (itms l) hold _ m (itms ms) hsrc (by omega) (by omega) (growslice_fits (by omega) (by rw [hz2]; omega))
      have hge := grownCap_ge w (l.length + m) cap 29
      have hcm := grownCap_le_maxLen w (l.length + m) cap 29 (by omega)
      refine ⟨_, _, _, hrun, .inr ⟨w.heap.size, 0, _, rfl, heap_alloc_new w.drew _, by rw [hlm]; exact hge, hcm, ?_, ?_⟩, ⟨rfl, rfl, rfl, by simp, fun k hk _ => Below.heap_alloc w.drew _ k hk⟩, .inr ⟨_, rfl, Nat.le_refl _⟩⟩
      · have hzs : (Value.agg #[.int .i64 0, .int .i64 0, .string ⟨#[]⟩, .int .i64 0, .int .i64 0]).cells.size = 5 := rfl
        simp only [Array.size_append, List.size_toArray, size_zeroCells, hzs, List.length_append, itms_length, hx.1]
        omega
      · rw [hlm, ← itms_append, Array.toList_append, List.drop_zero]
        rw [show (l.length + m) * 5 = (itms (l ++ ms)).length by rw [itms_length, hlm]]
        exact List.take_left

/-- append, as a step of a region that draws its order -/
theorem step_append_I (w : World) {ops : Array Oper} {o : Oper} {act : Act} {K : Act → World → Prop} {Q : Exit → Act → World → Prop} {E : Prop} (hgd : o.guard = none) (s x : Operand)
    (ho : o.op = .call { callee := .builtin .append, args := #[s, x], argTypes := #[36, 36] })
    (a : Option Addr) (k cap : Nat) (l : List It) (hs : act.eval s = .slice a k cap) (hk : l.length = k) (hown : OwnI w a cap l)
    (ax : Option Addr) (m c : Nat) (ms : List It) (hx : act.eval x = .slice ax m c) (hr : Rd w ax m ms) (hsum : k + m ≤ 100000)
    (h : ∀ a' cap' w', OwnI w' a' cap' (l ++ ms) → w.grownBy w' (Value.slice a k cap).ownBlock → Anew w a a' → K (act.put o.dst (.slice a' (k + m) cap')) w') :
    if Region.wanted o (yielded ops act.tmps) = true then Oper.wp Try.prog o act w K Q else E := by
  have hw : Region.wanted o (yielded ops act.tmps) = true := by simp [Region.wanted, hgd]
  rw [if_pos hw]
  subst hk
  obtain ⟨a', cap', w', hrun, h1, h2, h3⟩ := run_append_I w o.type hown (c := c) hr hsum
  unfold Oper.wp execOp
  simp only [ho, resolve, invoke, builtin, Sem.run_bind, Sem.run_pure, Result.andThen_ok, List.map_toArray, List.map_cons, List.map_nil, hs, hx, hrun]
  exact h a' cap' w' h1 h2 h3
/-- append in a plain region -/
theorem wpList_append_I (w : World) {ops : Array Oper} {rest : List Oper} {o : Oper} {act : Act} {Q : Exit → Act → World → Prop} (hgd : o.guard = none) (s x : Operand)
    (ho : o.op = .call { callee := .builtin .append, args := #[s, x], argTypes := #[36, 36] })
    (a : Option Addr) (k cap : Nat) (l : List It) (hs : act.eval s = .slice a k cap) (hk : l.length = k) (hown : OwnI w a cap l)
    (ax : Option Addr) (m c : Nat) (ms : List It) (hx : act.eval x = .slice ax m c) (hr : Rd w ax m ms) (hsum : k + m ≤ 100000)
    (h : ∀ a' cap' w', OwnI w' a' cap' (l ++ ms) → w.grownBy w' (Value.slice a k cap).ownBlock → Anew w a a' → wpList Try.prog ops Q rest (act.put o.dst (.slice a' (k + m) cap')) w') :
    wpList Try.prog ops Q (o :: rest) act w := by
  refine wpList_plain hgd fun K hK => ?_
  subst hk
  obtain ⟨a', cap', w', hrun, h1, h2, h3⟩ := run_append_I w o.type hown (c := c) hr hsum
  unfold Oper.wp execOp
  simp only [ho, resolve, invoke, builtin, Sem.run_bind, Sem.run_pure, Result.andThen_ok, List.map_toArray, List.map_cons, List.map_nil, hs, hx, hrun]
  exact hK _ _ (h a' cap' w' h1 h2 h3)
theorem own_row {a : Option Addr} {n cap p k : Nat} (h : (Value.slice a n cap).ownBlock = some k) : k = blk p a := by
  cases a with
  | none => simp [Value.ownBlock] at h
  | some q => simp [Value.ownBlock] at h; simp [blk, h]
end Go.Proofs.Ytcnmkojlledipaa.Mr
