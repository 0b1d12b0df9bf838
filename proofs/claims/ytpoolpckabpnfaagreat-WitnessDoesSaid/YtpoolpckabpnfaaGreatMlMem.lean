/-
  Rows of limits in memory: what stays while some blocks are written; rows that are read, rows of the call's own; append.
-/
import Derived.Test.YtpoolpckabpnfaaGreatProg
import Derived.Test.YtpoolpckabpnfaaGreatMlMath
import Derived.WalkKit
import Derived.Lib.Hide
import Derived.Below
import Derived.Maps.AppendAt
import Derived.OwnWalk
import Derived.Deep.AppendSrc
import Derived.Deep.Upon
import Derived.Deep.RegionLaw
import Derived.Deep.QuietTactic
import Derived.BigQuiet
import Derived.Shelf.RegionOpenPlain
namespace Go.Proofs.YtpoolpckabpnfaaGreat.Ml
open Go.RowKit
set_option linter.unusedVariables false
set_option linter.unusedSimpArgs false
set_option maxRecDepth 20000

/-! what stays: all blocks but those of l -/
structure But (l : List Nat) (w w' : World) : Prop where
  os : w'.os = w.os
  tape : w'.tape = w.tape
  output : w'.output = w.output
  size : w.heap.size ≤ w'.heap.size
  block : ∀ k, k < w.heap.size → k ∉ l → w'.heap[k]? = w.heap[k]?

theorem But.refl (l : List Nat) (w : World) : But l w w := ⟨rfl, rfl, rfl, Nat.le_refl _, fun _ _ _ => rfl⟩
theorem But.trans {l : List Nat} {a b c : World} (h : But l a b) (k : But l b c) : But l a c :=
  ⟨k.os.trans h.os, k.tape.trans h.tape, k.output.trans h.output, Nat.le_trans h.size k.size, fun i hi hn => (k.block i (Nat.lt_of_lt_of_le hi h.size) hn).trans (h.block i hi hn)⟩
theorem But.mono {l m : List Nat} {a b : World} (h : But l a b) (hs : ∀ x, x ∈ l → x ∈ m) : But m a b := ⟨h.os, h.tape, h.output, h.size, fun i hi hn => h.block i hi fun hl => hn (hs i hl)⟩
/-- what is new since may be written, too -/
theorem But.then {l m : List Nat} {a b c : World} (h : But l a b) (k : But m b c) (hm : ∀ x ∈ m, x ∈ l ∨ a.heap.size ≤ x) : But l a c :=
  ⟨k.os.trans h.os, k.tape.trans h.tape, k.output.trans h.output, Nat.le_trans h.size k.size, fun i hi hn =>
    (k.block i (Nat.lt_of_lt_of_le hi h.size) (fun hx => by rcases hm i hx with g | g; exact hn g; omega)).trans (h.block i hi hn)⟩
theorem But.alloc {l : List Nat} {a w : World} (h : But l a w) (o : Obj) : But l a (w.alloc o) :=
  h.trans ⟨rfl, rfl, rfl, by simp, fun k hk _ => Below.heap_alloc _ _ _ hk⟩
theorem But.set {l : List Nat} {a w : World} (h : But l a w) {p : Addr} (v : Value) (hp : p.block ∈ l ∨ a.heap.size ≤ p.block) : But l a (w.setCell p v) := by
  refine ⟨h.os, h.tape, h.output, by simpa [World.setCell] using h.size, fun k hk hn => ?_⟩
  have hne : k ≠ p.block := by
    rintro rfl
    rcases hp with hp | hp
    · exact hn hp
    · omega
  exact (Below.heap_setCell w p v k hne).trans (h.block k hk hn)
theorem But.drew {l : List Nat} {a w : World} (h : But l a w) : But l a w.drew := ⟨h.os, h.tape, h.output, h.size, h.block⟩
theorem But.drewN {l : List Nat} {a w : World} (h : But l a w) (n : Nat) : But l a (w.drewN n) := ⟨h.os, h.tape, h.output, h.size, h.block⟩
theorem But.grown {l : List Nat} {a w w' : World} {row : Option Nat} (h : But l a w) (hg : w.grownBy w' row) (hr : ∀ k, row = some k → k ∈ l ∨ a.heap.size ≤ k) : But l a w' := by
  refine ⟨hg.os.trans h.os, hg.tape.trans h.tape, hg.output.trans h.output, Nat.le_trans h.size hg.size, fun k hk hn => ?_⟩
  have hne : some k ≠ row := by
    intro e
    rcases hr k e.symm with h1 | h1
    · exact hn h1
    · omega
  exact (hg.block k (Nat.lt_of_lt_of_le hk h.size) hne).trans (h.block k hk hn)
theorem But.below {l : List Nat} {a w w' : World} {B : Nat} (h : But l a w) (hb : Below B w w') (hB : a.heap.size ≤ B) : But l a w' :=
  ⟨hb.os.trans h.os, hb.tape.trans h.tape, hb.output.trans h.output, Nat.le_trans h.size hb.size, fun k hk hn => (hb.block k (by omega)).trans (h.block k hk hn)⟩
theorem But.to_below {l : List Nat} {a w : World} {B : Nat} (h : But l a w) (hl : ∀ x ∈ l, B ≤ x) (hB : B ≤ a.heap.size) : Below B a w :=
  ⟨h.os, h.tape, h.output, h.size, fun k hk => h.block k (by omega) fun hm => by have := hl k hm; omega⟩
theorem But.of_below {a w : World} (h : Below a.heap.size a w) : But [] a w := (But.refl _ _).below h (Nat.le_refl _)
theorem But.cell {l : List Nat} {a w : World} (h : But l a w) {b o : Nat} (hb : b < a.heap.size) (hn : b ∉ l) : w.cell? ⟨b, o, none⟩ = a.cell? ⟨b, o, none⟩ := World.cell?_of_block (w := a) (h.block b hb hn)
theorem But.frozen {l : List Nat} {a w : World} (h : But l a w) {b o : Nat} (hb : b < a.heap.size) (hn : b ∉ l) : w.frozen? ⟨b, o, none⟩ = a.frozen? ⟨b, o, none⟩ := World.frozen?_of_block (w := a) (h.block b hb hn)
theorem below_drewN (w : World) (n : Nat) : Below w.heap.size w (w.drewN n) := ⟨rfl, rfl, rfl, Nat.le_refl _, fun _ _ => rfl⟩

/-! a row of limits, as cells -/
def lms : List Lm → List Value
  | [] => []
  | x :: l => .int .i64 x.lo :: .int .i64 x.hi :: lms l
/-- a limit as a value -/
def lmV (x : Lm) : Value := .agg #[.int .i64 x.lo, .int .i64 x.hi]

theorem lms_length : ∀ l : List Lm, (lms l).length = l.length * 2
  | [] => rfl
  | x :: l => by simp only [lms, List.length_cons, lms_length l]; omega
theorem lms_append : ∀ l m : List Lm, lms (l ++ m) = lms l ++ lms m
  | [], m => rfl
  | x :: l, m => by simp only [lms, List.cons_append, lms_append l m]
theorem lms_get : ∀ {l : List Lm} {i : Nat} {x : Lm}, l[i]? = some x → (lms l)[i * 2]? = some (.int .i64 x.lo) ∧ (lms l)[i * 2 + 1]? = some (.int .i64 x.hi)
  | [], i, x, h => by simp at h
  | q :: l, 0, x, h => by simp at h; subst h; exact ⟨rfl, rfl⟩
  | q :: l, i + 1, x, h => by
    have := lms_get (l := l) (i := i) (x := x) (by simpa using h)
    rw [show (i + 1) * 2 = i * 2 + 1 + 1 by omega]
    simpa [lms] using this
theorem lms_drop : ∀ (l : List Lm) (k : Nat), (lms l).drop (k * 2) = lms (l.drop k)
  | l, 0 => by simp
  | [], k + 1 => by simp [lms]
  | x :: l, k + 1 => by
    rw [show (k + 1) * 2 = k * 2 + 1 + 1 by omega]
    simpa [lms] using lms_drop l k
theorem lms_take : ∀ (l : List Lm) (k : Nat), (lms l).take (k * 2) = lms (l.take k)
  | l, 0 => by simp [lms]
  | [], k + 1 => by simp [lms]
  | x :: l, k + 1 => by
    rw [show (k + 1) * 2 = k * 2 + 1 + 1 by omega]
    simpa [lms] using lms_take l k
theorem lms_one : ∀ l : List Lm, ∀ u ∈ lms l, u.oneCell' = true
  | [], u, h => by simp [lms] at h
  | x :: l, u, h => by
    simp only [lms, List.mem_cons] at h
    rcases h with rfl | rfl | h
    · rfl
    · rfl
    · exact lms_one l u h

theorem lm_info : (Tryz.prog.info? 138).map (fun i => (i.zero, i.size, i.bytes)) = some (some (.agg #[.int .i64 0, .int .i64 0]), 2, 16) := by kernel_rfl

/-- a slice that reads as limits -/
def RdM (w : World) (a : Option Addr) (n : Nat) (l : List Lm) : Prop :=
  l.length = n ∧ (n = 0 ∨ ∃ b off, a = some ⟨b, off, none⟩ ∧ b < w.heap.size ∧ ∀ j u, (lms l)[j]? = some u → w.cell? ⟨b, off + j, none⟩ = some u)

theorem lt_of_heap {w : World} {g : Nat} {o : Obj} (h : w.heap[g]? = some o) : g < w.heap.size := (Array.getElem?_eq_some_iff.1 h).1
theorem addr_add (b off k : Nat) : ((⟨b, off, none⟩ : Addr).add k) = ⟨b, off + k, none⟩ := by by_cases z : k = 0 <;> simp [Addr.add, z]

theorem RdM.nil (w : World) (a : Option Addr) : RdM w a 0 [] := ⟨rfl, .inl rfl⟩
theorem RdM.at {w : World} {a : Option Addr} {n : Nat} {l : List Lm} (h : RdM w a n l) {i : Nat} {x : Lm} (hx : l[i]? = some x) :
    ∃ b off, a = some ⟨b, off, none⟩ ∧ b < w.heap.size ∧ w.cell? ⟨b, off + i * 2, none⟩ = some (.int .i64 x.lo) ∧ w.cell? ⟨b, off + i * 2 + 1, none⟩ = some (.int .i64 x.hi) := by
  have hi := (List.getElem?_eq_some_iff.1 hx).1
  rcases h.2 with h0 | ⟨b, off, ha, hb, hc⟩
  · have := h.1; omega
  · obtain ⟨k1, k2⟩ := lms_get hx
    exact ⟨b, off, ha, hb, hc _ _ k1, by rw [Nat.add_assoc]; exact hc _ _ k2⟩
theorem RdM.keep {w w' : World} {a : Option Addr} {n : Nat} {l : List Lm} (h : RdM w a n l) (hs : w.heap.size ≤ w'.heap.size) (hk : ∀ b off, a = some ⟨b, off, none⟩ → b < w.heap.size → w'.heap[b]? = w.heap[b]?) : RdM w' a n l := by
  refine ⟨h.1, ?_⟩
  rcases h.2 with h0 | ⟨b, off, ha, hb, hc⟩
  · exact .inl h0
  · exact .inr ⟨b, off, ha, by omega, fun j u hu => (World.cell?_of_block (w := w) (a := ⟨b, off + j, none⟩) (hk b off ha hb)).trans (hc j u hu)⟩
theorem RdM.below {w w' : World} {a : Option Addr} {n : Nat} {l : List Lm} (h : RdM w a n l) {B : Nat} (hb : Below B w w') (hB : w.heap.size ≤ B) : RdM w' a n l := h.keep hb.size fun b off _ hlt => hb.block b (by omega)
theorem RdM.drew {w : World} {a : Option Addr} {n : Nat} {l : List Lm} (h : RdM w a n l) (q : Nat) : RdM (w.drewN q) a n l := h
theorem RdM.drop {w : World} {b off n : Nat} {l : List Lm} (h : RdM w (some ⟨b, off, none⟩) n l) (k : Nat) (hk : k ≤ n) : RdM w (some ⟨b, off + k * 2, none⟩) (n - k) (l.drop k) := by
  refine ⟨by simp [h.1], ?_⟩
  rcases h.2 with h0 | ⟨b', off', ha, hb, hc⟩
  · exact .inl (by omega)
  · injection ha with ha
    injection ha with e1 e2
    subst e1 e2
    refine .inr ⟨b, off + k * 2, rfl, hb, fun j u hu => ?_⟩
    rw [← lms_drop, List.getElem?_drop] at hu
    rw [Nat.add_assoc]
    exact hc _ u hu

/-- an own row of limits -/
def OwnM (w : World) (a : Option Addr) (cap : Nat) (l : List Lm) : Prop :=
  (a = none ∧ cap = 0 ∧ l = []) ∨ ∃ g cur, a = some ⟨g, 0, none⟩ ∧ w.heap[g]? = some (.cells cur 138 (0, 0)) ∧ l.length ≤ cap ∧ cap ≤ maxLen ∧ cap * 2 ≤ cur.size ∧ cur.toList.take (l.length * 2) = lms l
/-- the block of a row, if it has one -/
def blk (p : Nat) : Option Addr → Nat
  | some a => a.block
  | none => p

theorem OwnM.nil (w : World) : OwnM w none 0 [] := .inl ⟨rfl, rfl, rfl⟩
theorem OwnM.cap {w : World} {a : Option Addr} {cap : Nat} {l : List Lm} (h : OwnM w a cap l) : l.length ≤ cap ∧ cap ≤ maxLen := by
  rcases h with ⟨rfl, rfl, rfl⟩ | ⟨g, cur, rfl, h1, h2, h3, h4, h5⟩
  · simp [maxLen]
  · exact ⟨h2, h3⟩
theorem OwnM.of_block {w w' : World} {a : Option Addr} {cap : Nat} {l : List Lm} (h : OwnM w a cap l) {p : Nat} (hb : w'.heap[blk p a]? = w.heap[blk p a]?) : OwnM w' a cap l := by
  rcases h with h | ⟨g, cur, rfl, h1, h2⟩
  · exact .inl h
  · exact .inr ⟨g, cur, rfl, by simp only [blk] at hb; rw [hb]; exact h1, h2⟩
theorem OwnM.lt {w : World} {a : Option Addr} {cap : Nat} {l : List Lm} (h : OwnM w a cap l) {p : Nat} (hl : p < w.heap.size) : blk p a < w.heap.size := by
  rcases h with ⟨rfl, rfl, rfl⟩ | ⟨g, cur, rfl, h1, h2, h3, h4, h5⟩
  · exact hl
  · exact lt_of_heap h1
theorem OwnM.but {w w' : World} {a : Option Addr} {cap : Nat} {l : List Lm} (h : OwnM w a cap l) {q : List Nat} (hb : But q w w') {p : Nat} (hp : blk p a ∉ q) : OwnM w' a cap l := by
  rcases h with h | ⟨g, cur, rfl, h1, h2⟩
  · exact .inl h
  · exact .inr ⟨g, cur, rfl, by rw [hb.block g (lt_of_heap h1) hp]; exact h1, h2⟩
theorem OwnM.below {w w' : World} {a : Option Addr} {cap : Nat} {l : List Lm} (h : OwnM w a cap l) {B : Nat} (hb : Below B w w') (hB : w.heap.size ≤ B) : OwnM w' a cap l := by
  rcases h with h | ⟨g, cur, rfl, h1, h2⟩
  · exact .inl h
  · exact .inr ⟨g, cur, rfl, by rw [hb.block g (by have := lt_of_heap h1; omega)]; exact h1, h2⟩
theorem OwnM.drew {w : World} {a : Option Addr} {cap : Nat} {l : List Lm} (h : OwnM w a cap l) (q : Nat) : OwnM (w.drewN q) a cap l := h
theorem OwnM.rd {w : World} {a : Option Addr} {cap : Nat} {l : List Lm} (h : OwnM w a cap l) : RdM w a l.length l := by
  refine ⟨rfl, ?_⟩
  rcases h with ⟨rfl, rfl, rfl⟩ | ⟨g, cur, rfl, h1, h2, h3, h4, h5⟩
  · exact .inl rfl
  · refine .inr ⟨g, 0, rfl, lt_of_heap h1, fun j u hu => ?_⟩
    have hj := (List.getElem?_eq_some_iff.1 hu).1
    rw [lms_length] at hj
    rw [← h5, List.getElem?_take, if_pos hj, Array.getElem?_toList] at hu
    simp only [World.cell?, h1, Nat.zero_add]
    simpa using hu
/-- a beginning of an own row, its room cut -/
theorem OwnM.cut {w : World} {a : Option Addr} {cap : Nat} {l : List Lm} (h : OwnM w a cap l) (k : Nat) (hk : k ≤ l.length) : OwnM w a k (l.take k) := by
  rcases h with ⟨rfl, rfl, rfl⟩ | ⟨g, cur, rfl, h1, h2, h3, h4, h5⟩
  · simp at hk; subst hk; exact .inl ⟨rfl, rfl, rfl⟩
  · have hm : min k l.length = k := Nat.min_eq_left hk
    refine .inr ⟨g, cur, rfl, h1, by simp; omega, by omega, Nat.le_trans (Nat.mul_le_mul_right 2 (by omega)) h4, ?_⟩
    rw [List.length_take, hm, ← lms_take, ← h5, List.take_take, Nat.min_eq_left (Nat.mul_le_mul_right 2 hk)]

/-- where a row lies behind an append: where it lay, or in a new block -/
def Anew (w : World) (a a' : Option Addr) : Prop := a' = a ∨ ∃ g, a' = some ⟨g, 0, none⟩ ∧ w.heap.size ≤ g
theorem Anew.blk {w : World} {a a' : Option Addr} (h : Anew w a a') (p : Nat) : blk p a' = blk p a ∨ w.heap.size ≤ blk p a' := by
  rcases h with rfl | ⟨g, rfl, hg⟩
  · exact .inl rfl
  · exact .inr hg
theorem Anew.refl (w : World) (a : Option Addr) : Anew w a a := .inl rfl
theorem Anew.trans {w w' : World} {a b c : Option Addr} (h : Anew w a b) (k : Anew w' b c) (hs : w.heap.size ≤ w'.heap.size) : Anew w a c := by
  rcases k with rfl | ⟨g, rfl, hg⟩
  · exact h
  · exact .inr ⟨g, rfl, by omega⟩
theorem Anew.more {w w' : World} {a b : Option Addr} (h : Anew w' a b) (hs : w.heap.size ≤ w'.heap.size) : Anew w a b := by
  rcases h with h | ⟨g, rfl, hg⟩
  · exact .inl h
  · exact .inr ⟨g, rfl, by omega⟩

theorem lay_take {α : Type} (l : List α) (o : Nat) (v : α) (ho : o < l.length) : (l.set o v).take (o + 1) = l.take o ++ [v] := by
  rw [List.take_succ_eq_append_getElem (by simpa using ho), List.getElem_set_self, List.take_set_of_le (Nat.le_refl _)]
theorem lay_drop {α : Type} (l : List α) (o k : Nat) (v : α) (h : o < k) : (l.set o v).drop k = l.drop k := List.drop_set_of_lt h
theorem obj_setCells {b : Nat} {e : TypeId} {fr : Nat × Nat} : ∀ (vs : List Value) (o : Nat) (w : World) (cur : Array Value), w.heap[b]? = some (.cells cur e fr) → o + vs.length ≤ cur.size →
    ∃ cur', (w.setCells b o vs).heap[b]? = some (.cells cur' e fr) ∧ cur'.size = cur.size ∧ cur'.toList = cur.toList.take o ++ vs ++ cur.toList.drop (o + vs.length)
  | [], o, w, cur, h, hs => ⟨cur, h, rfl, by simp⟩
  | v :: r, o, w, cur, h, hs => by
    have h1 : (w.setCell ⟨b, o, none⟩ v).heap[b]? = some (.cells (cur.setIfInBounds o v) e fr) := by
      simp only [World.setCell, Array.getElem?_modify, if_pos]
      simp [h]
    simp only [List.length_cons] at hs
    obtain ⟨cur', g1, g2, g3⟩ := obj_setCells r (o + 1) _ _ h1 (by simp; omega)
    refine ⟨cur', by rw [World.setCells]; exact g1, by rw [g2]; simp, ?_⟩
    rw [g3, Array.toList_setIfInBounds]
    simp only [List.length_cons]
    have ho : o < cur.toList.length := by rw [Array.length_toList]; omega
    rw [lay_take _ _ _ ho, lay_drop _ _ _ _ (show o < o + 1 + r.length by omega)]
    simp [show o + 1 + r.length = o + (r.length + 1) by omega]
theorem heap_setCells (b : Nat) : ∀ (vs : List Value) (o : Nat) (w : World) (k : Nat), k ≠ b → (w.setCells b o vs).heap[k]? = w.heap[k]?
  | [], _, _, _, _ => rfl
  | v :: r, o, w, k, hk => by rw [World.setCells, heap_setCells b r _ _ k hk, Below.heap_setCell _ _ _ _ hk]
theorem size_setCells (b : Nat) : ∀ (vs : List Value) (o : Nat) (w : World), (w.setCells b o vs).heap.size = w.heap.size
  | [], _, _ => rfl
  | v :: r, o, w => by rw [World.setCells, size_setCells b r]; simp [World.setCell]
theorem os_setCells (b : Nat) : ∀ (vs : List Value) (o : Nat) (w : World), (w.setCells b o vs).os = w.os ∧ (w.setCells b o vs).tape = w.tape ∧ (w.setCells b o vs).output = w.output
  | [], _, _ => ⟨rfl, rfl, rfl⟩
  | v :: r, o, w => by rw [World.setCells]; exact os_setCells b r _ _

/-- append: an own row, and any row that reads as limits -/
theorem run_append_M (w : World) (ty : TypeId) {a : Option Addr} {cap : Nat} {l : List Lm} (h : OwnM w a cap l) {ax : Option Addr} {m c : Nat} {ms : List Lm} (hx : RdM w ax m ms) (hs : l.length + m ≤ 1000) :
    ∃ a' cap' w', (Builtin.append_ #[139, 139] ty #[.slice a l.length cap, .slice ax m c]).run Tryz.prog w = .ok (.slice a' (l.length + m) cap') w' ∧ OwnM w' a' cap' (l ++ ms) ∧ w.grownBy w' (Value.slice a l.length cap).ownBlock ∧ Anew w a a' := by
  obtain ⟨i0, hi0, hz0, hz1, hz2⟩ := info_parts lm_info
  have hlm : (l ++ ms).length = l.length + m := by rw [List.length_append, hx.1]
  have hcap := h.cap
  have hml : (1000 : Nat) ≤ maxLen := by simp [maxLen]
  by_cases hm0 : m = 0
  · -- nothing is appended
    subst hm0
    obtain rfl : ms = [] := List.eq_nil_of_length_eq_zero hx.1
    have hsrc : Src Tryz.prog i0.size 139 (.slice ax 0 c) 0 [] w := by
      cases ax with
      | none => exact Src.ofNil w Tryz.underlying139 c
      | some p => exact Src.ofSlice w Tryz.underlying139 p 0 c [] (by simp) (by simp) (by simp)
    refine ⟨a, cap, w, run_append_nothing w _ _ ty _ i0 Tryz.underlying139 hi0 a l.length cap hcap.1 _ hsrc, by simpa using h, ⟨rfl, rfl, rfl, Nat.le_refl _, fun _ _ _ => rfl⟩, .inl rfl⟩
  · obtain ⟨bx, ox, rfl, hbx, hcx⟩ := hx.2.resolve_left hm0
    have hnl : (lms ms).length = m * i0.size := by rw [lms_length, hx.1, hz1]
    have hnews : ∀ j u, (lms ms)[j]? = some u → w.cell? ((⟨bx, ox, none⟩ : Addr).add j) = some u := fun j u hu => by rw [addr_add]; exact hcx j u hu
    have hsrc : Src Tryz.prog i0.size 139 (.slice (some ⟨bx, ox, none⟩) m c) m (lms ms) w := Src.ofSlice w Tryz.underlying139 _ m c _ hnl hnews (lms_one _)
    by_cases hroom : l.length + m ≤ cap
    · rcases h with ⟨rfl, rfl, rfl⟩ | ⟨g, cur, rfl, h1, h2, h3, h4, h5⟩
      · simp at hroom; omega
      · have hfit : l.length * 2 + (lms ms).length ≤ cur.size := by rw [lms_length, hx.1]; omega
        have hcell : ∀ j, j < (lms ms).length → (w.cell? ⟨g, 0 + l.length * i0.size + j, none⟩).isSome = true := fun j hj => by
          rw [hz1]
          simp only [World.cell?, h1]
          rw [Array.getElem?_eq_getElem (by omega)]; rfl
        have hfrz : ∀ j, j < (lms ms).length → w.frozen? ⟨g, 0 + l.length * i0.size + j, none⟩ = false := fun j hj => by simp [World.frozen?, h1]
        have hrun := run_append_room_src (P := Tryz.prog) w _ _ ty _ i0 Tryz.underlying139 hi0 g 0 l.length cap _ m (lms ms) hsrc hroom hcell hfrz
        rw [hz1, Nat.zero_add] at hrun
        obtain ⟨cur', c1, c2, c3⟩ := obj_setCells (lms ms) (l.length * 2) w cur h1 hfit
        refine ⟨_, _, _, hrun, .inr ⟨g, cur', rfl, c1, by omega, h3, by omega, ?_⟩, ?_, .inl rfl⟩
        · rw [hlm, c3, h5, ← lms_append]
          rw [show (l.length + m) * 2 = (lms (l ++ ms)).length by rw [lms_length, hlm]]
          exact List.take_left
        · obtain ⟨e1, e2, e3⟩ := os_setCells g (lms ms) (l.length * 2) w
          exact ⟨e1, e2, e3, Nat.le_of_eq (size_setCells _ _ _ _).symm, fun k _ hk => heap_setCells _ _ _ _ _ (fun e => hk (by simp [Value.ownBlock, e]))⟩
    · have hold : (Builtin.firstCells i0.size l.length (.slice a l.length cap)).run Tryz.prog w.drew = .ok (lms l).toArray w.drew := by
        rw [hz1]
        rcases h with ⟨rfl, rfl, rfl⟩ | ⟨g, cur, rfl, h1, h2, h3, h4, h5⟩
        · exact run_firstCells_none w.drew 2 0 0 0
        · exact run_firstCells_some w.drew 2 l.length ⟨g, 0, none⟩ l.length cap _ (lms_length l) (fun j u hu => by
            rw [addr_add]
            have hj := (List.getElem?_eq_some_iff.1 hu).1
            rw [lms_length] at hj
            rw [← h5, List.getElem?_take, if_pos hj, Array.getElem?_toList] at hu
            show w.cell? _ = _
            simp only [World.cell?, h1, Nat.zero_add]
            simpa using hu)
      have hrun := run_append_grow_src (P := Tryz.prog) w _ _ ty _ i0 _ Tryz.underlying139 hi0 hz0 a l.length cap (lms l) hold _ m (lms ms) hsrc (by omega) (by omega) (growslice_fits (by omega) (by rw [hz2]; omega))
      have hge := grownCap_ge w (l.length + m) cap 138
      have hcm := grownCap_le_maxLen w (l.length + m) cap 138 (by omega)
      refine ⟨_, _, _, hrun, .inr ⟨w.heap.size, _, rfl, heap_alloc_new w.drew _, by rw [hlm]; exact hge, hcm, ?_, ?_⟩, ⟨rfl, rfl, rfl, by simp, fun k hk _ => Below.heap_alloc w.drew _ k hk⟩, .inr ⟨_, rfl, Nat.le_refl _⟩⟩
      · have hzs : (Value.agg #[.int .i64 0, .int .i64 0]).cells.size = 2 := rfl
        simp only [Array.size_append, List.size_toArray, size_zeroCells, hzs, List.length_append, lms_length, hx.1]
        omega
      · rw [hlm, ← lms_append, Array.toList_append]
        rw [show (l.length + m) * 2 = (lms (l ++ ms)).length by rw [lms_length, hlm]]
        exact List.take_left

/-- append, as a step of a region that draws its order -/
theorem step_append_M (w : World) {ops : Array Oper} {o : Oper} {act : Act} {K : Act → World → Prop} {Q : Exit → Act → World → Prop} {E : Prop} (hgd : o.guard = none) (s x : Operand)
    (ho : o.op = .call { callee := .builtin .append, args := #[s, x], argTypes := #[139, 139] })
    (a : Option Addr) (k cap : Nat) (l : List Lm) (hs : act.eval s = .slice a k cap) (hk : l.length = k) (hown : OwnM w a cap l)
    (ax : Option Addr) (m c : Nat) (ms : List Lm) (hx : act.eval x = .slice ax m c) (hr : RdM w ax m ms) (hsum : k + m ≤ 1000)
    (h : ∀ a' cap' w', OwnM w' a' cap' (l ++ ms) → w.grownBy w' (Value.slice a k cap).ownBlock → Anew w a a' → K (act.put o.dst (.slice a' (k + m) cap')) w') :
    if Region.wanted o (yielded ops act.tmps) = true then Oper.wp Tryz.prog o act w K Q else E := by
  have hw : Region.wanted o (yielded ops act.tmps) = true := by simp [Region.wanted, hgd]
  rw [if_pos hw]
  subst hk
  obtain ⟨a', cap', w', hrun, h1, h2, h3⟩ := run_append_M w o.type hown (c := c) hr hsum
  unfold Oper.wp execOp
  simp only [ho, resolve, invoke, builtin, Sem.run_bind, Sem.run_pure, Result.andThen_ok, List.map_toArray, List.map_cons, List.map_nil, hs, hx, hrun]
  exact h a' cap' w' h1 h2 h3
/-- append in a plain region -/
theorem wpList_append_M (w : World) {ops : Array Oper} {rest : List Oper} {o : Oper} {act : Act} {Q : Exit → Act → World → Prop} (hgd : o.guard = none) (s x : Operand)
    (ho : o.op = .call { callee := .builtin .append, args := #[s, x], argTypes := #[139, 139] })
    (a : Option Addr) (k cap : Nat) (l : List Lm) (hs : act.eval s = .slice a k cap) (hk : l.length = k) (hown : OwnM w a cap l)
    (ax : Option Addr) (m c : Nat) (ms : List Lm) (hx : act.eval x = .slice ax m c) (hr : RdM w ax m ms) (hsum : k + m ≤ 1000)
    (h : ∀ a' cap' w', OwnM w' a' cap' (l ++ ms) → w.grownBy w' (Value.slice a k cap).ownBlock → Anew w a a' → wpList Tryz.prog ops Q rest (act.put o.dst (.slice a' (k + m) cap')) w') :
    wpList Tryz.prog ops Q (o :: rest) act w := by
  refine wpList_plain hgd fun K hK => ?_
  subst hk
  obtain ⟨a', cap', w', hrun, h1, h2, h3⟩ := run_append_M w o.type hown (c := c) hr hsum
  unfold Oper.wp execOp
  simp only [ho, resolve, invoke, builtin, Sem.run_bind, Sem.run_pure, Result.andThen_ok, List.map_toArray, List.map_cons, List.map_nil, hs, hx, hrun]
  exact hK _ _ (h a' cap' w' h1 h2 h3)
theorem own_row {a : Option Addr} {n cap p k : Nat} (h : (Value.slice a n cap).ownBlock = some k) : k = blk p a := by
  cases a with
  | none => simp [Value.ownBlock] at h
  | some q => simp [Value.ownBlock] at h; simp [blk, h]
end Go.Proofs.YtpoolpckabpnfaaGreat.Ml
