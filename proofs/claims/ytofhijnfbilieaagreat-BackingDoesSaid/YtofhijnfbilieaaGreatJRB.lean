/-
  Rows of blocks in memory: what stays while some blocks are written; rows that are read, rows of the call's own; append.
  The document's own store is opened: what its parts answer, and what stands while it is made.
  The document's own store is opened.
-/
import Derived.Test.YtofhijnfbilieaaGreatProg
import Derived.Test.YtofhijnfbilieaaGreatJRA
import Derived.Test.YtofhijnfbilieaaGreatJBD
import Derived.Test.YtofhijnfbilieaaGreatJBC
import Derived.WalkKit
import Derived.Lib.Hide
import Derived.Below
import Derived.Maps.AppendAt
import Derived.OwnWalk
import Derived.Deep.AppendSrc
import Derived.Deep.Upon
import Derived.Deep.RegionLaw
import Derived.Deep.QuietTactic
import Derived.BigQuiet
import Derived.Shelf.RegionOpenPlain
import Derived.StillTailTactics
import Derived.Deep.CutBlock
import Derived.Deep.DeepCutAuto
namespace Go.Proofs.YtofhijnfbilieaaGreat.Bk.Br
open Go.RowKit
set_option linter.unusedVariables false
set_option linter.unusedSimpArgs false
set_option maxRecDepth 20000

/-! what stays: all blocks but those of l -/
/-- an element: its cell's block, version and bytes -/
structure Be where
  k : Nat
  ep : Int
  sq : Int
  data : ByteArray
/-! a row of blocks, as cells -/
def bes : List Be → List Value
  | [] => []
  | x :: l => .pointer (some ⟨x.k, 0, none⟩) :: .int .i64 x.ep :: .int .i64 x.sq :: .string x.data :: bes l
/-- a block as a value -/
def beV (x : Be) : Value := .agg #[.pointer (some ⟨x.k, 0, none⟩), .int .i64 x.ep, .int .i64 x.sq, .string x.data]

theorem bes_length : ∀ l : List Be, (bes l).length = l.length * 4
  | [] => rfl
  | x :: l => by simp only [bes, List.length_cons, bes_length l]; omega
theorem bes_append : ∀ l m : List Be, bes (l ++ m) = bes l ++ bes m
  | [], m => rfl
  | x :: l, m => by simp only [bes, List.cons_append, bes_append l m]
theorem bes_get : ∀ {l : List Be} {i : Nat} {x : Be}, l[i]? = some x → (bes l)[i * 4]? = some (.pointer (some ⟨x.k, 0, none⟩)) ∧ (bes l)[i * 4 + 1]? = some (.int .i64 x.ep) ∧ (bes l)[i * 4 + 2]? = some (.int .i64 x.sq) ∧ (bes l)[i * 4 + 3]? = some (.string x.data)
  | [], i, x, h => by simp at h
  | q :: l, 0, x, h => by simp at h; subst h; exact ⟨rfl, rfl, rfl, rfl⟩
  | q :: l, i + 1, x, h => by
    have := bes_get (l := l) (i := i) (x := x) (by simpa using h)
    rw [show (i + 1) * 4 = i * 4 + 1 + 1 + 1 + 1 by omega]
    simpa [bes] using this
theorem bes_drop : ∀ (l : List Be) (k : Nat), (bes l).drop (k * 4) = bes (l.drop k)
  | l, 0 => by simp
  | [], k + 1 => by simp [bes]
  | x :: l, k + 1 => by
    rw [show (k + 1) * 4 = k * 4 + 1 + 1 + 1 + 1 by omega]
    simpa [bes] using bes_drop l k
theorem bes_take : ∀ (l : List Be) (k : Nat), (bes l).take (k * 4) = bes (l.take k)
  | l, 0 => by simp [bes]
  | [], k + 1 => by simp [bes]
  | x :: l, k + 1 => by
    rw [show (k + 1) * 4 = k * 4 + 1 + 1 + 1 + 1 by omega]
    simpa [bes] using bes_take l k
theorem bes_one : ∀ l : List Be, ∀ u ∈ bes l, u.oneCell' = true
  | [], u, h => by simp [bes] at h
  | x :: l, u, h => by
    simp only [bes, List.mem_cons] at h
    rcases h with rfl | rfl | rfl | rfl | h
    · rfl
    · rfl
    · rfl
    · rfl
    · exact bes_one l u h

theorem be_info : (Tryz.prog.info? 88).map (fun i => (i.zero, i.size, i.bytes)) = some (some (.agg #[.pointer none, .int .i64 0, .int .i64 0, .string ⟨#[]⟩]), 4, 40) := by kernel_rfl

/-- a slice that reads as blocks -/
def RdB (w : World) (a : Option Addr) (n : Nat) (l : List Be) : Prop :=
  l.length = n ∧ (n = 0 ∨ ∃ b off, a = some ⟨b, off, none⟩ ∧ b < w.heap.size ∧ ∀ j u, (bes l)[j]? = some u → w.cell? ⟨b, off + j, none⟩ = some u)

theorem lt_of_heap {w : World} {g : Nat} {o : Obj} (h : w.heap[g]? = some o) : g < w.heap.size := (Array.getElem?_eq_some_iff.1 h).1
theorem addr_add (b off k : Nat) : ((⟨b, off, none⟩ : Addr).add k) = ⟨b, off + k, none⟩ := by by_cases z : k = 0 <;> simp [Addr.add, z]

theorem RdB.nil (w : World) (a : Option Addr) : RdB w a 0 [] := ⟨rfl, .inl rfl⟩
theorem RdB.at {w : World} {a : Option Addr} {n : Nat} {l : List Be} (h : RdB w a n l) {i : Nat} {x : Be} (hx : l[i]? = some x) :
    ∃ b off, a = some ⟨b, off, none⟩ ∧ b < w.heap.size ∧ w.cell? ⟨b, off + i * 4, none⟩ = some (.pointer (some ⟨x.k, 0, none⟩)) ∧ w.cell? ⟨b, off + i * 4 + 1, none⟩ = some (.int .i64 x.ep) ∧ w.cell? ⟨b, off + i * 4 + 2, none⟩ = some (.int .i64 x.sq) ∧ w.cell? ⟨b, off + i * 4 + 3, none⟩ = some (.string x.data) := by
  have hi := (List.getElem?_eq_some_iff.1 hx).1
  rcases h.2 with h0 | ⟨b, off, ha, hb, hc⟩
  · have := h.1; omega
  · obtain ⟨k1, k2, k3, k4⟩ := bes_get hx
    exact ⟨b, off, ha, hb, hc _ _ k1, by rw [Nat.add_assoc]; exact hc _ _ k2, by rw [Nat.add_assoc]; exact hc _ _ k3, by rw [Nat.add_assoc]; exact hc _ _ k4⟩
theorem RdB.keep {w w' : World} {a : Option Addr} {n : Nat} {l : List Be} (h : RdB w a n l) (hs : w.heap.size ≤ w'.heap.size) (hk : ∀ b off, a = some ⟨b, off, none⟩ → b < w.heap.size → w'.heap[b]? = w.heap[b]?) : RdB w' a n l := by
  refine ⟨h.1, ?_⟩
  rcases h.2 with h0 | ⟨b, off, ha, hb, hc⟩
  · exact .inl h0
  · exact .inr ⟨b, off, ha, by omega, fun j u hu => (World.cell?_of_block (w := w) (a := ⟨b, off + j, none⟩) (hk b off ha hb)).trans (hc j u hu)⟩
theorem RdB.below {w w' : World} {a : Option Addr} {n : Nat} {l : List Be} (h : RdB w a n l) {B : Nat} (hb : Below B w w') (hB : w.heap.size ≤ B) : RdB w' a n l := h.keep hb.size fun b off _ hlt => hb.block b (by omega)
theorem RdB.drew {w : World} {a : Option Addr} {n : Nat} {l : List Be} (h : RdB w a n l) (q : Nat) : RdB (w.drewN q) a n l := h
theorem RdB.drop {w : World} {b off n : Nat} {l : List Be} (h : RdB w (some ⟨b, off, none⟩) n l) (k : Nat) (hk : k ≤ n) : RdB w (some ⟨b, off + k * 4, none⟩) (n - k) (l.drop k) := by
  refine ⟨by simp [h.1], ?_⟩
  rcases h.2 with h0 | ⟨b', off', ha, hb, hc⟩
  · exact .inl (by omega)
  · injection ha with ha
    injection ha with e1 e2
    subst e1 e2
    refine .inr ⟨b, off + k * 4, rfl, hb, fun j u hu => ?_⟩
    rw [← bes_drop, List.getElem?_drop] at hu
    rw [Nat.add_assoc]
    exact hc _ u hu

/-- an own row of blocks -/
def OwnB (w : World) (a : Option Addr) (cap : Nat) (l : List Be) : Prop :=
  (a = none ∧ cap = 0 ∧ l = []) ∨ ∃ g cur, a = some ⟨g, 0, none⟩ ∧ w.heap[g]? = some (.cells cur 88 (0, 0)) ∧ l.length ≤ cap ∧ cap ≤ maxLen ∧ cap * 4 ≤ cur.size ∧ cur.toList.take (l.length * 4) = bes l
/-- the block of a row, if it has one -/
def blk (p : Nat) : Option Addr → Nat
  | some a => a.block
  | none => p

theorem OwnB.nil (w : World) : OwnB w none 0 [] := .inl ⟨rfl, rfl, rfl⟩
theorem OwnB.cap {w : World} {a : Option Addr} {cap : Nat} {l : List Be} (h : OwnB w a cap l) : l.length ≤ cap ∧ cap ≤ maxLen := by
  rcases h with ⟨rfl, rfl, rfl⟩ | ⟨g, cur, rfl, h1, h2, h3, h4, h5⟩
  · simp [maxLen]
  · exact ⟨h2, h3⟩
theorem OwnB.of_block {w w' : World} {a : Option Addr} {cap : Nat} {l : List Be} (h : OwnB w a cap l) {p : Nat} (hb : w'.heap[blk p a]? = w.heap[blk p a]?) : OwnB w' a cap l := by
  rcases h with h | ⟨g, cur, rfl, h1, h2⟩
  · exact .inl h
  · exact .inr ⟨g, cur, rfl, by simp only [blk] at hb; rw [hb]; exact h1, h2⟩
theorem OwnB.lt {w : World} {a : Option Addr} {cap : Nat} {l : List Be} (h : OwnB w a cap l) {p : Nat} (hl : p < w.heap.size) : blk p a < w.heap.size := by
  rcases h with ⟨rfl, rfl, rfl⟩ | ⟨g, cur, rfl, h1, h2, h3, h4, h5⟩
  · exact hl
  · exact lt_of_heap h1
theorem OwnB.but {w w' : World} {a : Option Addr} {cap : Nat} {l : List Be} (h : OwnB w a cap l) {q : List Nat} (hb : But q w w') {p : Nat} (hp : blk p a ∉ q) : OwnB w' a cap l := by
  rcases h with h | ⟨g, cur, rfl, h1, h2⟩
  · exact .inl h
  · exact .inr ⟨g, cur, rfl, by rw [hb.block g (lt_of_heap h1) hp]; exact h1, h2⟩
theorem OwnB.below {w w' : World} {a : Option Addr} {cap : Nat} {l : List Be} (h : OwnB w a cap l) {B : Nat} (hb : Below B w w') (hB : w.heap.size ≤ B) : OwnB w' a cap l := by
  rcases h with h | ⟨g, cur, rfl, h1, h2⟩
  · exact .inl h
  · exact .inr ⟨g, cur, rfl, by rw [hb.block g (by have := lt_of_heap h1; omega)]; exact h1, h2⟩
theorem OwnB.drew {w : World} {a : Option Addr} {cap : Nat} {l : List Be} (h : OwnB w a cap l) (q : Nat) : OwnB (w.drewN q) a cap l := h
theorem OwnB.rd {w : World} {a : Option Addr} {cap : Nat} {l : List Be} (h : OwnB w a cap l) : RdB w a l.length l := by
  refine ⟨rfl, ?_⟩
  rcases h with ⟨rfl, rfl, rfl⟩ | ⟨g, cur, rfl, h1, h2, h3, h4, h5⟩
  · exact .inl rfl
  · refine .inr ⟨g, 0, rfl, lt_of_heap h1, fun j u hu => ?_⟩
    have hj := (List.getElem?_eq_some_iff.1 hu).1
    rw [bes_length] at hj
    rw [← h5, List.getElem?_take, if_pos hj, Array.getElem?_toList] at hu
    simp only [World.cell?, h1, Nat.zero_add]
    simpa using hu
/-- a beginning of an own row, its room cut -/
theorem OwnB.cut {w : World} {a : Option Addr} {cap : Nat} {l : List Be} (h : OwnB w a cap l) (k : Nat) (hk : k ≤ l.length) : OwnB w a k (l.take k) := by
  rcases h with ⟨rfl, rfl, rfl⟩ | ⟨g, cur, rfl, h1, h2, h3, h4, h5⟩
  · simp at hk; subst hk; exact .inl ⟨rfl, rfl, rfl⟩
  · have hm : min k l.length = k := Nat.min_eq_left hk
    refine .inr ⟨g, cur, rfl, h1, by simp; omega, by omega, Nat.le_trans (Nat.mul_le_mul_right 4 (by omega)) h4, ?_⟩
    rw [List.length_take, hm, ← bes_take, ← h5, List.take_take, Nat.min_eq_left (Nat.mul_le_mul_right 4 hk)]

/-- where a row lies behind an append: where it lay, or in a new block -/
def Anew (w : World) (a a' : Option Addr) : Prop := a' = a ∨ ∃ g, a' = some ⟨g, 0, none⟩ ∧ w.heap.size ≤ g
theorem Anew.blk {w : World} {a a' : Option Addr} (h : Anew w a a') (p : Nat) : blk p a' = blk p a ∨ w.heap.size ≤ blk p a' := by
  rcases h with rfl | ⟨g, rfl, hg⟩
  · exact .inl rfl
  · exact .inr hg
theorem Anew.refl (w : World) (a : Option Addr) : Anew w a a := .inl rfl
theorem Anew.trans {w w' : World} {a b c : Option Addr} (h : Anew w a b) (k : Anew w' b c) (hs : w.heap.size ≤ w'.heap.size) : Anew w a c := by
  rcases k with rfl | ⟨g, rfl, hg⟩
  · exact h
  · exact .inr ⟨g, rfl, by omega⟩
theorem Anew.more {w w' : World} {a b : Option Addr} (h : Anew w' a b) (hs : w.heap.size ≤ w'.heap.size) : Anew w a b := by
  rcases h with h | ⟨g, rfl, hg⟩
  · exact .inl h
  · exact .inr ⟨g, rfl, by omega⟩

theorem lay_take {α : Type} (l : List α) (o : Nat) (v : α) (ho : o < l.length) : (l.set o v).take (o + 1) = l.take o ++ [v] := by
  rw [List.take_succ_eq_append_getElem (by simpa using ho), List.getElem_set_self, List.take_set_of_le (Nat.le_refl _)]
theorem lay_drop {α : Type} (l : List α) (o k : Nat) (v : α) (h : o < k) : (l.set o v).drop k = l.drop k := List.drop_set_of_lt h
theorem obj_setCells {b : Nat} {e : TypeId} {fr : Nat × Nat} : ∀ (vs : List Value) (o : Nat) (w : World) (cur : Array Value), w.heap[b]? = some (.cells cur e fr) → o + vs.length ≤ cur.size →
    ∃ cur', (w.setCells b o vs).heap[b]? = some (.cells cur' e fr) ∧ cur'.size = cur.size ∧ cur'.toList = cur.toList.take o ++ vs ++ cur.toList.drop (o + vs.length)
  | [], o, w, cur, h, hs => ⟨cur, h, rfl, by simp⟩
  | v :: r, o, w, cur, h, hs => by
    have h1 : (w.setCell ⟨b, o, none⟩ v).heap[b]? = some (.cells (cur.setIfInBounds o v) e fr) := by
      simp only [World.setCell, Array.getElem?_modify, if_pos]
      simp [h]
    simp only [List.length_cons] at hs
    obtain ⟨cur', g1, g2, g3⟩ := obj_setCells r (o + 1) _ _ h1 (by simp; omega)
    refine ⟨cur', by rw [World.setCells]; exact g1, by rw [g2]; simp, ?_⟩
    rw [g3, Array.toList_setIfInBounds]
    simp only [List.length_cons]
    have ho : o < cur.toList.length := by rw [Array.length_toList]; omega
    rw [lay_take _ _ _ ho, lay_drop _ _ _ _ (show o < o + 1 + r.length by omega)]
    simp [show o + 1 + r.length = o + (r.length + 1) by omega]
theorem heap_setCells (b : Nat) : ∀ (vs : List Value) (o : Nat) (w : World) (k : Nat), k ≠ b → (w.setCells b o vs).heap[k]? = w.heap[k]?
  | [], _, _, _, _ => rfl
  | v :: r, o, w, k, hk => by rw [World.setCells, heap_setCells b r _ _ k hk, Below.heap_setCell _ _ _ _ hk]
theorem size_setCells (b : Nat) : ∀ (vs : List Value) (o : Nat) (w : World), (w.setCells b o vs).heap.size = w.heap.size
  | [], _, _ => rfl
  | v :: r, o, w => by rw [World.setCells, size_setCells b r]; simp [World.setCell]
theorem os_setCells (b : Nat) : ∀ (vs : List Value) (o : Nat) (w : World), (w.setCells b o vs).os = w.os ∧ (w.setCells b o vs).tape = w.tape ∧ (w.setCells b o vs).output = w.output
  | [], _, _ => ⟨rfl, rfl, rfl⟩
  | v :: r, o, w => by rw [World.setCells]; exact os_setCells b r _ _

/-- append: an own row, and any row that reads as blocks -/
theorem run_append_B (w : World) (ty : TypeId) {a : Option Addr} {cap : Nat} {l : List Be} (h : OwnB w a cap l) {ax : Option Addr} {m c : Nat} {ms : List Be} (hx : RdB w ax m ms) (hs : l.length + m ≤ 1000) :
    ∃ a' cap' w', (Builtin.append_ #[57, 57] ty #[.slice a l.length cap, .slice ax m c]).run Tryz.prog w = .ok (.slice a' (l.length + m) cap') w' ∧ OwnB w' a' cap' (l ++ ms) ∧ w.grownBy w' (Value.slice a l.length cap).ownBlock ∧ Anew w a a' := by
  obtain ⟨i0, hi0, hz0, hz1, hz2⟩ := info_parts be_info
  have hlm : (l ++ ms).length = l.length + m := by rw [List.length_append, hx.1]
  have hcap := h.cap
  have hml : (1000 : Nat) ≤ maxLen := by simp [maxLen]
  by_cases hm0 : m = 0
  · -- nothing is appended
    subst hm0
    obtain rfl : ms = [] := List.eq_nil_of_length_eq_zero hx.1
    have hsrc : Src Tryz.prog i0.size 57 (.slice ax 0 c) 0 [] w := by
      cases ax with
      | none => exact Src.ofNil w Tryz.underlying57 c
      | some p => exact Src.ofSlice w Tryz.underlying57 p 0 c [] (by simp) (by simp) (by simp)
    refine ⟨a, cap, w, run_append_nothing w _ _ ty _ i0 Tryz.underlying57 hi0 a l.length cap hcap.1 _ hsrc, by simpa using h, ⟨rfl, rfl, rfl, Nat.le_refl _, fun _ _ _ => rfl⟩, .inl rfl⟩
  · obtain ⟨bx, ox, rfl, hbx, hcx⟩ := hx.2.resolve_left hm0
    have hnl : (bes ms).length = m * i0.size := by rw [bes_length, hx.1, hz1]
    have hnews : ∀ j u, (bes ms)[j]? = some u → w.cell? ((⟨bx, ox, none⟩ : Addr).add j) = some u := fun j u hu => by rw [addr_add]; exact hcx j u hu
    have hsrc : Src Tryz.prog i0.size 57 (.slice (some ⟨bx, ox, none⟩) m c) m (bes ms) w := Src.ofSlice w Tryz.underlying57 _ m c _ hnl hnews (bes_one _)
    by_cases hroom : l.length + m ≤ cap
    · rcases h with ⟨rfl, rfl, rfl⟩ | ⟨g, cur, rfl, h1, h2, h3, h4, h5⟩
      · simp at hroom; omega
      · have hfit : l.length * 4 + (bes ms).length ≤ cur.size := by rw [bes_length, hx.1]; omega
        have hcell : ∀ j, j < (bes ms).length → (w.cell? ⟨g, 0 + l.length * i0.size + j, none⟩).isSome = true := fun j hj => by
          rw [hz1]
          simp only [World.cell?, h1]
          rw [Array.getElem?_eq_getElem (by omega)]; rfl
        have hfrz : ∀ j, j < (bes ms).length → w.frozen? ⟨g, 0 + l.length * i0.size + j, none⟩ = false := fun j hj => by simp [World.frozen?, h1]
        have hrun := run_append_room_src (P := Tryz.prog) w _ _ ty _ i0 Tryz.underlying57 hi0 g 0 l.length cap _ m (bes ms) hsrc hroom hcell hfrz
        rw [hz1, Nat.zero_add] at hrun
        obtain ⟨cur', c1, c2, c3⟩ := obj_setCells (bes ms) (l.length * 4) w cur h1 hfit
        refine ⟨_, _, _, hrun, .inr ⟨g, cur', rfl, c1, by omega, h3, by omega, ?_⟩, ?_, .inl rfl⟩
        · rw [hlm, c3, h5, ← bes_append]
          rw [show (l.length + m) * 4 = (bes (l ++ ms)).length by rw [bes_length, hlm]]
          exact List.take_left
        · obtain ⟨e1, e2, e3⟩ := os_setCells g (bes ms) (l.length * 4) w
          exact ⟨e1, e2, e3, Nat.le_of_eq (size_setCells _ _ _ _).symm, fun k _ hk => heap_setCells _ _ _ _ _ (fun e => hk (by simp [Value.ownBlock, e]))⟩
    · have hold : (Builtin.firstCells i0.size l.length (.slice a l.length cap)).run Tryz.prog w.drew = .ok (bes l).toArray w.drew := by
        rw [hz1]
        rcases h with ⟨rfl, rfl, rfl⟩ | ⟨g, cur, rfl, h1, h2, h3, h4, h5⟩
        · exact run_firstCells_none w.drew 4 0 0 0
        · exact run_firstCells_some w.drew 4 l.length ⟨g, 0, none⟩ l.length cap _ (bes_length l) (fun j u hu => by
            rw [addr_add]
            have hj := (List.getElem?_eq_some_iff.1 hu).1
            rw [bes_length] at hj
            rw [← h5, List.getElem?_take, if_pos hj, Array.getElem?_toList] at hu
            show w.cell? _ = _
            simp only [World.cell?, h1, Nat.zero_add]
            simpa using hu)
      have hrun := run_append_grow_src (P := Tryz.prog) w _ _ ty _ i0 _ Tryz.underlying57 hi0 hz0 a l.length cap (bes l) hold _ m (bes ms) hsrc (by omega) (by omega) (growslice_fits (by omega) (by rw [hz2]; omega))
      have hge := grownCap_ge w (l.length + m) cap 88
      have hcm := grownCap_le_maxLen w (l.length + m) cap 88 (by omega)
      refine ⟨_, _, _, hrun, .inr ⟨w.heap.size, _, rfl, heap_alloc_new w.drew _, by rw [hlm]; exact hge, hcm, ?_, ?_⟩, ⟨rfl, rfl, rfl, by simp, fun k hk _ => Below.heap_alloc w.drew _ k hk⟩, .inr ⟨_, rfl, Nat.le_refl _⟩⟩
      · have hzs : (Value.agg #[.pointer none, .int .i64 0, .int .i64 0, .string ⟨#[]⟩]).cells.size = 4 := rfl
        simp only [Array.size_append, List.size_toArray, size_zeroCells, hzs, List.length_append, bes_length, hx.1]
        omega
      · rw [hlm, ← bes_append, Array.toList_append]
        rw [show (l.length + m) * 4 = (bes (l ++ ms)).length by rw [bes_length, hlm]]
        exact List.take_left

/-- append, as a step of a region that draws its order -/
theorem step_append_B (w : World) {ops : Array Oper} {o : Oper} {act : Act} {K : Act → World → Prop} {Q : Exit → Act → World → Prop} {E : Prop} (hgd : o.guard = none) (s x : Operand)
    (ho : o.op = .call { callee := .builtin .append, args := #[s, x], argTypes := #[57, 57] })
    (a : Option Addr) (k cap : Nat) (l : List Be) (hs : act.eval s = .slice a k cap) (hk : l.length = k) (hown : OwnB w a cap l)
    (ax : Option Addr) (m c : Nat) (ms : List Be) (hx : act.eval x = .slice ax m c) (hr : RdB w ax m ms) (hsum : k + m ≤ 1000)
    (h : ∀ a' cap' w', OwnB w' a' cap' (l ++ ms) → w.grownBy w' (Value.slice a k cap).ownBlock → Anew w a a' → K (act.put o.dst (.slice a' (k + m) cap')) w') :
    if Region.wanted o (yielded ops act.tmps) = true then Oper.wp Tryz.prog o act w K Q else E := by
  have hw : Region.wanted o (yielded ops act.tmps) = true := by simp [Region.wanted, hgd]
  rw [if_pos hw]
  subst hk
  obtain ⟨a', cap', w', hrun, h1, h2, h3⟩ := run_append_B w o.type hown (c := c) hr hsum
  unfold Oper.wp execOp
  simp only [ho, resolve, invoke, builtin, Sem.run_bind, Sem.run_pure, Result.andThen_ok, List.map_toArray, List.map_cons, List.map_nil, hs, hx, hrun]
  exact h a' cap' w' h1 h2 h3
/-- append in a plain region -/
theorem wpList_append_B (w : World) {ops : Array Oper} {rest : List Oper} {o : Oper} {act : Act} {Q : Exit → Act → World → Prop} (hgd : o.guard = none) (s x : Operand)
    (ho : o.op = .call { callee := .builtin .append, args := #[s, x], argTypes := #[57, 57] })
    (a : Option Addr) (k cap : Nat) (l : List Be) (hs : act.eval s = .slice a k cap) (hk : l.length = k) (hown : OwnB w a cap l)
    (ax : Option Addr) (m c : Nat) (ms : List Be) (hx : act.eval x = .slice ax m c) (hr : RdB w ax m ms) (hsum : k + m ≤ 1000)
    (h : ∀ a' cap' w', OwnB w' a' cap' (l ++ ms) → w.grownBy w' (Value.slice a k cap).ownBlock → Anew w a a' → wpList Tryz.prog ops Q rest (act.put o.dst (.slice a' (k + m) cap')) w') :
    wpList Tryz.prog ops Q (o :: rest) act w := by
  refine wpList_plain hgd fun K hK => ?_
  subst hk
  obtain ⟨a', cap', w', hrun, h1, h2, h3⟩ := run_append_B w o.type hown (c := c) hr hsum
  unfold Oper.wp execOp
  simp only [ho, resolve, invoke, builtin, Sem.run_bind, Sem.run_pure, Result.andThen_ok, List.map_toArray, List.map_cons, List.map_nil, hs, hx, hrun]
  exact hK _ _ (h a' cap' w' h1 h2 h3)
theorem own_row {a : Option Addr} {n cap p k : Nat} (h : (Value.slice a n cap).ownBlock = some k) : k = blk p a := by
  cases a with
  | none => simp [Value.ownBlock] at h
  | some q => simp [Value.ownBlock] at h; simp [blk, h]
end Go.Proofs.YtofhijnfbilieaaGreat.Bk.Br
namespace Go.Proofs.YtofhijnfbilieaaGreat.Bk
open Go.RowKit
set_option linter.unusedVariables false
set_option linter.unusedSimpArgs false
set_option maxRecDepth 20000

/-! ## the numbers of its cells -/
theorem rnums_tok (w : World) (s : ByteArray) (hs : s.size ≤ 100) :
    Calls Tryz.prog 28 #[.string s, .int .i64 31, .int .i64 1, .int .i64 0] w fun e w' => ∃ a n c t, e = .returned (.tuple #[.slice a n c, .string t, .bool (recOf s 31 1 0).isSome]) ∧
      ((recOf s 31 1 0).isSome = true → ∃ b, a = some ⟨b, 0, none⟩ ∧ n = 1 ∧ 1 ≤ c ∧ c ≤ maxLen ∧ b < w'.heap.size ∧ w'.cell? ⟨b, 0, none⟩ = some (.int .i64 (tok s))) ∧ Below w.heap.size w w' := by
  cases h : recOf s 31 1 0 with
  | none =>
    refine (rnums_no w s (by omega) 31 1 0 h).mono ?_
    rintro e w' ⟨rfl, hb⟩
    exact ⟨none, 0, 0, _, rfl, (fun hx => by cases hx), hb⟩
  | some r =>
    refine (rnums_yes w s (by omega) 31 1 0 (.inl rfl) r h ⟨#[]⟩ true rfl rfl).mono ?_
    rintro e w' ⟨aN, cN, rfl, ho, hb⟩
    refine ⟨aN, 1, cN, _, rfl, fun _ => ?_, hb⟩
    obtain ⟨hr, hof⟩ := C.own_row ho
    obtain ⟨b, off, t, ha, hlt, ht, hc⟩ := C.row_i64 hr 0 (by omega)
    obtain rfl := (hof b off ha).2
    have e : tok s = t := by
      unfold tok
      rw [h]
      simp only [tokR, List.getD_eq_getElem?_getD, ht, Option.getD_some]
    rw [e]
    exact ⟨b, ha, rfl, hr.2.1, hr.2.2.1, hlt, hc⟩

/-- is a cell's text a block's? -/
def okB (s : ByteArray) : Bool := match recOf s 30 6 1 with
  | some r => decide ((r.texts.getD 0 ⟨#[]⟩).size = 8)
  | none => false
theorem st_bad {s : ByteArray} (h : okB s = false) : st s = Sd.zero := by
  unfold okB at h
  unfold st
  cases hr : recOf s 30 6 1 with
  | none => rfl
  | some r =>
    rw [hr] at h
    simp only at h
    simp only [stR]
    rw [if_neg (of_decide_eq_false h)]
/-- six numbers in a row -/
structure N6 (w : World) (b : Nat) (s : Sd) : Prop where
  c0 : w.cell? ⟨b, 0, none⟩ = some (.int .i64 s.ep)
  c1 : w.cell? ⟨b, 1, none⟩ = some (.int .i64 s.sq)
  ct : ∀ k, k < 4 → w.cell? ⟨b, 2 + k, none⟩ = some (.int .i64 (s.t.at k))
theorem N6.of_block {w w' : World} {b : Nat} {s : Sd} (h : N6 w b s) (hb : w'.heap[b]? = w.heap[b]?) : N6 w' b s where
  c0 := by rw [World.cell?_of_block (w := w) (a := ⟨b, 0, none⟩) hb]; exact h.c0
  c1 := by rw [World.cell?_of_block (w := w) (a := ⟨b, 1, none⟩) hb]; exact h.c1
  ct := fun k hk => by rw [World.cell?_of_block (w := w) (a := ⟨b, 2 + k, none⟩) hb]; exact h.ct k hk
theorem rnums_blk (w : World) (s : ByteArray) (hs : s.size ≤ 100) :
    Calls Tryz.prog 28 #[.string s, .int .i64 30, .int .i64 6, .int .i64 1] w fun e w' => ∃ a n c t, e = .returned (.tuple #[.slice a n c, .string t, .bool (okB s)]) ∧
      (okB s = true → ∃ b, a = some ⟨b, 0, none⟩ ∧ n = 6 ∧ 6 ≤ c ∧ c ≤ maxLen ∧ w.heap.size ≤ b ∧ b < w'.heap.size ∧ N6 w' b (st s) ∧ t = (st s).data) ∧ Below w.heap.size w w' := by
  cases h : recOf s 30 6 1 with
  | none =>
    have e : okB s = false := by unfold okB; rw [h]
    rw [e]
    refine (rnums_no w s (by omega) 30 6 1 h).mono ?_
    rintro e w' ⟨rfl, hb⟩
    exact ⟨none, 0, 0, _, rfl, (fun hx => by cases hx), hb⟩
  | some r =>
    have e : okB s = decide ((r.texts.getD 0 ⟨#[]⟩).size = 8) := by unfold okB; rw [h]
    rw [e]
    refine (rnums_yes w s (by omega) 30 6 1 (.inr rfl) r h (r.texts.getD 0 ⟨#[]⟩) (decide ((r.texts.getD 0 ⟨#[]⟩).size = 8)) rfl rfl).mono ?_
    rintro e w' ⟨aN, cN, rfl, ho, hb⟩
    refine ⟨aN, 6, cN, _, rfl, fun h8 => ?_, hb⟩
    have h8' := of_decide_eq_true h8
    obtain ⟨hr, hof⟩ := C.own_row ho
    have key : ∀ k, k < 6 → ∃ b off t, aN = some ⟨b, off, none⟩ ∧ b < w'.heap.size ∧ r.nums[k]? = some t ∧ w'.cell? ⟨b, off + k, none⟩ = some (.int .i64 t) := fun k hk => C.row_i64 hr k hk
    obtain ⟨b, off, t0, ha, hlt, _, _⟩ := key 0 (by omega)
    obtain ⟨hw, rfl⟩ := hof b off ha
    have each : ∀ k, k < 6 → w'.cell? ⟨b, k, none⟩ = some (.int .i64 (r.nums.getD k 0)) := fun k hk => by
      obtain ⟨b', off', t, ha', _, ht, hc⟩ := key k hk
      rw [ha] at ha'
      injection ha' with ha'
      injection ha' with e1 e2
      subst e1 e2
      rw [Nat.zero_add] at hc
      rw [hc, List.getD_eq_getElem?_getD, ht]
      rfl
    have es : st s = ⟨r.nums.getD 0 0, r.nums.getD 1 0, r.texts.getD 0 ⟨#[]⟩, ⟨r.nums.getD 2 0, r.nums.getD 3 0, r.nums.getD 4 0, r.nums.getD 5 0⟩⟩ := by
      unfold st
      rw [h]
      simp only [stR]
      rw [if_pos h8']
    refine ⟨b, ha, rfl, hr.2.1, hr.2.2.1, hw, hlt, ⟨?_, ?_, fun k hk => ?_⟩, by rw [es]⟩
    · rw [es]; exact each 0 (by omega)
    · rw [es]; exact each 1 (by omega)
    · rw [es, each (2 + k) (by omega)]
      rcases k4 hk with rfl | rfl | rfl | rfl <;> rfl

/-! ## a table gone through with another one -/
def mT (y : T4) : Ml.Mg := ⟨0, 0, 0, 0, 0, -1, 0, y.a, y.b, y.c, y.d, ⟨#[]⟩, ⟨#[]⟩⟩
theorem upT_up (x y : T4) : upT (mT y) x 4 = x.up y := by
  rw [upT_all]
  unfold T4.bump
  rw [if_neg (by simp [mT]), if_neg (by simp [mT]), if_neg (by simp [mT]), if_neg (by simp [mT])]
  rfl
theorem upT_on (x y : T4) (j : Nat) : upT (mT y) x (j + 1) = if (upT (mT y) x j).at j < y.at j then (upT (mT y) x j).put j (y.at j) else upT (mT y) x j := by
  show upS (mT y) (upT (mT y) x j) j = _
  unfold upS
  simp only
  rw [if_neg (show ¬ ((mT y).client = (j : Int) ∧ _) from fun h => by have := h.1; simp only [mT] at this; omega)]
  rfl
theorem T4.up_zero {x : T4} (h : x.Ok) : x.up T4.zero = x := by
  obtain ⟨a, b, c, d⟩ := x
  obtain ⟨h1, h2, h3, h4⟩ := h
  simp only at h1 h2 h3 h4
  simp only [T4.up, T4.zero, T4.mk.injEq]
  omega

/-! ## the blocks made so far -/
def els (K : Nat → Nat) (Q : Cs) (i : Nat) : List Br.Be := (List.range i).map fun j => ⟨K (j + 1), (blk Q j).ep, (blk Q j).sq, (blk Q j).data⟩
theorem els_len (K : Nat → Nat) (Q : Cs) (i : Nat) : (els K Q i).length = i := by simp [els]
theorem els_on (K : Nat → Nat) (Q : Cs) (i b : Nat) : els (Ks.set K (i + 1) b) Q (i + 1) = els K Q i ++ [⟨b, (blk Q i).ep, (blk Q i).sq, (blk Q i).data⟩] := by
  unfold els
  rw [List.range_succ, List.map_append, List.map_cons, List.map_nil, Ks.set_same]
  congr 1
  apply List.map_congr_left
  intro j hj
  rw [List.mem_range] at hj
  rw [Ks.set_other _ _ (by omega)]
theorem els_at (K : Nat → Nat) (Q : Cs) {i j : Nat} (h : j < i) : (els K Q i)[j]? = some ⟨K (j + 1), (blk Q j).ep, (blk Q j).sq, (blk Q j).data⟩ := by simp [els, h]

/-- a store that is being made -/
structure PR (w wr : World) (rB tR f i : Nat) (d : M.Dv) (K : Nat → Nat) (a : Option Addr) (cap : Nat) (X : T4) : Prop where
  be : Below w.heap.size w wr
  tl : w.heap.size ≤ tR
  p0 : wr.cell? ⟨tR, 0, none⟩ = some (.pointer (some ⟨K 0, 0, none⟩))
  p1 : wr.cell? ⟨tR, 1, none⟩ = some (.int .i64 (token (there d f)))
  p2 : wr.cell? ⟨tR, 2, none⟩ = some (.slice a i cap)
  n4 : N4 wr tR 3 X
  ow : Br.OwnB wr a cap (els K (there d f) i)
  al : ∀ p, a = some p → w.heap.size ≤ p.block ∧ p.block ≠ tR ∧ ∀ k, k ≤ i → K k ≠ p.block
  cel : ∀ k, k ≤ i → ∃ z, ZO z (there d f k).o ∧ RCell wr (K k) rB (f + 2 * k) (f + 2 * k + 1) z (there d f k)
  kl : ∀ k, k ≤ i → w.heap.size ≤ K k ∧ K k ≠ tR
  kd : ∀ j k, j ≤ i → k ≤ i → j ≠ k → K j ≠ K k
section
variable {w wr w2 : World} {rB tR f i : Nat} {d : M.Dv} {K : Nat → Nat} {a : Option Addr} {cap : Nat} {X : T4}
theorem PR.lt (h : PR w wr rB tR f i d K a cap X) : tR < wr.heap.size := World.block_lt_of_cell? wr _ h.p0
theorem PR.klt (h : PR w wr rB tR f i d K a cap X) {k : Nat} (hk : k ≤ i) : K k < wr.heap.size := by obtain ⟨z, _, hc⟩ := h.cel k hk; exact hc.lt
theorem PR.alt (h : PR w wr rB tR f i d K a cap X) {p : Addr} (hp : a = some p) : p.block < wr.heap.size := by
  have := h.ow.lt (p := tR) h.lt
  rw [hp] at this
  exact this
theorem PR.below (h : PR w wr rB tR f i d K a cap X) (hb : Below wr.heap.size wr w2) : PR w w2 rB tR f i d K a cap X :=
  ⟨h.be.trans (hb.mono h.be.size), h.tl, (hb.cell (p := ⟨tR, 0, none⟩) h.lt).trans h.p0, (hb.cell (p := ⟨tR, 1, none⟩) h.lt).trans h.p1, (hb.cell (p := ⟨tR, 2, none⟩) h.lt).trans h.p2, h.n4.below hb h.n4.lt, h.ow.below hb (Nat.le_refl _), h.al,
    fun k hk => by obtain ⟨z, hz, hc⟩ := h.cel k hk; exact ⟨z, hz, hc.below hb hc.lt⟩, h.kl, h.kd⟩
theorem PR.setT (h : PR w wr rB tR f i d K a cap X) {k : Nat} (hk : k < 4) (v : Int) : PR w (wr.setCell ⟨tR, 3 + k, none⟩ (.int .i64 v)) rB tR f i d K a cap (X.put k v) := by
  have hb : But [tR] wr (wr.setCell ⟨tR, 3 + k, none⟩ (.int .i64 v)) := (But.refl [tR] wr).set _ (.inl (by simp))
  refine ⟨h.be.setCell (p := ⟨tR, 3 + k, none⟩) h.tl _, h.tl, ?_, ?_, ?_, h.n4.putAt hk v, ?_, h.al, fun j hj => ?_, h.kl, h.kd⟩
  · rw [World.cell?_setCell_other _ _ _ _ (by intro e; injection e with _ e; omega)]; exact h.p0
  · rw [World.cell?_setCell_other _ _ _ _ (by intro e; injection e with _ e; omega)]; exact h.p1
  · rw [World.cell?_setCell_other _ _ _ _ (by intro e; injection e with _ e; omega)]; exact h.p2
  · rcases h.ow with ho | ⟨g, cur, hg, h1, h2⟩
    · exact .inl ho
    · have := (h.al _ hg).2.1
      exact .inr ⟨g, cur, hg, by rw [hb.block g (Br.lt_of_heap h1) (by simp; exact this)]; exact h1, h2⟩
  · obtain ⟨z, hz, hc⟩ := h.cel j hj
    have := (h.kl j hj).2
    exact ⟨z, hz, hc.but hb (by simp; exact this)⟩
/-- a block of the call's own, none of the store's, is written -/
theorem PR.other (h : PR w wr rB tR f i d K a cap X) {B : Nat} (hb : But [B] wr w2) (hB : w.heap.size ≤ B) (h1 : B ≠ tR) (h2 : ∀ p, a = some p → p.block ≠ B) (h3 : ∀ k, k ≤ i → K k ≠ B) : PR w w2 rB tR f i d K a cap X := by
  have ht : tR ∉ [B] := by simp; omega
  refine ⟨h.be.trans (hb.to_below (by simpa using hB) h.be.size), h.tl, (hb.cell h.lt ht).trans h.p0, (hb.cell h.lt ht).trans h.p1, (hb.cell h.lt ht).trans h.p2, h.n4.of_block (hb.block _ h.lt ht), ?_, h.al, fun j hj => ?_, h.kl, h.kd⟩
  · rcases h.ow with ho | ⟨g, cur, hg, q1, q2⟩
    · exact .inl ho
    · have := h2 _ hg
      exact .inr ⟨g, cur, hg, by rw [hb.block g (Br.lt_of_heap q1) (by simp; exact this)]; exact q1, q2⟩
  · obtain ⟨z, hz, hc⟩ := h.cel j hj
    exact ⟨z, hz, hc.but hb (by simp; exact h3 j hj)⟩
/-- another cell, and the row with one element more -/
theorem PR.push {W1 w5 : World} (h : PR w wr rB tR f i d K a cap X) {cB z : Nat} (hz : ZO z (there d f (i + 1)).o) (hc : RCell wr cB rB (f + 2 * (i + 1)) (f + 2 * (i + 1) + 1) z (there d f (i + 1))) (h1 : w.heap.size ≤ cB) (h2 : cB ≠ tR) (h3 : ∀ p, a = some p → p.block ≠ cB) (h4 : ∀ k, k ≤ i → K k ≠ cB)
    (hb : Below wr.heap.size wr W1) (gr : W1.grownBy w5 (Value.slice a i cap).ownBlock) {a5 : Option Addr} {cap5 : Nat} (o5 : Br.OwnB w5 a5 cap5 (els K (there d f) i ++ [⟨cB, (blk (there d f) i).ep, (blk (there d f) i).sq, (blk (there d f) i).data⟩])) (n5 : Br.Anew W1 a a5) :
    PR w (w5.setCell ⟨tR, 2, none⟩ (.slice a5 (i + 1) cap5)) rB tR f (i + 1) d (Ks.set K (i + 1) cB) a5 cap5 X := by
  have hg : PR w W1 rB tR f i d K a cap X := h.below hb
  have hc1 := hc.below hb hc.lt
  have hs1 := hb.size
  have hsz := h.be.size
  -- the row's own block alone is written
  have row : ∀ b, (Value.slice a i cap).ownBlock = some b → ∃ p, a = some p ∧ p.block = b := fun b hb => by
    cases a with
    | none => simp [Value.ownBlock] at hb
    | some q => simp [Value.ownBlock] at hb; exact ⟨q, rfl, hb⟩
  have keep : ∀ b, b < W1.heap.size → (∀ p, a = some p → p.block ≠ b) → w5.heap[b]? = W1.heap[b]? := fun b hlt hn => gr.block b hlt (fun e => by obtain ⟨p, hp, hpb⟩ := row b e.symm; exact hn p hp hpb)
  have blk5 : ∀ p, a5 = some p → (∃ q, a = some q ∧ q.block = p.block) ∨ W1.heap.size ≤ p.block := fun p hp => by
    rcases n5 with e | ⟨g, e, hge⟩
    · exact .inl ⟨p, by rw [← e]; exact hp, rfl⟩
    · rw [hp] at e; injection e with e; subst e; exact .inr hge
  have htk : w5.heap[tR]? = W1.heap[tR]? := keep tR hg.lt fun p hp => (hg.al p hp).2.1
  have hset : But [tR] w5 (w5.setCell ⟨tR, 2, none⟩ (.slice a5 (i + 1) cap5)) := (But.refl [tR] w5).set _ (.inl (by simp))
  have hn4 : N4 w5 tR 3 X := hg.n4.of_block htk
  have hp2 : w5.cell? ⟨tR, 2, none⟩ = some (.slice a i cap) := (World.cell?_of_block (w := W1) (a := ⟨tR, 2, none⟩) htk).trans hg.p2
  have hkk : ∀ k, k ≤ i + 1 → Ks.set K (i + 1) cB k = if k = i + 1 then cB else K k := fun k _ => rfl
  refine ⟨?_, h.tl, ?_, ?_, World.cell?_setCell_same _ _ _ hp2, ?_, ?_, ?_, ?_, ?_, ?_⟩
  · exact (hg.be.grown gr hg.be.size (fun b hb => by obtain ⟨p, hp, hpb⟩ := row b hb; rw [← hpb]; exact (hg.al p hp).1)).setCell (p := ⟨tR, 2, none⟩) h.tl _
  · rw [World.cell?_setCell_other _ _ _ _ (by simp), Ks.set_other _ _ (by omega)]
    exact (World.cell?_of_block (w := W1) (a := ⟨tR, 0, none⟩) htk).trans hg.p0
  · rw [World.cell?_setCell_other _ _ _ _ (by simp)]
    exact (World.cell?_of_block (w := W1) (a := ⟨tR, 1, none⟩) htk).trans hg.p1
  · refine ⟨?_, ?_, ?_, ?_, fun o => by rw [World.frozen?_setCell]; exact hn4.fz o⟩
    · rw [World.cell?_setCell_other _ _ _ _ (by simp)]; exact hn4.c0
    · rw [World.cell?_setCell_other _ _ _ _ (by simp)]; exact hn4.c1
    · rw [World.cell?_setCell_other _ _ _ _ (by simp)]; exact hn4.c2
    · rw [World.cell?_setCell_other _ _ _ _ (by simp)]; exact hn4.c3
  · rw [els_on]
    rcases o5 with ⟨q1, q2, q3⟩ | ⟨g, cur, hg5, q1, q2⟩
    · simp at q3
    · refine .inr ⟨g, cur, hg5, ?_, q2⟩
      have hne : g ≠ tR := by
        rcases blk5 _ hg5 with ⟨q, hq, hqb⟩ | hge
        · have := (hg.al q hq).2.1; simp only at hqb; omega
        · have := hg.lt; simp only at hge; omega
      rw [hset.block g (Br.lt_of_heap q1) (by simp; exact hne)]
      exact q1
  · intro p hp
    rcases blk5 p hp with ⟨q, hq, hqb⟩ | hge
    · obtain ⟨g1, g2, g3⟩ := hg.al q hq
      rw [← hqb]
      refine ⟨g1, g2, fun k hk => ?_⟩
      rw [hkk k hk]
      split
      · exact fun e => h3 q hq e.symm
      · exact g3 k (by omega)
    · refine ⟨by omega, by have := hg.lt; omega, fun k hk => ?_⟩
      rw [hkk k hk]
      split
      · have := hc1.lt; omega
      · have := hg.klt (k := k) (by omega); omega
  · intro k hk
    rw [hkk k hk]
    by_cases e : k = i + 1
    · subst e
      rw [if_pos rfl]
      exact ⟨z, hz, (hc1.of_block (keep cB hc1.lt h3)).but hset (by simp; exact h2)⟩
    · rw [if_neg e]
      obtain ⟨z', hz', hc'⟩ := hg.cel k (by omega)
      exact ⟨z', hz', (hc'.of_block (keep (K k) hc'.lt (fun p hp => fun e => (hg.al p hp).2.2 k (by omega) e.symm))).but hset (by simp; exact (hg.kl k (by omega)).2)⟩
  · intro k hk
    rw [hkk k hk]
    split
    · exact ⟨h1, h2⟩
    · exact hg.kl k (by omega)
  · intro j k hj hk hjk
    rw [hkk j hj, hkk k hk]
    split
    · split
      · omega
      · exact fun e => h4 k (by omega) e.symm
    · split
      · exact h4 j (by omega)
      · exact hg.kd j k (by omega) (by omega) hjk
/-- what is made at last -/
theorem PR.done {LB n bl : Nat} (h : PR w wr rB tR f bl d K a cap X) (hX : X = tab (there d f) bl) (hr : RefAt w rB LB n d) (hbl : 1 ≤ bl ∧ bl ≤ 32) (hf : f + 2 * (1 + bl) ≤ n) :
    ∃ bB, a = some ⟨bB, 0, none⟩ ∧ w.heap.size ≤ bB ∧ RT wr rB LB n d tR bB cap bl f K (there d f) := by
  have hrd := h.ow.rd
  have hcap := h.ow.cap
  rw [els_len] at hrd hcap
  have hsz := h.be.size
  have r1 := hr.ltR
  have r2 := hr.lt
  have htl := h.tl
  rcases h.ow with ⟨_, _, e⟩ | ⟨g, cur, rfl, q1, q2, q3, q4, q5⟩
  · have := els_len K (there d f) bl; rw [e] at this; simp at this; omega
  · obtain ⟨g1, g2, g3⟩ := h.al _ rfl
    simp only at g1 g2 g3
    refine ⟨g, rfl, g1, ⟨⟨hr.but (But.of_below h.be) (by simp) (by simp), h.cel, fun k hk => ?_, h.kd, fun k _ => M.found_o _ _, fun k _ => M.found_gen _ _, fun k _ => M.found_text _ _, hbl, hf⟩, ?_, ?_, fun k hk => ⟨(h.kl k hk).2, g3 k hk⟩⟩⟩
    · have := (h.kl k hk).1; omega
    · refine ⟨h.p0, h.p1, h.p2, by rw [← hX]; exact h.n4.c0, by rw [← hX]; exact h.n4.c1, by rw [← hX]; exact h.n4.c2, by rw [← hX]; exact h.n4.c3, fun j hj => ?_, h.n4.fz, fun o => by simp [World.frozen?, q1], fun e => g2 e.symm, hbl, hcap⟩
      obtain ⟨b, off, hb, _, k1, k2, k3, k4⟩ := hrd.at (els_at K (there d f) hj)
      injection hb with hb
      injection hb with e1 e2
      subst e1 e2
      rw [Nat.zero_add] at k1 k2 k3 k4
      exact ⟨k1, k2, k3, k4⟩
    · omega
end
end Go.Proofs.YtofhijnfbilieaaGreat.Bk
namespace Go.Proofs.YtofhijnfbilieaaGreat.Bk
open Go.RowKit
set_option linter.unusedVariables false
set_option linter.unusedSimpArgs false
set_option maxRecDepth 20000

variable {rB LB n : Nat} {d : M.Dv}

theorem rbopen_arg (w : World) (h : RefAt w rB LB n d) (f bl : Int) (hw : -9223372036854775808 ≤ f ∧ f ≤ 9223372036854775807) (hbad : bl < 1 ∨ 32 < bl ∨ f < 0 ∨ (n : Int) - 2 * (1 + bl) < f) :
    Calls Tryz.prog 8 #[.pointer (some ⟨rB, 0, none⟩), .int .i64 f, .int .i64 bl] w fun e w' => e = .returned (.tuple #[.pointer none, .int .i64 1]) ∧ w = w' := by
  have hsec := h.sec
  have hn := h.n512
  have hn' : (n : Int) ≤ 512 := by omega
  have hn0 : 0 ≤ (n : Int) := by omega
  have hc : bl < 1 ∨ (1 ≤ bl ∧ ¬ bl < 1 ∧ 32 < bl) ∨ (1 ≤ bl ∧ ¬ bl < 1 ∧ ¬ 32 < bl ∧ f < 0) ∨ (1 ≤ bl ∧ bl ≤ 32 ∧ ¬ bl < 1 ∧ ¬ 32 < bl ∧ ¬ f < 0 ∧ (n : Int) - 2 - 2 * bl < f) := by omega
  clear h hn hbad
  rcases hc with h1 | ⟨h0, h1, h2⟩ | ⟨h0, h1, h2, h3⟩ | ⟨h0, h00, h1, h2, h3, h4⟩
  all_goals
    go_enter Tryz.func8, Tryz.ntmps8
    go_wp2
    go_ret2
    exact ⟨rfl, rfl⟩

/-- the store's own block, as it is made -/
structure Z7 (w : World) (tR : Nat) (v0 v1 : Value) : Prop where
  c0 : w.cell? ⟨tR, 0, none⟩ = some v0
  c1 : w.cell? ⟨tR, 1, none⟩ = some v1
  c2 : w.cell? ⟨tR, 2, none⟩ = some (.slice none 0 0)
  n4 : N4 w tR 3 T4.zero
theorem Z7.new (w : World) : Z7 (w.alloc (.cells #[.pointer none, .int .i64 0, .slice none 0 0, .int .i64 0, .int .i64 0, .int .i64 0, .int .i64 0] 59)) w.heap.size (.pointer none) (.int .i64 0) where
  c0 := by rw [World.cell?_alloc_mark]; rfl
  c1 := by rw [World.cell?_alloc_mark]; rfl
  c2 := by rw [World.cell?_alloc_mark]; rfl
  n4 := ⟨by rw [World.cell?_alloc_mark]; rfl, by rw [World.cell?_alloc_mark]; rfl, by rw [World.cell?_alloc_mark]; rfl, by rw [World.cell?_alloc_mark]; rfl, fun o => World.frozen?_alloc_at _ _ _ _ rfl⟩
theorem Z7.of_block {w w' : World} {tR : Nat} {v0 v1 : Value} (h : Z7 w tR v0 v1) (hb : w'.heap[tR]? = w.heap[tR]?) : Z7 w' tR v0 v1 where
  c0 := by rw [World.cell?_of_block (w := w) (a := ⟨tR, 0, none⟩) hb]; exact h.c0
  c1 := by rw [World.cell?_of_block (w := w) (a := ⟨tR, 1, none⟩) hb]; exact h.c1
  c2 := by rw [World.cell?_of_block (w := w) (a := ⟨tR, 2, none⟩) hb]; exact h.c2
  n4 := h.n4.of_block hb
theorem Z7.set0 {w : World} {tR : Nat} {v0 v1 : Value} (h : Z7 w tR v0 v1) (v : Value) : Z7 (w.setCell ⟨tR, 0, none⟩ v) tR v v1 where
  c0 := World.cell?_setCell_same _ _ _ h.c0
  c1 := by rw [World.cell?_setCell_other _ _ _ _ (by simp)]; exact h.c1
  c2 := by rw [World.cell?_setCell_other _ _ _ _ (by simp)]; exact h.c2
  n4 := ⟨by rw [World.cell?_setCell_other _ _ _ _ (by simp)]; exact h.n4.c0, by rw [World.cell?_setCell_other _ _ _ _ (by simp)]; exact h.n4.c1, by rw [World.cell?_setCell_other _ _ _ _ (by simp)]; exact h.n4.c2, by rw [World.cell?_setCell_other _ _ _ _ (by simp)]; exact h.n4.c3, fun o => by rw [World.frozen?_setCell]; exact h.n4.fz o⟩
theorem Z7.set1 {w : World} {tR : Nat} {v0 v1 : Value} (h : Z7 w tR v0 v1) (v : Value) : Z7 (w.setCell ⟨tR, 1, none⟩ v) tR v0 v where
  c0 := by rw [World.cell?_setCell_other _ _ _ _ (by simp)]; exact h.c0
  c1 := World.cell?_setCell_same _ _ _ h.c1
  c2 := by rw [World.cell?_setCell_other _ _ _ _ (by simp)]; exact h.c2
  n4 := ⟨by rw [World.cell?_setCell_other _ _ _ _ (by simp)]; exact h.n4.c0, by rw [World.cell?_setCell_other _ _ _ _ (by simp)]; exact h.n4.c1, by rw [World.cell?_setCell_other _ _ _ _ (by simp)]; exact h.n4.c2, by rw [World.cell?_setCell_other _ _ _ _ (by simp)]; exact h.n4.c3, fun o => by rw [World.frozen?_setCell]; exact h.n4.fz o⟩
theorem Z7.pr {w wr : World} {tR kB z f : Nat} (h : Z7 wr tR (.pointer (some ⟨kB, 0, none⟩)) (.int .i64 (token (there d f)))) (hb : Below w.heap.size w wr) (ht : w.heap.size ≤ tR) (hk : w.heap.size ≤ kB ∧ kB ≠ tR) (hz : ZO z (there d f 0).o) (hc : RCell wr kB rB f (f + 1) z (there d f 0)) :
    PR w wr rB tR f 0 d (fun _ => kB) none 0 (tab (there d f) 0) :=
  ⟨hb, ht, h.c0, h.c1, h.c2, h.n4, .inl ⟨rfl, rfl, rfl⟩, (fun p hp => by cases hp), (fun k hk => by
    obtain rfl : k = 0 := by omega
    exact ⟨z, hz, hc⟩), fun k _ => hk, fun j k hj hk hjk => by omega⟩
theorem rd_be {w : World} {b : Nat} {x : Br.Be} {t : TypeId} {fr : Nat × Nat} (h : w.heap[b]? = some (.cells #[.pointer (some ⟨x.k, 0, none⟩), .int .i64 x.ep, .int .i64 x.sq, .string x.data] t fr)) : Br.RdB w (some ⟨b, 0, none⟩) 1 [x] := by
  refine ⟨rfl, .inr ⟨b, 0, rfl, Br.lt_of_heap h, fun j u hu => ?_⟩⟩
  simp only [World.cell?, h, Nat.zero_add]
  match j, hu with
  | 0, hu => simpa [Br.bes] using hu
  | 1, hu => simpa [Br.bes] using hu
  | 2, hu => simpa [Br.bes] using hu
  | 3, hu => simpa [Br.bes] using hu

set_option maxHeartbeats 8000000 in
theorem rbopen_yes (w : World) (h : RefAt w rB LB n d) (hdead : d.dead = false) (f bl : Nat) (hbl : 1 ≤ bl ∧ bl ≤ 32) (hf : f + 2 * (1 + bl) ≤ n) :
    Calls Tryz.prog 8 #[.pointer (some ⟨rB, 0, none⟩), .int .i64 (f : Int), .int .i64 (bl : Int)] w fun e w' => ∃ tR bB cap K, e = .returned (.tuple #[.pointer (some ⟨tR, 0, none⟩), .int .i64 0]) ∧ w.heap.size ≤ tR ∧ w.heap.size ≤ bB ∧ (∀ k, k ≤ bl → w.heap.size ≤ K k) ∧
      RT w' rB LB n d tR bB cap bl f K (there d f) ∧ Below w.heap.size w w' := by
  have hn := h.n512
  have HO : Hid (∀ w' k, Below w.heap.size w w' → k ≤ bl → Calls Tryz.prog 27 #[.pointer (some ⟨rB, 0, none⟩), .int .i64 ((f + 2 * k : Nat) : Int), .int .i64 ((f + 2 * k + 1 : Nat) : Int)] w' fun e w'' => ∃ kB z, e = .returned (.tuple #[.pointer (some ⟨kB, 0, none⟩), .int .i64 0]) ∧ w'.heap.size ≤ kB ∧
      ZO z (there d f k).o ∧ RCell w'' kB rB (f + 2 * k) (f + 2 * k + 1) z (there d f k) ∧ Below w'.heap.size w' w'') := Lib.hid fun w' k hb hk => ropen_yes w' (h.but (But.of_below hb) (by simp) (by simp)) hdead (f + 2 * k) (f + 2 * k + 1) (by omega) (by omega) (by omega)
  have HTx : Hid (∀ k, (there d f k).text.size ≤ 100) := Lib.hid fun k => M.found_text _ _
  have HNt := Lib.hid (fun w' => rnums_tok w' (there d f 0).text (HTx.out 0))
  have HNb := Lib.hid (fun k w' => rnums_blk w' (there d f (k + 1)).text (HTx.out (k + 1)))
  have HR := Lib.hid h
  have Hbl := Lib.hid hbl
  have Hf := Lib.hid hf
  have HZ := Lib.hid (Z7.new w)
  have HO0 := Lib.hid (HO.out (w.alloc (.cells #[.pointer none, .int .i64 0, .slice none 0 0, .int .i64 0, .int .i64 0, .int .i64 0, .int .i64 0] 59)) 0 ((Below.refl _ _).alloc (Nat.le_refl _) _) (by omega))
  rw [show ((f + 2 * 0 : Nat) : Int) = (f : Int) from rfl, show ((f + 2 * 0 + 1 : Nat) : Int) = (f : Int) + 1 by omega] at HO0
  have hsec := h.sec
  have hde := h.dead
  rw [hdead] at hde
  have hn' : (n : Int) ≤ 512 := by omega
  have hn0 : 0 ≤ (n : Int) := by omega
  have hf0 : (0 : Int) ≤ (f : Int) := by omega
  have hf5 : (f : Int) ≤ 512 := by omega
  have h1 : ¬ (bl : Int) < 1 := by omega
  have h2 : ¬ 32 < (bl : Int) := by omega
  have h2' : (bl : Int) ≤ 32 := by omega
  have h2'' : 1 ≤ (bl : Int) := by omega
  have h3 : ¬ (f : Int) < 0 := by omega
  have h4 : ¬ (n : Int) - 2 - 2 * (bl : Int) < (f : Int) := by omega
  obtain ⟨u, hu⟩ : ∃ u, (recOf (there d f 0).text 31 1 0).isSome = u := ⟨_, rfl⟩
  have HU : Hid (u = false → token (there d f) = 0) := Lib.hid fun h0 => by
    rw [h0] at hu
    unfold token tok
    cases hr : recOf (there d f 0).text 31 1 0 with
    | none => rfl
    | some r => rw [hr] at hu; cases hu
  rw [hu] at HNt
  have htk : tok (there d f 0).text = token (there d f) := rfl
  rw [htk] at HNt
  clear h hbl hf hdead hn hu htk
  go_enter Tryz.func8, Tryz.ntmps8
  go_upto_region 7 with (first
    | (go_at_call 27; refine HO0.out.mono ?_; rintro e w2 ⟨kB, z0, rfl, g1, g2, g3, hb2⟩
       have HZ2 := Lib.hid (HZ.out.of_block (hb2.block w.heap.size (by simp)))
       have HB2 : Hid (Below w.heap.size w w2) := Lib.hid (((Below.refl w.heap.size w).alloc (Nat.le_refl _) (.cells #[.pointer none, .int .i64 0, .slice none 0 0, .int .i64 0, .int .i64 0, .int .i64 0, .int .i64 0] 59)).trans (hb2.mono (by simp)))
       have HK2 : Hid (w.heap.size + 1 ≤ kB) := Lib.hid (by simpa using g1)
       have Hz0 := Lib.hid g2
       have HC2 := Lib.hid g3
       have q0 := HZ2.out.c0
       have qf := HZ2.out.n4.fz 0
       clear g1 g2 g3 hb2))
  have HZ3 := Lib.hid (HZ2.out.set0 (.pointer (some ⟨kB, 0, none⟩)))
  have HB3 := Lib.hid (HB2.out.setCell (p := ⟨w.heap.size, 0, none⟩) (Nat.le_refl _) (.pointer (some ⟨kB, 0, none⟩)))
  have HC3 := Lib.hid (HC2.out.but ((But.refl [w.heap.size] w2).set (p := ⟨w.heap.size, 0, none⟩) (.pointer (some ⟨kB, 0, none⟩)) (.inl (by simp))) (by have := HK2.out; simp; omega))
  clear HZ HZ2 HB2 HC2 q0 qf HO0 h1 h2 h3 h4 hsec hde
  generalize w2.setCell ⟨w.heap.size, 0, none⟩ (.pointer (some ⟨kB, 0, none⟩)) = w3 at *
  have q0 := HZ3.out.c0
  have q5 := HC3.out.p5
  go_upto_if 76 with (go_at_call 28; refine (HNt.out w3).mono ?_; rintro e w4 ⟨aN, nN, cN, tN, rfl, hyes, hb4⟩
                      have HB4 := Lib.hid (HB3.out.trans (hb4.mono HB3.out.size))
                      have HZ4 := Lib.hid (HZ3.out.of_block (hb4.block w.heap.size (World.block_lt_of_cell? w3 _ q0)))
                      have HC4 := Lib.hid (HC3.out.below hb4 HC3.out.lt)
                      have HYes := Lib.hid hyes
                      clear hb4 hyes q0 q5)
  clear HZ3 HB3 HC3 HNt
  go_cut [8] (fun p wx => p = .pointer (some ⟨w.heap.size, 0, none⟩) ∧ PR w wx rB w.heap.size f 0 d (fun _ => kB) none 0 (tab (there d f) 0))
  case first =>
    cases u with
    | false =>
      have h0 := HU.out rfl
      go_wp2
      go_meet
      exact ⟨rfl, Z7.pr (by rw [h0]; exact HZ4.out) HB4.out (Nat.le_refl _) ⟨by have := HK2.out; omega, by have := HK2.out; omega⟩ Hz0.out HC4.out⟩
    | true =>
      obtain ⟨bN, rfl, rfl, hc1, hc2, hlt, hcell⟩ := HYes.out rfl
      have q1 := HZ4.out.c1
      have qf := HZ4.out.n4.fz 1
      go_wp2
      go_meet
      exact ⟨rfl, Z7.pr (HZ4.out.set1 _) (HB4.out.setCell (p := ⟨w.heap.size, 1, none⟩) (Nat.le_refl _) _) (Nat.le_refl _) ⟨by have := HK2.out; omega, by have := HK2.out; omega⟩ Hz0.out (HC4.out.but ((But.refl [w.heap.size] w4).set (p := ⟨w.heap.size, 1, none⟩) _ (.inl (by simp))) (by have := HK2.out; simp; omega))⟩
  case rest =>
    obtain ⟨rfl, hpr⟩ := hcut
    have HP0 := Lib.hid hpr
    clear hpr HB4 HZ4 HC4 HYes HU HK2 Hz0
    go_wp2_with fail
    go_loopw [12] (fun i wr => ∃ (k : Nat) (K : Nat → Nat) (a : Option Addr) (cap : Nat), k ≤ bl ∧ i = .int .i64 (k : Int) ∧ PR w wr rB w.heap.size f k d K a cap (tab (there d f) k)) (fun i _ => bl - (intOf i).toNat)
    case atStart => exact ⟨0, _, _, _, by omega, rfl, HP0.out⟩
    case round =>
      obtain ⟨k, K, a, cap, hk, rfl, hp⟩ := hrel
      have HP := Lib.hid hp
      clear hp HP0
      by_cases hkb : k = bl
      · subst hkb
        go_wp2
        go_ret2
        obtain ⟨bB, rfl, g1, g2⟩ := HP.out.done rfl HR.out Hbl.out Hf.out
        exact ⟨w.heap.size, bB, cap, K, rfl, Nat.le_refl _, g1, fun j hj => (HP.out.kl j hj).1, g2, HP.out.be⟩
      · have hlt : (k : Int) < (bl : Int) := by omega
        have i0 : (0 : Int) ≤ (k : Int) := by omega
        have i32 : (k : Int) < 32 := by omega
        have hkl : k + 1 ≤ bl := by omega
        have Hkl := Lib.hid hkl
        have HOk := Lib.hid (HO.out wr (k + 1) HP.out.be hkl)
        rw [show ((f + 2 * (k + 1) : Nat) : Int) = (f : Int) + 2 + 2 * (k : Int) by omega, show ((f + 2 * (k + 1) + 1 : Nat) : Int) = (f : Int) + 3 + 2 * (k : Int) by omega] at HOk
        have HNk := Lib.hid (HNb.out k)
        obtain ⟨u, hu⟩ : ∃ u, okB (there d f (k + 1)).text = u := ⟨_, rfl⟩
        have HU := Lib.hid hu
        rw [hu] at HNk
        have hst : st (there d f (k + 1)).text = blk (there d f) k := rfl
        rw [hst] at HNk
        clear hk hkb hkl hu hst
        have HP9z : Hid (w.heap.size ≤ wr.heap.size) := Lib.hid HP.out.be.size
        have hp0 := HP.out.p0
        go_upto_if 114 with (first
          | (go_at_call 27; refine HOk.out.mono ?_; rintro e w5 ⟨cB, z1, rfl, g1, g2, g3, hb5⟩
             have HP5 := Lib.hid (HP.out.below hb5)
             have HC5 := Lib.hid g3
             have Hz1 := Lib.hid g2
             have HN5 : Hid (wr.heap.size ≤ cB) := Lib.hid g1
             have hal5 := (Below.refl w5.heap.size w5).alloc (Nat.le_refl _) (.cells #[.pointer (some ⟨cB, 0, none⟩), .int .i64 0, .int .i64 0, .string ⟨#[0, 0, 0, 0, 0, 0, 0, 0]⟩] 88)
             have HP6 := Lib.hid (HP5.out.below hal5)
             have HC6 := Lib.hid (HC5.out.below hal5 HC5.out.lt)
             have HX6 := Lib.hid (Bo.new w5 #[.pointer (some ⟨cB, 0, none⟩), .int .i64 0, .int .i64 0, .string ⟨#[0, 0, 0, 0, 0, 0, 0, 0]⟩] 88)
             have q5 := HC6.out.p5
             have HL6 : Hid (cB < w5.heap.size ∧ w.heap.size < w5.heap.size ∧ (∀ p, a = some p → p.block < w5.heap.size) ∧ (∀ j, j ≤ k → K j < w5.heap.size) ∧ w5.heap.size < (w5.alloc (.cells #[.pointer (some ⟨cB, 0, none⟩), .int .i64 0, .int .i64 0, .string ⟨#[0, 0, 0, 0, 0, 0, 0, 0]⟩] 88)).heap.size) := Lib.hid ⟨HC5.out.lt, HP5.out.lt, fun p hp => HP5.out.alt hp, fun j hj => HP5.out.klt hj, by simp⟩
             have HM6 : Hid ((∀ p, a = some p → p.block ≠ cB) ∧ (∀ j, j ≤ k → K j ≠ cB) ∧ cB ≠ w.heap.size) := Lib.hid ⟨fun p hp => by have := HP.out.alt hp; omega, fun j hj => by have := HP.out.klt hj; omega, by have := HP.out.lt; omega⟩
             clear g1 g2 g3 hb5 hal5 HP5 HC5)
          | (go_at_call 28; refine (HNk.out _).mono ?_; rintro e w7 ⟨aN, nN, cN, tN, rfl, hyes, hb7⟩
             have HP7 := Lib.hid (HP6.out.below hb7)
             have HC7 := Lib.hid (HC6.out.below hb7 HC6.out.lt)
             have HX7 := Lib.hid (HX6.out.below hb7 HX6.out.lt)
             have HYes := Lib.hid hyes
             clear hb7 hyes q5))
        clear HP HP6 HC6 HX6 HOk HNk hp0
        generalize w5.heap.size = Bb at *
        go_cut [8] (fun p wx => p = .pointer (some ⟨w.heap.size, 0, none⟩) ∧ PR w wx rB w.heap.size f k d K a cap (tab (there d f) (k + 1)) ∧ RCell wx cB rB (f + 2 * (k + 1)) (f + 2 * (k + 1) + 1) z1 (there d f (k + 1)) ∧
            Bo wx Bb #[.pointer (some ⟨cB, 0, none⟩), .int .i64 (blk (there d f) k).ep, .int .i64 (blk (there d f) k).sq, .string (blk (there d f) k).data] 88)
        case first =>
          cases u with
          | false =>
            have hz : blk (there d f) k = Sd.zero := st_bad HU.out
            have ht : tab (there d f) (k + 1) = tab (there d f) k := by
              show (tab (there d f) k).up (blk (there d f) k).t = _
              rw [hz]
              exact T4.up_zero (tab_ok _ _)
            have Hz := Lib.hid hz
            have Ht := Lib.hid ht
            clear hz ht
            go_wp2
            go_meet
            exact ⟨rfl, by rw [Ht.out]; exact HP7.out, HC7.out, by rw [Hz.out]; exact HX7.out⟩
          | true =>
            obtain ⟨bN, rfl, rfl, hc1, hc2, hge, hltN, hn6, rfl⟩ := HYes.out rfl
            have HN6 := Lib.hid hn6
            have HgN := Lib.hid (And.intro hge hltN)
            have HTu : Hid (upT (mT (blk (there d f) k).t) (tab (there d f) k) 4 = tab (there d f) (k + 1)) := Lib.hid (upT_up _ _)
            have HTo := Lib.hid (upT_on (tab (there d f) k) (blk (there d f) k).t)
            have hm0 : upT (mT (blk (there d f) k).t) (tab (there d f) k) 0 = tab (there d f) k := rfl
            have HT0 := Lib.hid hm0
            have n0 := hn6.c0
            have n1 := hn6.c1
            clear hn6 hge hltN hm0
            generalize tab (there d f) (k + 1) = Y at *
            generalize tab (there d f) k = X at *
            generalize blk (there d f) k = s at *
            go_upto_region 17 with fail
            go_still_tail 8, (by kernel_rfl)
            change wpList _ _ _ _ _ w7.drew
            have hdr := (Below.refl w7.heap.size w7).drew
            have HP8 := Lib.hid (HP7.out.below hdr)
            have HC8 := Lib.hid (HC7.out.below hdr HC7.out.lt)
            have HX8 := Lib.hid (HX7.out.below hdr HX7.out.lt)
            have HN8 : Hid (N6 w7.drew bN s) := Lib.hid (HN6.out.of_block rfl)
            have HgN8 : Hid (Bb < bN ∧ bN < w7.drew.heap.size) := Lib.hid ⟨by have := HgN.out.1; have := HL6.out.2.2.2.2; omega, HgN.out.2⟩
            clear hdr HP7 HC7 HX7 HN6 n0 n1 HgN
            generalize w7.drew = w8 at *
            have x1 := HX8.out.cell 1
            have x2 := HX8.out.cell 2
            have x3 := HX8.out.cell 3
            have xf := HX8.out.fz
            simp only [List.getElem?_toArray, List.getElem?_cons_zero, List.getElem?_cons_succ] at x1 x2 x3
            go_wp2_with fail
            have hbx : But [Bb] w8 (((w8.setCell ⟨Bb, 1, none⟩ (.int .i64 s.ep)).setCell ⟨Bb, 2, none⟩ (.int .i64 s.sq)).setCell ⟨Bb, 3, none⟩ (.string s.data)) := (((But.refl [Bb] w8).set _ (.inl (by simp))).set _ (.inl (by simp))).set _ (.inl (by simp))
            have hl6 := HL6.out
            have HP9 := Lib.hid (HP8.out.other hbx (by omega) (by omega) (fun p hp => by have := hl6.2.2.1 p hp; omega) (fun j hj => by have := hl6.2.2.2.1 j hj; omega))
            have HC9 := Lib.hid (HC8.out.but hbx (by simp; omega))
            have HN9 := Lib.hid (HN8.out.of_block (hbx.block bN HgN8.out.2 (by have := HgN8.out.1; simp; omega)))
            have HX9 : Hid (Bo (((w8.setCell ⟨Bb, 1, none⟩ (.int .i64 s.ep)).setCell ⟨Bb, 2, none⟩ (.int .i64 s.sq)).setCell ⟨Bb, 3, none⟩ (.string s.data)) Bb #[.pointer (some ⟨cB, 0, none⟩), .int .i64 s.ep, .int .i64 s.sq, .string s.data] 88) := Lib.hid (Bo.set (Bo.set (Bo.set HX8.out 1 _) 2 _) 3 _)
            have HgN9 : Hid (Bb < bN ∧ bN < (((w8.setCell ⟨Bb, 1, none⟩ (.int .i64 s.ep)).setCell ⟨Bb, 2, none⟩ (.int .i64 s.sq)).setCell ⟨Bb, 3, none⟩ (.string s.data)).heap.size) := Lib.hid ⟨HgN8.out.1, Nat.lt_of_lt_of_le HgN8.out.2 hbx.size⟩
            clear hbx hl6 x1 x2 x3 xf HP8 HC8 HX8 HN8 HgN8
            generalize ((w8.setCell ⟨Bb, 1, none⟩ (.int .i64 s.ep)).setCell ⟨Bb, 2, none⟩ (.int .i64 s.sq)).setCell ⟨Bb, 3, none⟩ (.string s.data) = w9 at *
            go_loopw [19] (fun q wq => ∃ j : Nat, j ≤ 4 ∧ q = .int .i64 (j : Int) ∧ PR w wq rB w.heap.size f k d K a cap (upT (mT s.t) X j) ∧ But [w.heap.size] w9 wq) (fun q _ => 4 - (intOf q).toNat)
            case atStart => exact ⟨0, by omega, rfl, by rw [HT0.out]; exact HP9.out, But.refl _ _⟩
            case round =>
              obtain ⟨j, hj, rfl, hpj, hbj⟩ := hrel
              have HPj := Lib.hid hpj
              have HBj := Lib.hid hbj
              clear hpj hbj HP9
              by_cases hj4 : j = 4
              · subst hj4
                go_wp2
                go_meet
                have ht := HM6.out.2.2
                have hl6 := HL6.out
                exact ⟨rfl, by rw [← HTu.out]; exact HPj.out, HC9.out.but HBj.out (by simp; exact ht), HX9.out.but HBj.out (by simp; omega)⟩
              · have j0 : (0 : Int) ≤ (j : Int) := by omega
                have j4 : (j : Int) < 4 := by omega
                have jl : j < 4 := by omega
                have Hj := Lib.hid jl
                have Hon := Lib.hid (HTo.out j)
                clear hj hj4
                generalize hZ : upT (mT s.t) X j = Z at *
                have HZ := Lib.hid hZ
                clear hZ
                have hw2 : IntKind.i64.wrap (2 + (j : Int)) = 2 + (j : Int) := IntWalk.i64_in _ (by omega)
                have j6 : 2 + (j : Int) < 6 := by omega
                have jt : (2 + (j : Int)).toNat = 2 + j := by omega
                have j20 : (0 : Int) ≤ 2 + (j : Int) := by omega
                have HNj := Lib.hid (HN9.out.of_block (HBj.out.block bN HgN9.out.2 (by have := HgN9.out.1; have := HL6.out.2.1; simp; omega)))
                have n2 := HNj.out.ct j jl
                have t2 := HPj.out.n4.at jl
                clear jl
                by_cases c1 : Z.at j < s.t.at j
                · have HZn := Lib.hid (Hon.out.trans (if_pos c1))
                  clear Hon
                  go_upto_region 22 with fail
                  go_quiet (fail)
                  have hdq := rdrewN_below wr.heap.size wr nq
                  have HPk := Lib.hid (HPj.out.below hdq)
                  have HBk := Lib.hid (HBj.out.drewN nq)
                  have HNk := Lib.hid (HNj.out.of_block (w' := wr.drewN nq) rfl)
                  clear hdq n2 t2 HPj HBj HNj
                  generalize wr.drewN nq = wk at *
                  have n2 := HNk.out.ct j Hj.out
                  go_upto_region 23 with fail
                  go_still_tail 10, (by kernel_rfl)
                  change wpList _ _ _ _ _ wk.drew
                  have hdr := (Below.refl wk.heap.size wk).drew
                  have HPl := Lib.hid (HPk.out.below hdr)
                  have HBl := Lib.hid HBk.out.drew
                  clear hdr n2 HPk HBk HNk
                  generalize wk.drew = wl at *
                  have t2 := HPl.out.n4.at Hj.out
                  have tf := HPl.out.n4.fz (3 + j)
                  go_wp2
                  go_roundw
                  case rel => exact ⟨j + 1, by have := Hj.out; omega, by go_num, by rw [HZn.out]; exact HPl.out.setT Hj.out _, HBl.out.set _ (.inl (by simp))⟩
                  case measure => have := Hj.out; simp [intOf]; omega
                · have HZn := Lib.hid (Hon.out.trans (if_neg c1))
                  clear Hon
                  go_upto_region 22 with fail
                  go_quiet (fail)
                  have hdq := rdrewN_below wr.heap.size wr nq
                  have HPk := Lib.hid (HPj.out.below hdq)
                  have HBk := Lib.hid (HBj.out.drewN nq)
                  clear hdq n2 t2 HPj HBj HNj
                  generalize wr.drewN nq = wk at *
                  go_wp2
                  go_roundw
                  case rel => exact ⟨j + 1, by have := Hj.out; omega, by go_num, by rw [HZn.out]; exact HPk.out, HBk.out⟩
                  case measure => have := Hj.out; simp [intOf]; omega
        case rest =>
          obtain ⟨rfl, hp, hc, hx⟩ := hcut
          have HPc := Lib.hid hp
          have HCc := Lib.hid hc
          have HXc := Lib.hid hx
          have HNx : Hid (Below w.heap.size w wc) := Lib.hid hp.be
          clear hp hc hx
          obtain ⟨s, hs⟩ : ∃ s, blk (there d f) k = s := ⟨_, rfl⟩
          rw [hs] at HXc
          have Hs := Lib.hid hs
          clear hs
          have q2 := HPc.out.p2
          have x0 := HXc.out.cell 0
          have x1 := HXc.out.cell 1
          have x2 := HXc.out.cell 2
          have x3 := HXc.out.cell 3
          simp only [List.getElem?_toArray, List.getElem?_cons_zero, List.getElem?_cons_succ] at x0 x1 x2 x3
          have q2' : (wc.alloc (.cells #[.pointer (some ⟨cB, 0, none⟩), .int .i64 s.ep, .int .i64 s.sq, .string s.data] 88)).cell? ⟨w.heap.size, 2, none⟩ = some (.slice a k cap) := (((Below.refl wc.heap.size wc).alloc (Nat.le_refl _) _).cell (p := ⟨w.heap.size, 2, none⟩) HPc.out.lt).trans q2
          go_upto_region 24 with fail
          have HL9 := HNx.out.size
          have hq5 : Below wc.heap.size wc (wc.alloc (.cells #[.pointer (some ⟨cB, 0, none⟩), .int .i64 s.ep, .int .i64 s.sq, .string s.data] 88)) := (Below.refl wc.heap.size wc).alloc (Nat.le_refl _) _
          go_region_law
            (first
              | (refine Br.step_append_B _ (by rfl) (.tmp 155) (.tmp 157) (by rfl) a k cap (els K (there d f) k) (by rfl) (els_len _ _ _) (HPc.out.ow.below (B := wc.heap.size) (by repeat (first | with_reducible exact Below.refl _ _ | refine Below.drew ?_ | refine Below.alloc ?_ (by simp) _)) (Nat.le_refl _)) _ 1 1 [⟨cB, s.ep, s.sq, s.data⟩] (by rfl) (rd_be (x := ⟨cB, s.ep, s.sq, s.data⟩) (by first | exact heap_alloc_new wc _ | exact heap_alloc_new wc.drew _)) (by have := Hkl.out; have := Hbl.out; omega) ?_
                 intro a5 cap5 w5' o5 gr5 n5
                 have HO5 := Lib.hid o5
                 have HG5 := Lib.hid gr5
                 have HA5 := Lib.hid n5
                 have q5 : w5'.cell? ⟨w.heap.size, 2, none⟩ = some (.slice a k cap) := by
                   have hb : w5'.heap[w.heap.size]? = (wc.alloc (.cells #[.pointer (some ⟨cB, 0, none⟩), .int .i64 s.ep, .int .i64 s.sq, .string s.data] 88)).heap[w.heap.size]? := gr5.block _ (Nat.lt_of_lt_of_le HPc.out.lt hq5.size) (fun e => by
                     cases a with
                     | none => simp [Value.ownBlock] at e
                     | some q => simp [Value.ownBlock] at e; exact (HPc.out.al q rfl).2.1 e.symm)
                   exact (World.cell?_of_block (w := wc.alloc (.cells #[.pointer (some ⟨cB, 0, none⟩), .int .i64 s.ep, .int .i64 s.sq, .string s.data] 88)) (a := ⟨w.heap.size, 2, none⟩) hb).trans q2'
                 have qf5 : w5'.frozen? ⟨w.heap.size, 2, none⟩ = false := by
                   have hb : w5'.heap[w.heap.size]? = wc.heap[w.heap.size]? := (gr5.block _ (Nat.lt_of_lt_of_le HPc.out.lt hq5.size) (fun e => by
                     cases a with
                     | none => simp [Value.ownBlock] at e
                     | some q => simp [Value.ownBlock] at e; exact (HPc.out.al q rfl).2.1 e.symm)).trans (hq5.block _ HPc.out.lt)
                   rw [World.frozen?_of_block (w := wc) (a := ⟨w.heap.size, 2, none⟩) hb]
                   exact HPc.out.n4.fz 2
                 clear o5 gr5 n5))
          all_goals
            go_wp2
            go_roundw
            case rel => exact ⟨k + 1, Ks.set K (k + 1) cB, a5, cap5, Hkl.out, by go_num, HPc.out.push Hz1.out HCc.out (by have := HN5.out; have := HP9z.out; omega) HM6.out.2.2 HM6.out.1 HM6.out.2.1 hq5.drew HG5.out (by rw [Hs.out]; exact HO5.out) HA5.out⟩
            case measure => simp [intOf]; omega
end Go.Proofs.YtofhijnfbilieaaGreat.Bk
