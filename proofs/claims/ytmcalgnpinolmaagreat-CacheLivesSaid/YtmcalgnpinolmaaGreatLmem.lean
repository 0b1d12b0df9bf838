/-
  A log in memory: its eight cells, its row of records; what its small methods tell.
-/
import Derived.Test.YtmcalgnpinolmaaGreatCel7
import Derived.Test.YtmcalgnpinolmaaGreatLmath
import Derived.Deep.RegionLaw
import Derived.Shelf.RegionOpenPlain
namespace Go.Proofs.YtmcalgnpinolmaaGreat
open Go.RowKit
set_option linter.unusedVariables false
set_option linter.unusedSimpArgs false
set_option maxRecDepth 20000

variable {dB sB mB n : Nat} {d : M.Dv}

/-! a row of records -/
def recs : List M.Rl → List Value
  | [] => []
  | r :: l => .int .i64 r.time :: .string r.s :: recs l

theorem recs_length : ∀ l : List M.Rl, (recs l).length = l.length * 2
  | [] => rfl
  | r :: l => by simp only [recs, List.length_cons, recs_length l]; omega
theorem recs_append : ∀ l m : List M.Rl, recs (l ++ m) = recs l ++ recs m
  | [], m => rfl
  | r :: l, m => by simp only [recs, List.cons_append, recs_append l m]
theorem recs_get : ∀ {l : List M.Rl} {i : Nat} {r : M.Rl}, l[i]? = some r → (recs l)[i * 2]? = some (.int .i64 r.time) ∧ (recs l)[i * 2 + 1]? = some (.string r.s)
  | [], i, r, h => by simp at h
  | q :: l, 0, r, h => by simp at h; subst h; exact ⟨rfl, rfl⟩
  | q :: l, i + 1, r, h => by
    have := recs_get (l := l) (i := i) (r := r) (by simpa using h)
    rw [show (i + 1) * 2 = i * 2 + 1 + 1 by omega]
    simpa [recs] using this
theorem recs_drop : ∀ (l : List M.Rl) (k : Nat), (recs l).drop (k * 2) = recs (l.drop k)
  | l, 0 => by simp
  | [], k + 1 => by simp [recs]
  | r :: l, k + 1 => by
    rw [show (k + 1) * 2 = k * 2 + 1 + 1 by omega]
    simpa [recs] using recs_drop l k
theorem recs_one : ∀ l : List M.Rl, ∀ u ∈ recs l, u.oneCell' = true
  | [], u, h => by simp [recs] at h
  | r :: l, u, h => by
    simp only [recs, List.mem_cons] at h
    rcases h with rfl | rfl | h
    · rfl
    · rfl
    · exact recs_one l u h

theorem rec_info : (Tryz.prog.info? 139).map (fun i => (i.zero, i.size, i.bytes)) = some (some (.agg #[.int .i64 0, .string ⟨#[]⟩]), 2, 24) := by kernel_rfl

/-- an own row of records -/
def OwnR (w : World) (a : Option Addr) (cap : Nat) (l : List M.Rl) : Prop := w.ownsRow 0 139 2 (.slice a l.length cap) l.length (recs l) ∧ l.length ≤ 1000
/-- the block of the row, if it has one -/
def blk (lB : Nat) : Option Addr → Nat
  | some p => p.block
  | none => lB

theorem OwnR.nil (w : World) : OwnR w none 0 [] := ⟨World.ownsRow_nil _ _ _ _, by simp⟩
theorem OwnR.ways {w : World} {a : Option Addr} {cap : Nat} {l : List M.Rl} (h : OwnR w a cap l) : (a = none ∧ cap = 0 ∧ l = []) ∨
    ∃ g cur, a = some ⟨g, 0, none⟩ ∧ w.heap[g]? = some (.cells cur 139 (0, 0)) ∧ l.length ≤ cap ∧ cap ≤ maxLen ∧ cur.size = cap * 2 ∧ cur.toList.take (l.length * 2) = recs l := by
  rcases h.1.2 with ⟨hv, h0⟩ | ⟨g, c, cur, hv, hB, hh, hn, hm, hs, ht⟩
  · injection hv with e1 e2 e3
    exact .inl ⟨e1, e3, List.eq_nil_of_length_eq_zero h0⟩
  · injection hv with e1 e2 e3
    subst e1 e3
    exact .inr ⟨g, cur, rfl, hh, hn, hm, hs, ht⟩
theorem OwnR.mk' {w : World} {g cap : Nat} {cur : Array Value} {l : List M.Rl} (h1 : w.heap[g]? = some (.cells cur 139 (0, 0))) (h2 : l.length ≤ cap) (h3 : cap ≤ maxLen) (h4 : cur.size = cap * 2) (h5 : cur.toList.take (l.length * 2) = recs l) (h6 : l.length ≤ 1000) :
    OwnR w (some ⟨g, 0, none⟩) cap l := ⟨⟨recs_length l, .inr ⟨g, cap, cur, rfl, Nat.zero_le _, h1, h2, h3, h4, h5⟩⟩, h6⟩
theorem OwnR.of_block {w w' : World} {a : Option Addr} {cap : Nat} {l : List M.Rl} (h : OwnR w a cap l) {lB : Nat} (hb : w'.heap[blk lB a]? = w.heap[blk lB a]?) : OwnR w' a cap l := by
  rcases h.ways with ⟨rfl, rfl, rfl⟩ | ⟨g, cur, rfl, h1, h2, h3, h4, h5⟩
  · exact OwnR.nil w'
  · exact OwnR.mk' (by simp only [blk] at hb; rw [hb]; exact h1) h2 h3 h4 h5 h.2
theorem lt_of_heap {w : World} {g : Nat} {o : Obj} (h : w.heap[g]? = some o) : g < w.heap.size := (Array.getElem?_eq_some_iff.1 h).1
theorem OwnR.lt {w : World} {a : Option Addr} {cap : Nat} {l : List M.Rl} (h : OwnR w a cap l) {lB : Nat} (hl : lB < w.heap.size) : blk lB a < w.heap.size := by
  rcases h.ways with ⟨rfl, rfl, rfl⟩ | ⟨g, cur, rfl, h1, h2, h3, h4, h5⟩
  · exact hl
  · exact lt_of_heap h1
theorem OwnR.cell {w : World} {a : Option Addr} {cap : Nat} {l : List M.Rl} (h : OwnR w a cap l) {i : Nat} {r : M.Rl} (hr : l[i]? = some r) :
    ∃ g, a = some ⟨g, 0, none⟩ ∧ g < w.heap.size ∧ w.cell? ⟨g, 0 + i * 2, none⟩ = some (.int .i64 r.time) ∧ w.cell? ⟨g, 0 + i * 2 + 1, none⟩ = some (.string r.s) := by
  have hi : i < l.length := (List.getElem?_eq_some_iff.1 hr).1
  rcases h.ways with ⟨rfl, rfl, rfl⟩ | ⟨g, cur, rfl, h1, h2, h3, h4, h5⟩
  · simp at hi
  · obtain ⟨k1, k2⟩ := recs_get hr
    rw [← h5, List.getElem?_take, if_pos (by omega), Array.getElem?_toList] at k1 k2
    refine ⟨g, rfl, lt_of_heap h1, ?_, ?_⟩
    · rw [Nat.zero_add]; simp only [World.cell?, h1]; simpa using k1
    · rw [Nat.zero_add]; simp only [World.cell?, h1]; simpa using k2
theorem OwnR.drew {w : World} {a : Option Addr} {cap : Nat} {l : List M.Rl} (h : OwnR w a cap l) (q : Nat) : OwnR (w.drewN q) a cap l := h

theorem lay_take {α : Type} (l : List α) (o : Nat) (v : α) (ho : o < l.length) : (l.set o v).take (o + 1) = l.take o ++ [v] := by
  rw [List.take_succ_eq_append_getElem (by simpa using ho), List.getElem_set_self, List.take_set_of_le (Nat.le_refl _)]
theorem lay_drop {α : Type} (l : List α) (o k : Nat) (v : α) (h : o < k) : (l.set o v).drop k = l.drop k := List.drop_set_of_lt h

/-- behind cells that are laid into a block -/
theorem obj_setCells {b : Nat} {e : TypeId} {fr : Nat × Nat} : ∀ (vs : List Value) (o : Nat) (w : World) (cur : Array Value), w.heap[b]? = some (.cells cur e fr) → o + vs.length ≤ cur.size →
    ∃ cur', (w.setCells b o vs).heap[b]? = some (.cells cur' e fr) ∧ cur'.size = cur.size ∧ cur'.toList = cur.toList.take o ++ vs ++ cur.toList.drop (o + vs.length)
  | [], o, w, cur, h, hs => ⟨cur, h, rfl, by simp⟩
  | v :: r, o, w, cur, h, hs => by
    have h1 : (w.setCell ⟨b, o, none⟩ v).heap[b]? = some (.cells (cur.setIfInBounds o v) e fr) := by
      simp only [World.setCell, Array.getElem?_modify, if_pos]
      simp [h]
    simp only [List.length_cons] at hs
    obtain ⟨cur', g1, g2, g3⟩ := obj_setCells r (o + 1) _ _ h1 (by simp; omega)
    refine ⟨cur', by rw [World.setCells]; exact g1, by rw [g2]; simp, ?_⟩
    rw [g3, Array.toList_setIfInBounds]
    simp only [List.length_cons]
    have ho : o < cur.toList.length := by rw [Array.length_toList]; omega
    rw [lay_take _ _ _ ho, lay_drop _ _ _ _ (show o < o + 1 + r.length by omega)]
    simp [show o + 1 + r.length = o + (r.length + 1) by omega]

theorem take_two {α : Type} (l m x : List α) (k : Nat) (hk : m.length = k) : (m ++ x).take k = m := by rw [← hk]; exact List.take_left

theorem step_append_rec (w : World) {ops : Array Oper} {o : Oper} {act : Act} {K : Act → World → Prop} {Q : Exit → Act → World → Prop} {E : Prop} (hgd : o.guard = none) (s x : Operand)
    (ho : o.op = .call { callee := .builtin .append, args := #[s, x], argTypes := #[129, 129] })
    (a : Option Addr) (k cap : Nat) (l : List M.Rl) (hs : act.eval s = .slice a k cap) (hk : l.length = k) (hown : OwnR w a cap l)
    (b c : Nat) (r : M.Rl) (hx : act.eval x = .slice (some ⟨b, 0, none⟩) 1 c) (h0 : w.cell? ⟨b, 0, none⟩ = some (.int .i64 r.time)) (h1 : w.cell? ⟨b, 1, none⟩ = some (.string r.s)) (hsum : k + 1 ≤ 1000)
    (h : ∀ a' cap' w', OwnR w' a' cap' (l ++ [r]) → w.grownBy w' (Value.slice a k cap).ownBlock → (∀ lB, blk lB a' = blk lB a ∨ blk lB a' = w.heap.size) → K (act.put o.dst (.slice a' (k + 1) cap')) w') :
    if Region.wanted o (yielded ops act.tmps) = true then Oper.wp Tryz.prog o act w K Q else E := by
  have hw : Region.wanted o (yielded ops act.tmps) = true := by simp [Region.wanted, hgd]
  rw [if_pos hw]
  subst hk
  obtain ⟨i0, hi0, hz0, hz1, hz2⟩ := info_parts rec_info
  obtain ⟨v', w', hrun, h5, h6, _, h7⟩ := run_append_own_at (P := Tryz.prog) w 0 129 o.type 139 i0 _ 2 24 Tryz.underlying129 hi0 hz0 hz1 hz2 rfl (by omega) _ l.length (recs l) hown.1 ⟨b, 0, none⟩ 1 c [.int .i64 r.time, .string r.s]
    rfl (fun j u hu => by
      match j, hu with
      | 0, hu => simp at hu; subst hu; simpa [Addr.add] using h0
      | 1, hu => simp at hu; subst hu; simpa [Addr.add] using h1) (by simp [Value.oneCell']) (by simp only [maxLen]; omega) (by omega) (Nat.zero_le _)
  obtain ⟨a', cap', rfl⟩ : ∃ a' cap', v' = .slice a' (l.length + 1) cap' := by
    rcases h5.2 with ⟨rfl, h0⟩ | ⟨g, c', cur, rfl, _⟩
    · omega
    · exact ⟨_, _, rfl⟩
  have hl : (l ++ [r]).length = l.length + 1 := by simp
  unfold Oper.wp execOp
  simp only [ho, resolve, invoke, builtin, Sem.run_bind, Sem.run_pure, Result.andThen_ok, List.map_toArray, List.map_cons, List.map_nil, hs, hx, hrun]
  refine h a' cap' w' ⟨by rw [hl, recs_append]; exact h5, by rw [hl]; exact hsum⟩ h6 fun lB => ?_
  rcases h7 with h7 | h7
  · left
    cases a' with
    | none => cases a with
      | none => rfl
      | some p => simp [Value.ownBlock] at h7
    | some q => cases a with
      | none => simp [Value.ownBlock] at h7
      | some p => simpa [Value.ownBlock, blk] using h7
  · right
    cases a' with
    | none => simp [Value.ownBlock] at h7
    | some q => simpa [Value.ownBlock, blk] using h7
end Go.Proofs.YtmcalgnpinolmaaGreat
