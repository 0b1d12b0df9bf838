/-
  Acts that came in: is one too large to be looked at? An act in a box, loaded and stored whole.
-/
import Derived.Test.YtofhijnfbilieaaGreatBkOpen
import Derived.Test.YtofhijnfbilieaaGreatJBD
import Derived.BigRegion
import Derived.Deep.MidRow
namespace Go.Proofs.YtofhijnfbilieaaGreat.Bk
open Go.RowKit Go.Maps
open Ml (Mg may msgV)
set_option linter.unusedVariables false
set_option linter.unusedSimpArgs false
set_option maxRecDepth 20000

def Lrg (x : Ac) : Prop := 1000 < x.s.size ∨ 600 < x.nL ∨ 1000 < x.m.data.size ∨ 1000 < x.m.row.size
instance (x : Ac) : Decidable (Lrg x) := by unfold Lrg; infer_instance
set_option maxHeartbeats 4000000 in
theorem large_any (w : World) (x : Ac) : Calls Tryz.prog 9 #[actV x] w fun r w' => r = .returned (.bool (decide (Lrg x))) ∧ Below w.heap.size w w' := by
  obtain ⟨kind, n, ⟨mk, mep, msq, mn, mb, mc, me, m0, m1, m2, m3, data, row⟩, s, aL, nL, cL, l⟩ := x
  have HB := Lib.hid ((Below.refl w.heap.size w).alloc (Nat.le_refl _) (.cells #[.int .i64 kind, .int .i64 n, .int .i64 mk, .int .i64 mep, .int .i64 msq, .int .i64 mn, .int .i64 mb, .int .i64 mc, .int .i64 me, .int .i64 m0, .int .i64 m1, .int .i64 m2, .int .i64 m3, .string data, .string row, .string s, .slice aL nL cL] 40))
  unfold actV
  simp only
  by_cases h1 : 1000 < s.size
  · have e1 : decide (Lrg ⟨kind, n, ⟨mk, mep, msq, mn, mb, mc, me, m0, m1, m2, m3, data, row⟩, s, aL, nL, cL, l⟩) = true := decide_eq_true (by unfold Lrg; simp only; omega)
    rw [e1]
    have i1 : (1000 : Int) < (s.size : Int) := by omega
    clear e1
    go_enter Tryz.func9, Tryz.ntmps9
    go_wp2_with fail
    go_ret
    exact ⟨rfl, HB.out⟩
  have i1 : ¬ (1000 : Int) < (s.size : Int) := by omega
  by_cases h2 : 600 < nL
  · have e1 : decide (Lrg ⟨kind, n, ⟨mk, mep, msq, mn, mb, mc, me, m0, m1, m2, m3, data, row⟩, s, aL, nL, cL, l⟩) = true := decide_eq_true (by unfold Lrg; simp only; omega)
    rw [e1]
    have i2 : (600 : Int) < (nL : Int) := by omega
    clear e1
    go_enter Tryz.func9, Tryz.ntmps9
    go_wp2_with fail
    go_ret
    exact ⟨rfl, HB.out⟩
  have i2 : ¬ (600 : Int) < (nL : Int) := by omega
  by_cases h3 : 1000 < data.size
  · have e1 : decide (Lrg ⟨kind, n, ⟨mk, mep, msq, mn, mb, mc, me, m0, m1, m2, m3, data, row⟩, s, aL, nL, cL, l⟩) = true := decide_eq_true (by unfold Lrg; simp only; omega)
    rw [e1]
    have i3 : (1000 : Int) < (data.size : Int) := by omega
    clear e1
    go_enter Tryz.func9, Tryz.ntmps9
    go_wp2_with fail
    go_ret
    exact ⟨rfl, HB.out⟩
  have i3 : ¬ (1000 : Int) < (data.size : Int) := by omega
  by_cases h4 : 1000 < row.size
  · have e1 : decide (Lrg ⟨kind, n, ⟨mk, mep, msq, mn, mb, mc, me, m0, m1, m2, m3, data, row⟩, s, aL, nL, cL, l⟩) = true := decide_eq_true (by unfold Lrg; simp only; omega)
    rw [e1]
    have i4 : (1000 : Int) < (row.size : Int) := by omega
    clear e1
    go_enter Tryz.func9, Tryz.ntmps9
    go_wp2_with fail
    go_ret
    exact ⟨rfl, HB.out⟩
  have i4 : ¬ (1000 : Int) < (row.size : Int) := by omega
  have e1 : decide (Lrg ⟨kind, n, ⟨mk, mep, msq, mn, mb, mc, me, m0, m1, m2, m3, data, row⟩, s, aL, nL, cL, l⟩) = false := decide_eq_false (by unfold Lrg; simp only; omega)
  rw [e1]
  clear e1
  go_enter Tryz.func9, Tryz.ntmps9
  go_wp2_with fail
  go_ret
  exact ⟨rfl, HB.out⟩

/-- an act in a row that came in -/
theorem acts_at {w w' : World} {a : Option Addr} {n c : Nat} {l : List Ac} (h : Acts w a n c l) (hb : Below w.heap.size w w') {k : Nat} (hk : k < n) :
    ∃ b off x, a = some ⟨b, off, none⟩ ∧ l[k]? = some x ∧ x.Ok w' ∧ b < w.heap.size ∧ ∀ i v, x.cells[i]? = some v → w'.cell? ⟨b, off + (k * 17 + i), none⟩ = some v := by
  obtain ⟨h1, h2, h3, h4, h5⟩ := h
  have hkl : k < l.length := by omega
  obtain ⟨x, hx⟩ : ∃ x, l[k]? = some x := ⟨_, List.getElem?_eq_getElem hkl⟩
  have hm : x ∈ l := List.mem_of_getElem? hx
  rcases h5 with rfl | ⟨b, off, rfl, hbl, hc⟩
  · simp at hm
  · refine ⟨b, off, x, rfl, hx, ⟨krow_but (h4 x hm).1 (But.of_below hb) (.inr (by simp)), (h4 x hm).2⟩, hbl, fun i v hv => ?_⟩
    rw [hb.cell (p := ⟨b, off + (k * 17 + i), none⟩) hbl]
    exact hc k x hx i v hv
theorem act17 {w : World} {b off k : Nat} {x : Ac} (h : ∀ i v, x.cells[i]? = some v → w.cell? ⟨b, off + (k * 17 + i), none⟩ = some v) :
    w.cell? ⟨b, off + k * 17, none⟩ = some (.int .i64 x.kind) ∧ w.cell? ⟨b, off + k * 17 + 1, none⟩ = some (.int .i64 x.n) ∧ w.cell? ⟨b, off + k * 17 + 2, none⟩ = some (.int .i64 x.m.kind) ∧ w.cell? ⟨b, off + k * 17 + 3, none⟩ = some (.int .i64 x.m.epoch) ∧ w.cell? ⟨b, off + k * 17 + 4, none⟩ = some (.int .i64 x.m.seq) ∧ w.cell? ⟨b, off + k * 17 + 5, none⟩ = some (.int .i64 x.m.n) ∧ w.cell? ⟨b, off + k * 17 + 6, none⟩ = some (.int .i64 x.m.block) ∧ w.cell? ⟨b, off + k * 17 + 7, none⟩ = some (.int .i64 x.m.client) ∧ w.cell? ⟨b, off + k * 17 + 8, none⟩ = some (.int .i64 x.m.e) ∧ w.cell? ⟨b, off + k * 17 + 9, none⟩ = some (.int .i64 x.m.t0) ∧ w.cell? ⟨b, off + k * 17 + 10, none⟩ = some (.int .i64 x.m.t1) ∧ w.cell? ⟨b, off + k * 17 + 11, none⟩ = some (.int .i64 x.m.t2) ∧ w.cell? ⟨b, off + k * 17 + 12, none⟩ = some (.int .i64 x.m.t3) ∧ w.cell? ⟨b, off + k * 17 + 13, none⟩ = some (.string x.m.data) ∧ w.cell? ⟨b, off + k * 17 + 14, none⟩ = some (.string x.m.row) ∧ w.cell? ⟨b, off + k * 17 + 15, none⟩ = some (.string x.s) ∧ w.cell? ⟨b, off + k * 17 + 16, none⟩ = some (.slice x.aL x.nL x.cL) :=
  ⟨h 0 _ rfl, h 1 _ rfl, h 2 _ rfl, h 3 _ rfl, h 4 _ rfl, h 5 _ rfl, h 6 _ rfl, h 7 _ rfl, h 8 _ rfl, h 9 _ rfl, h 10 _ rfl, h 11 _ rfl, h 12 _ rfl, h 13 _ rfl, h 14 _ rfl, h 15 _ rfl, h 16 _ rfl⟩
theorem Ac.Ok.below {w w' : World} {x : Ac} (h : x.Ok w) (hb : Below w.heap.size w w') : x.Ok w' := ⟨krow_but h.1 (But.of_below hb) (.inr (by simp)), h.2⟩

def az : Ac := ⟨0, 0, ⟨0, 0, 0, 0, 0, 0, 0, 0, 0, 0, 0, ⟨#[]⟩, ⟨#[]⟩⟩, ⟨#[]⟩, none, 0, 0, []⟩
theorem act_info : (Tryz.prog.info? 40).map (fun i => (i.zero, i.size)) = some (some (.agg #[.int .i64 0, .int .i64 0, .int .i64 0, .int .i64 0, .int .i64 0, .int .i64 0, .int .i64 0, .int .i64 0, .int .i64 0, .int .i64 0, .int .i64 0, .int .i64 0, .int .i64 0, .string ⟨#[]⟩, .string ⟨#[]⟩, .string ⟨#[]⟩, .slice none 0 0]), 17) := by kernel_rfl
theorem act_size : (Tryz.prog.info? 40).map (·.size) = some 17 := by kernel_rfl
theorem Ac.len (x : Ac) : x.cells.length = 17 := rfl
theorem actV_cells (x : Ac) : actV x = .agg x.cells.toArray := rfl
theorem Ac.one (x : Ac) : ∀ v ∈ x.cells, v.oneCell' = true := by
  intro v hv
  simp only [Ac.cells, List.mem_cons, List.not_mem_nil, or_false] at hv
  rcases hv with rfl | rfl | rfl | rfl | rfl | rfl | rfl | rfl | rfl | rfl | rfl | rfl | rfl | rfl | rfl | rfl | rfl <;> rfl
/-- an act in a box -/
def XA (w : World) (G : Nat) (x : Ac) : Prop := w.heap[G]? = some (.cells x.cells.toArray 40)
theorem XA.lt {w : World} {G : Nat} {x : Ac} (h : XA w G x) : G < w.heap.size := Ml.lt_of_heap h
theorem XA.cell {w : World} {G : Nat} {x : Ac} (h : XA w G x) (i : Nat) : w.cell? ⟨G, i, none⟩ = x.cells[i]? := by unfold XA at h; simp [World.cell?, h]
theorem XA.below {w w' : World} {G : Nat} {x : Ac} (h : XA w G x) {B : Nat} (hb : Below B w w') (hB : G < B) : XA w' G x := by unfold XA; rw [hb.block _ hB]; exact h
theorem XA.but {w w' : World} {G : Nat} {x : Ac} (h : XA w G x) {l : List Nat} (hb : But l w w') (hn : G ∉ l) : XA w' G x := by unfold XA; rw [hb.block _ h.lt hn]; exact h
theorem XA.there {w : World} {G : Nat} {x : Ac} (h : XA w G x) : w.there G 0 17 := fun j hj => by
  rw [Nat.zero_add]
  refine ⟨?_, ?_⟩
  · rw [h.cell]
    have : j < x.cells.length := by rw [x.len]; exact hj
    rw [List.getElem?_eq_getElem this]; rfl
  · unfold XA at h
    simp [World.frozen?, h]
theorem objA_setCells {b : Nat} {e : TypeId} {fr : Nat × Nat} : ∀ (vs : List Value) (o : Nat) (w : World) (cur : Array Value), w.heap[b]? = some (.cells cur e fr) → o + vs.length ≤ cur.size →
    ∃ cur', (w.setCells b o vs).heap[b]? = some (.cells cur' e fr) ∧ cur'.size = cur.size ∧ cur'.toList = cur.toList.take o ++ vs ++ cur.toList.drop (o + vs.length)
  | [], o, w, cur, h, hs => ⟨cur, h, rfl, by simp⟩
  | v :: r, o, w, cur, h, hs => by
    have h1 : (w.setCell ⟨b, o, none⟩ v).heap[b]? = some (.cells (cur.setIfInBounds o v) e fr) := by
      simp only [World.setCell, Array.getElem?_modify, if_pos]
      simp [h]
    simp only [List.length_cons] at hs
    obtain ⟨cur', g1, g2, g3⟩ := objA_setCells r (o + 1) _ _ h1 (by simp; omega)
    refine ⟨cur', by rw [World.setCells]; exact g1, by rw [g2]; simp, ?_⟩
    rw [g3, Array.toList_setIfInBounds]
    have hlt : o < cur.toList.length := by simp; omega
    have ht : (cur.toList.set o v).take (o + 1) = cur.toList.take o ++ [v] := by
      rw [List.take_set, List.take_succ_eq_append_getElem hlt, List.set_append_right _ _ (by simp; omega)]
      have h0 : o - min o cur.size = 0 := by simp at hlt; omega
      simp [h0]
    rw [ht, List.drop_set_of_lt (by omega)]
    simp [Nat.add_assoc, Nat.add_comm 1]
theorem belowA_setCells {B b : Nat} (hB : B ≤ b) : ∀ (vs : List Value) (o : Nat) {w0 w : World}, Below B w0 w → Below B w0 (w.setCells b o vs)
  | [], o, w0, w, h => h
  | v :: r, o, w0, w, h => by rw [World.setCells]; exact belowA_setCells hB r _ (h.setCell hB v)
theorem XA.new (w : World) (x : Ac) : XA (w.alloc (.cells x.cells.toArray 40)) w.heap.size x := heap_alloc_new w _
theorem XA.store {w : World} {G : Nat} {y : Ac} (h : XA w G y) (x : Ac) : XA (w.setCells G 0 x.cells) G x := by
  obtain ⟨cur', h1, h2, h3⟩ := objA_setCells x.cells 0 w _ h (by rw [x.len]; simp [y.len])
  have e : cur' = x.cells.toArray := by
    apply Array.ext'
    rw [h3]
    simp [x.len, y.len]
  rw [e] at h1
  exact h1
section
variable {ops : Array Oper} {rest : List Oper} {o : Oper} {a : Act} {w : World} {Q : Exit → Act → World → Prop}
theorem newVarA (w : World) (x : Ac) : (newVar 40 (actV x)).run Tryz.prog w = .ok ⟨w.heap.size, 0, none⟩ (w.alloc (.cells x.cells.toArray 40)) := by
  rw [actV_cells]
  simp only [newVar, newRow, Value.cells, Sem.run_bind, run_newObj_alloc, Sem.run_pure, Result.andThen_ok]
theorem zeroA (w : World) : (zeroValue 40).run Tryz.prog w = .ok (actV az) w := by
  have h := act_info
  cases hq : Tryz.prog.info? 40 with
  | none => rw [hq] at h; simp at h
  | some i =>
    rw [hq] at h
    simp at h
    simp [zeroValue, typeInfo, hq, h.1]
    rfl
theorem wpList_allocA (hg : o.guard = none) (ho : o.op = .alloc 40)
    (h : ∀ w', w' = w.alloc (.cells az.cells.toArray 40) → wpList Tryz.prog ops Q rest (a.put o.dst (.pointer (some ⟨w.heap.size, 0, none⟩))) w') : wpList Tryz.prog ops Q (o :: rest) a w := by
  refine wpList_plain hg fun K hK => ?_
  unfold Oper.wp
  simp only [execOp, ho, Instr.alloc, Sem.run_bind, zeroA, Result.andThen_ok, newVarA, Sem.run_pure, Result.andThen]
  exact hK _ _ (h _ rfl)
theorem wpList_loadA (hg : o.guard = none) (x : Operand) (ho : o.op = .load 40 x) (b off : Nat) (hx : a.eval x = .pointer (some ⟨b, off, none⟩)) (y : Ac) (hc : w.rangeAt b off y.cells)
    (h : wpList Tryz.prog ops Q rest (a.put o.dst (actV y)) w) : wpList Tryz.prog ops Q (o :: rest) a w :=
  wpList_load_mid hg 40 x ho b off hx y.cells _ hc Tryz.underlying40 rfl (by rw [act_size, y.len]) h
theorem wpList_storeA (hg : o.guard = none) (x y : Operand) (ho : o.op = .store 40 x y) (b : Nat) (hx : a.eval x = .pointer (some ⟨b, 0, none⟩)) (z : Ac) (hy : a.eval y = actV z) (ht : w.there b 0 17)
    (h : ∀ w', w' = w.setCells b 0 z.cells → wpList Tryz.prog ops Q rest (a.put o.dst undef) w') : wpList Tryz.prog ops Q (o :: rest) a w := by
  have h1 : z.cells.toArray.size = 17 := rfl
  exact wpList_store_mid hg 40 x y ho b 0 z.cells.toArray hx (hy.trans (actV_cells z)) ht (by rw [act_size]; rfl) (all_oneCell_toArray z.one) (h _ rfl)
end
theorem XA.range {w : World} {G : Nat} {x : Ac} (h : XA w G x) : w.rangeAt G 0 x.cells := fun j v hv => by rw [Nat.zero_add, h.cell]; exact hv
end Go.Proofs.YtofhijnfbilieaaGreat.Bk
