/-
  Acts in a row and in a box: they are loaded and stored whole.
-/
import Derived.Test.YtofhijnfbilieaaBkFen2
import Derived.Deep.MidRow
namespace Go.Proofs.Ytofhijnfbilieaa.Bk
open Go.RowKit
open Ml (Mg may msgV)
set_option linter.unusedVariables false
set_option linter.unusedSimpArgs false
set_option maxRecDepth 20000

def az : Ac := ⟨0, 0, ⟨0, 0, 0, 0, 0, 0, 0, 0, 0, 0, 0, ⟨#[]⟩, ⟨#[]⟩⟩, ⟨#[]⟩, none, 0, 0, []⟩
theorem act_info : (Try.prog.info? 34).map (fun i => (i.zero, i.size)) = some (some (.agg #[.int .i64 0, .int .i64 0, .int .i64 0, .int .i64 0, .int .i64 0, .int .i64 0, .int .i64 0, .int .i64 0, .int .i64 0, .int .i64 0, .int .i64 0, .int .i64 0, .int .i64 0, .string ⟨#[]⟩, .string ⟨#[]⟩, .string ⟨#[]⟩, .slice none 0 0]), 17) := by kernel_rfl
theorem act_size : (Try.prog.info? 34).map (·.size) = some 17 := by kernel_rfl
theorem Ac.len (x : Ac) : x.cells.length = 17 := rfl
theorem actV_cells (x : Ac) : actV x = .agg x.cells.toArray := rfl
theorem Ac.one (x : Ac) : ∀ v ∈ x.cells, v.oneCell' = true := by
  intro v hv
  simp only [Ac.cells, List.mem_cons, List.not_mem_nil, or_false] at hv
  rcases hv with rfl | rfl | rfl | rfl | rfl | rfl | rfl | rfl | rfl | rfl | rfl | rfl | rfl | rfl | rfl | rfl | rfl <;> rfl
/-- an act in a box -/
def XA (w : World) (G : Nat) (x : Ac) : Prop := w.heap[G]? = some (.cells x.cells.toArray 34)
theorem XA.lt {w : World} {G : Nat} {x : Ac} (h : XA w G x) : G < w.heap.size := Ml.lt_of_heap h
theorem XA.cell {w : World} {G : Nat} {x : Ac} (h : XA w G x) (i : Nat) : w.cell? ⟨G, i, none⟩ = x.cells[i]? := by unfold XA at h; simp [World.cell?, h]
theorem XA.below {w w' : World} {G : Nat} {x : Ac} (h : XA w G x) {B : Nat} (hb : Below B w w') (hB : G < B) : XA w' G x := by unfold XA; rw [hb.block _ hB]; exact h
theorem XA.but {w w' : World} {G : Nat} {x : Ac} (h : XA w G x) {l : List Nat} (hb : But l w w') (hn : G ∉ l) : XA w' G x := by unfold XA; rw [hb.block _ h.lt hn]; exact h
theorem XA.there {w : World} {G : Nat} {x : Ac} (h : XA w G x) : w.there G 0 17 := fun j hj => by
  rw [Nat.zero_add]
  refine ⟨?_, ?_⟩
  · rw [h.cell]
    have : j < x.cells.length := by rw [x.len]; exact hj
    rw [List.getElem?_eq_getElem this]; rfl
  · unfold XA at h
    simp [World.frozen?, h]
theorem objA_setCells {b : Nat} {e : TypeId} {fr : Nat × Nat} : ∀ (vs : List Value) (o : Nat) (w : World) (cur : Array Value), w.heap[b]? = some (.cells cur e fr) → o + vs.length ≤ cur.size →
    ∃ cur', (w.setCells b o vs).heap[b]? = some (.cells cur' e fr) ∧ cur'.size = cur.size ∧ cur'.toList = cur.toList.take o ++ vs ++ cur.toList.drop (o + vs.length)
  | [], o, w, cur, h, hs => ⟨cur, h, rfl, by simp⟩
  | v :: r, o, w, cur, h, hs => by
    have h1 : (w.setCell ⟨b, o, none⟩ v).heap[b]? = some (.cells (cur.setIfInBounds o v) e fr) := by
      simp only [World.setCell, Array.getElem?_modify, if_pos]
      simp [h]
    simp only [List.length_cons] at hs
    obtain ⟨cur', g1, g2, g3⟩ := objA_setCells r (o + 1) _ _ h1 (by simp; omega)
    refine ⟨cur', by rw [World.setCells]; exact g1, by rw [g2]; simp, ?_⟩
    rw [g3, Array.toList_setIfInBounds]
    have hlt : o < cur.toList.length := by simp; omega
    have ht : (cur.toList.set o v).take (o + 1) = cur.toList.take o ++ [v] := by
      rw [List.take_set, List.take_succ_eq_append_getElem hlt, List.set_append_right _ _ (by simp; omega)]
      have h0 : o - min o cur.size = 0 := by simp at hlt; omega
      simp [h0]
    rw [ht, List.drop_set_of_lt (by omega)]
    simp [Nat.add_assoc, Nat.add_comm 1]
theorem belowA_setCells {B b : Nat} (hB : B ≤ b) : ∀ (vs : List Value) (o : Nat) {w0 w : World}, Below B w0 w → Below B w0 (w.setCells b o vs)
  | [], o, w0, w, h => h
  | v :: r, o, w0, w, h => by rw [World.setCells]; exact belowA_setCells hB r _ (h.setCell hB v)
theorem XA.new (w : World) (x : Ac) : XA (w.alloc (.cells x.cells.toArray 34)) w.heap.size x := heap_alloc_new w _
theorem XA.store {w : World} {G : Nat} {y : Ac} (h : XA w G y) (x : Ac) : XA (w.setCells G 0 x.cells) G x := by
  obtain ⟨cur', h1, h2, h3⟩ := objA_setCells x.cells 0 w _ h (by rw [x.len]; simp [y.len])
  have e : cur' = x.cells.toArray := by
    apply Array.ext'
    rw [h3]
    simp [x.len, y.len]
  rw [e] at h1
  exact h1
section
variable {ops : Array Oper} {rest : List Oper} {o : Oper} {a : Act} {w : World} {Q : Exit → Act → World → Prop}
theorem newVarA (w : World) (x : Ac) : (newVar 34 (actV x)).run Try.prog w = .ok ⟨w.heap.size, 0, none⟩ (w.alloc (.cells x.cells.toArray 34)) := by
  rw [actV_cells]
  simp only [newVar, newRow, Value.cells, Sem.run_bind, run_newObj_alloc, Sem.run_pure, Result.andThen_ok]
theorem zeroA (w : World) : (zeroValue 34).run Try.prog w = .ok (actV az) w := by
  have h := act_info
  cases hq : Try.prog.info? 34 with
  | none => rw [hq] at h; simp at h
  | some i =>
    rw [hq] at h
    simp at h
    simp [zeroValue, typeInfo, hq, h.1]
    rfl
theorem wpList_allocA (hg : o.guard = none) (ho : o.op = .alloc 34)
    (h : ∀ w', w' = w.alloc (.cells az.cells.toArray 34) → wpList Try.prog ops Q rest (a.put o.dst (.pointer (some ⟨w.heap.size, 0, none⟩))) w') : wpList Try.prog ops Q (o :: rest) a w := by
  refine wpList_plain hg fun K hK => ?_
  unfold Oper.wp
  simp only [execOp, ho, Instr.alloc, Sem.run_bind, zeroA, Result.andThen_ok, newVarA, Sem.run_pure, Result.andThen]
  exact hK _ _ (h _ rfl)
theorem wpList_loadA (hg : o.guard = none) (x : Operand) (ho : o.op = .load 34 x) (b off : Nat) (hx : a.eval x = .pointer (some ⟨b, off, none⟩)) (y : Ac) (hc : w.rangeAt b off y.cells)
    (h : wpList Try.prog ops Q rest (a.put o.dst (actV y)) w) : wpList Try.prog ops Q (o :: rest) a w :=
  wpList_load_mid hg 34 x ho b off hx y.cells _ hc Try.underlying34 rfl (by rw [act_size, y.len]) h
theorem wpList_storeA (hg : o.guard = none) (x y : Operand) (ho : o.op = .store 34 x y) (b : Nat) (hx : a.eval x = .pointer (some ⟨b, 0, none⟩)) (z : Ac) (hy : a.eval y = actV z) (ht : w.there b 0 17)
    (h : ∀ w', w' = w.setCells b 0 z.cells → wpList Try.prog ops Q rest (a.put o.dst undef) w') : wpList Try.prog ops Q (o :: rest) a w := by
  have h1 : z.cells.toArray.size = 17 := rfl
  exact wpList_store_mid hg 34 x y ho b 0 z.cells.toArray hx (hy.trans (actV_cells z)) ht (by rw [act_size]; rfl) (all_oneCell_toArray z.one) (h _ rfl)
end
theorem XA.range {w : World} {G : Nat} {x : Ac} (h : XA w G x) : w.rangeAt G 0 x.cells := fun j v hv => by rw [Nat.zero_add, h.cell]; exact hv
end Go.Proofs.Ytofhijnfbilieaa.Bk
