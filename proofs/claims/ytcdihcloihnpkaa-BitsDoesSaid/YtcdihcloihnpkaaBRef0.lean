/-
  The document's own row as a value of 65 cells, in memory; what the walk does with it.
-/
import Derived.Test.YtcdihcloihnpkaaBits6
import Derived.Deep.MidRow
import Derived.Deep.RegionHeld3
namespace Go.Proofs.Ytcdihcloihnpkaa.B
open Go.RowKit
set_option linter.unusedVariables false
set_option linter.unusedSimpArgs false
set_option maxRecDepth 20000

/-- the cells of the document's row: its places, and a mark for each of 64 -/
def rl (n m : Nat) : List Value := .int .i64 (n : Int) :: (List.range 64).map fun k => .bool (m.testBit k)
def RV (n m : Nat) : Value := .agg (rl n m).toArray
theorem rl_len (n m : Nat) : (rl n m).length = 65 := by simp [rl]
theorem rl_one (n m : Nat) : ∀ u ∈ rl n m, u.oneCell' = true := by
  intro u hu
  rcases List.mem_cons.1 hu with rfl | hu
  · rfl
  · obtain ⟨_, _, rfl⟩ := List.mem_map.1 hu
    rfl
theorem rl_zero : (rl 0 0).toArray = #[.int .i64 0] ++ Array.replicate 64 (.bool false) := by kernel_rfl
theorem info30 : (Try.prog.info? 30).map (fun i => (i.zero, i.size, i.bytes)) = some (some (.agg (rl 0 0).toArray), 65, 72) := by kernel_rfl
theorem size30 : (Try.prog.info? 30).map (·.size) = some 65 := by kernel_rfl
theorem rl_at0 (n m : Nat) : (rl n m)[0]? = some (.int .i64 (n : Int)) := rfl
theorem rl_at {n m k : Nat} (h : k < 64) : (rl n m)[k + 1]? = some (.bool (m.testBit k)) := by simp [rl, h]

/-- the document's row in block b -/
def RAt (w : World) (b n m : Nat) : Prop := Blk w b 30 (rl n m).toArray
section
variable {w w' : World} {b n m B : Nat}
theorem RAt.lt (h : RAt w b n m) : b < w.heap.size := Blk.lt h
theorem RAt.c0 (h : RAt w b n m) : w.cell? ⟨b, 0, none⟩ = some (.int .i64 (n : Int)) := by rw [Blk.cell h]; rfl
theorem RAt.bit (h : RAt w b n m) {k : Nat} (hk : k < 64) : w.cell? ⟨b, 1 + k, none⟩ = some (.bool (m.testBit k)) := by
  rw [Blk.cell h, Nat.add_comm, List.getElem?_toArray]
  exact rl_at hk
theorem RAt.fz (h : RAt w b n m) (o : Nat) : w.frozen? ⟨b, o, none⟩ = false := Blk.frozen h o
theorem RAt.range (h : RAt w b n m) : w.rangeAt b 0 (rl n m) := fun j v hv => by
  rw [Nat.zero_add, Blk.cell h, List.getElem?_toArray]
  exact hv
theorem RAt.there (h : RAt w b n m) : w.there b 0 65 := fun j hj => by
  refine ⟨?_, Blk.frozen h _⟩
  rw [Nat.zero_add, Blk.cell h, List.getElem?_toArray, List.getElem?_eq_getElem (by rw [rl_len]; exact hj)]
  rfl
theorem rat_new (w : World) (n m : Nat) : RAt (w.alloc (.cells (rl n m).toArray 30)) w.heap.size n m := heap_alloc_new w _
theorem RAt.of_block (h : RAt w b n m) (hb : w'.heap[b]? = w.heap[b]?) : RAt w' b n m := hb.trans h
theorem RAt.below (h : RAt w b n m) (hb : Below B w w') (hB : b < B) : RAt w' b n m := h.of_block (hb.block _ hB)
theorem RAt.alloc (h : RAt w b n m) (o : Obj) : RAt (w.alloc o) b n m := h.of_block (Below.heap_alloc w o b h.lt)
theorem RAt.drew (h : RAt w b n m) : RAt w.drew b n m := h
theorem RAt.far (h : RAt w b n m) {p : Addr} (hp : b ≠ p.block) (v : Value) : RAt (w.setCell p v) b n m := h.of_block (Below.heap_setCell w p v b hp)
theorem RAt.setBit (h : RAt w b n m) {k m' : Nat} {v : Bool} (hk : k < 64) (hm : ∀ j, m'.testBit j = if j = k then v else m.testBit j) : RAt (w.setCell ⟨b, 1 + k, none⟩ (.bool v)) b n m' := by
  have := Blk.set_ h (1 + k) (.bool v)
  unfold RAt
  have e : (rl n m).toArray.setIfInBounds (1 + k) (.bool v) = (rl n m').toArray := by
    rw [List.setIfInBounds_toArray, Nat.add_comm]
    congr 1
    apply List.ext_getElem?
    intro j
    rw [List.getElem?_set]
    cases j with
    | zero => simp [rl]
    | succ j =>
      by_cases hj : j < 64
      · rw [rl_at hj, rl_at hj, hm j, rl_len]
        by_cases e : k = j
        · subst e; simp [hk]
        · have e2 : ¬ j = k := fun h => e h.symm
          simp [e, e2]
      · have h1 : (rl n m)[j + 1]? = none := List.getElem?_eq_none (by rw [rl_len]; omega)
        have h2 : (rl n m')[j + 1]? = none := List.getElem?_eq_none (by rw [rl_len]; omega)
        rw [h1, h2]
        have e : ¬ k = j := by omega
        simp [e]
  rw [e] at this
  exact this
theorem obj_setCells {b : Nat} {e : TypeId} {fr : Nat × Nat} : ∀ (vs : List Value) (o : Nat) (w : World) (cur : Array Value), w.heap[b]? = some (.cells cur e fr) → o + vs.length ≤ cur.size →
    ∃ cur', (w.setCells b o vs).heap[b]? = some (.cells cur' e fr) ∧ cur'.size = cur.size ∧ cur'.toList = cur.toList.take o ++ vs ++ cur.toList.drop (o + vs.length)
  | [], o, w, cur, h, hs => ⟨cur, h, rfl, by simp⟩
  | v :: r, o, w, cur, h, hs => by
    have h1 : (w.setCell ⟨b, o, none⟩ v).heap[b]? = some (.cells (cur.setIfInBounds o v) e fr) := by
      simp only [World.setCell, Array.getElem?_modify, if_pos]
      simp [h]
    simp only [List.length_cons] at hs
    obtain ⟨cur', g1, g2, g3⟩ := obj_setCells r (o + 1) _ _ h1 (by simp; omega)
    refine ⟨cur', by rw [World.setCells]; exact g1, by rw [g2]; simp, ?_⟩
    rw [g3, Array.toList_setIfInBounds]
    have hlt : o < cur.toList.length := by simp; omega
    have ht : (cur.toList.set o v).take (o + 1) = cur.toList.take o ++ [v] := by
      rw [List.take_set, List.take_succ_eq_append_getElem hlt, List.set_append_right _ _ (by simp; omega)]
      have h0 : o - min o cur.size = 0 := by simp at hlt; omega
      simp [h0]
    rw [ht, List.drop_set_of_lt (by omega)]
    simp [Nat.add_assoc, Nat.add_comm 1]
theorem RAt.store (h : RAt w b n m) (n' m' : Nat) : RAt (w.setCells b 0 (rl n' m')) b n' m' := by
  obtain ⟨cur', h1, h2, h3⟩ := obj_setCells (rl n' m') 0 w _ h (by rw [rl_len]; simp [rl_len])
  have e : cur' = (rl n' m').toArray := by
    apply Array.ext'
    rw [h3]
    simp [rl_len]
  rw [e] at h1
  exact h1
theorem heap_setCells (b : Nat) : ∀ (vs : List Value) (o : Nat) (w : World) (k : Nat), k ≠ b → (w.setCells b o vs).heap[k]? = w.heap[k]?
  | [], o, w, k, hk => rfl
  | v :: r, o, w, k, hk => by rw [World.setCells, heap_setCells b r _ _ k hk]; exact Below.heap_setCell w _ v k hk
theorem below_setCells {B b : Nat} (hB : B ≤ b) : ∀ (vs : List Value) (o : Nat) {w0 w : World}, Below B w0 w → Below B w0 (w.setCells b o vs)
  | [], o, w0, w, h => h
  | v :: r, o, w0, w, h => by rw [World.setCells]; exact below_setCells hB r _ (h.setCell hB v)
end

section
variable {ops : Array Oper} {rest : List Oper} {o : Oper} {a : Act} {w : World} {Q : Exit → Act → World → Prop} {n m : Nat}
theorem newVar30 (w : World) (n m : Nat) : (newVar 30 (RV n m)).run Try.prog w = .ok ⟨w.heap.size, 0, none⟩ (w.alloc (.cells (rl n m).toArray 30)) := by
  simp only [newVar, newRow, RV, Value.cells, Sem.run_bind, run_newObj_alloc, Sem.run_pure, Result.andThen_ok]
theorem zero30 (w : World) : (zeroValue 30).run Try.prog w = .ok (RV 0 0) w := by
  obtain ⟨i, f1, f2, _, _⟩ := info_parts info30
  simp [zeroValue, typeInfo, f1, f2, RV]
theorem wpList_box30 (hg : o.guard = none) (x : Operand) (ho : o.op = .box 30 x) (hx : a.eval x = RV n m)
    (h : ∀ w', w' = w.alloc (.cells (rl n m).toArray 30) → wpList Try.prog ops Q rest (a.put o.dst (.pointer (some ⟨w.heap.size, 0, none⟩))) w') : wpList Try.prog ops Q (o :: rest) a w := by
  refine wpList_plain hg fun K hK => ?_
  unfold Oper.wp
  simp only [execOp, ho, hx, Instr.box, Sem.run_bind, newVar30, Sem.run_pure, Result.andThen_ok, Result.andThen]
  exact hK _ _ (h _ rfl)
theorem wpList_alloc30 (hg : o.guard = none) (ho : o.op = .alloc 30)
    (h : ∀ w', w' = w.alloc (.cells (rl 0 0).toArray 30) → wpList Try.prog ops Q rest (a.put o.dst (.pointer (some ⟨w.heap.size, 0, none⟩))) w') : wpList Try.prog ops Q (o :: rest) a w := by
  refine wpList_plain hg fun K hK => ?_
  unfold Oper.wp
  simp only [execOp, ho, Instr.alloc, Sem.run_bind, zero30, Result.andThen_ok, newVar30, Sem.run_pure, Result.andThen]
  exact hK _ _ (h _ rfl)
theorem wpList_load30 (hg : o.guard = none) (x : Operand) (ho : o.op = .load 30 x) (b : Nat) (hx : a.eval x = .pointer (some ⟨b, 0, none⟩)) (hc : RAt w b n m)
    (h : wpList Try.prog ops Q rest (a.put o.dst (RV n m)) w) : wpList Try.prog ops Q (o :: rest) a w :=
  wpList_load_mid hg 30 x ho b 0 hx (rl n m) _ hc.range Try.underlying30 rfl (by rw [size30, rl_len]) h
theorem wpList_store30 (hg : o.guard = none) (x y : Operand) (ho : o.op = .store 30 x y) (b : Nat) (hx : a.eval x = .pointer (some ⟨b, 0, none⟩)) (hy : a.eval y = RV n m) (ht : w.there b 0 65)
    (h : ∀ w', w' = w.setCells b 0 (rl n m) → wpList Try.prog ops Q rest (a.put o.dst undef) w') : wpList Try.prog ops Q (o :: rest) a w := by
  have h1 : (rl n m).toArray.size = 65 := by rw [List.size_toArray, rl_len]
  exact wpList_store_mid hg 30 x y ho b 0 _ hx hy (by rw [h1]; exact ht) (by rw [size30, h1]) (all_oneCell_toArray (rl_one n m)) (h _ (by simp))
theorem build30 (w : World) : (Instr.build 30 #[]).run Try.prog w = .ok (RV 0 0) w := by
  refine run_build w 30 _ _ ?_
  obtain ⟨i, f1, f2, f3, _⟩ := info_parts info30
  unfold Program.built
  rw [f1, Try.underlying30]
  simp only [f2]
  rfl
theorem size3 : (Try.prog.info? 3).map (·.size) = some 1 := by kernel_rfl
theorem size28 : (Try.prog.info? 28).map (·.size) = some 64 := by kernel_rfl
theorem build30n (w : World) (n : Nat) : (Instr.build 30 #[(0, .int .i64 (n : Int))]).run Try.prog w = .ok (RV n 0) w := by
  refine run_build w 30 _ _ ?_
  obtain ⟨i, f1, f2, f3, _⟩ := info_parts info30
  obtain ⟨i3, g1, g3⟩ : ∃ i, Try.prog.info? 3 = some i ∧ i.size = 1 := by
    have := size3
    cases h : Try.prog.info? 3 with
    | none => simp [h] at this
    | some i => simp [h] at this; exact ⟨i, rfl, this⟩
  obtain ⟨i28, k1, k3⟩ : ∃ i, Try.prog.info? 28 = some i ∧ i.size = 64 := by
    have := size28
    cases h : Try.prog.info? 28 with
    | none => simp [h] at this
    | some i => simp [h] at this; exact ⟨i, rfl, this⟩
  unfold Program.built
  rw [f1, Try.underlying30]
  simp only [f2, g1, k1, List.mapM_cons, List.mapM_nil, Option.map_some, Option.pure_def, Option.bind_eq_bind, Option.bind_some, g3, k3]
  rfl
theorem wpList_build30 (hg : o.guard = none) (ho : o.op = .build 30 #[]) (h : wpList Try.prog ops Q rest (a.put o.dst (RV 0 0)) w) : wpList Try.prog ops Q (o :: rest) a w := by
  refine wpList_plain hg fun K hK => ?_
  unfold Oper.wp
  simp only [execOp, ho, List.map_toArray, List.map_nil, Sem.run_bind, build30, Result.andThen_ok, Sem.run_pure, Result.andThen]
  exact hK _ _ h
theorem wpList_build30n (hg : o.guard = none) (x : Operand) (ho : o.op = .build 30 #[(0, x)]) (hx : a.eval x = .int .i64 (n : Int)) (h : wpList Try.prog ops Q rest (a.put o.dst (RV n 0)) w) : wpList Try.prog ops Q (o :: rest) a w := by
  refine wpList_plain hg fun K hK => ?_
  unfold Oper.wp
  simp only [execOp, ho, hx, List.map_toArray, List.map_cons, List.map_nil, Sem.run_bind, build30n, Result.andThen_ok, Sem.run_pure, Result.andThen]
  exact hK _ _ h
end
/-! results that lie in memory -/
theorem run_res30 {w : World} {b n m : Nat} (h : RAt w b n m) : (loadVar 30 ⟨b, 0, none⟩).run Try.prog w = .ok (RV n m) w :=
  run_loadVar_mid w b 0 30 (rl n m) _ h.range Try.underlying30 rfl (by rw [size30, rl_len])
theorem results_one {fn : Func} {t : Tmp} {tmps : Array Value} {w : World} {b n m : Nat} (hf : fn.results = #[.cell t 30]) (ht : tmps.getD t undef = .pointer (some ⟨b, 0, none⟩)) (h : RAt w b n m) : (results fn tmps).run Try.prog w = .ok (RV n m) w := by
  rw [Array.getD_eq_getD_getElem?] at ht
  simp [results, hf, ht, asAddr, run_res30 h]
theorem results_two {fn : Func} {t u : Tmp} {tmps : Array Value} {w : World} {b n m : Nat} {e : Value} (hf : fn.results = #[.cell t 30, .tmp u]) (ht : tmps.getD t undef = .pointer (some ⟨b, 0, none⟩)) (hu : tmps.getD u undef = e) (h : RAt w b n m) : (results fn tmps).run Try.prog w = .ok (.tuple #[RV n m, e]) w := by
  rw [Array.getD_eq_getD_getElem?] at ht hu
  simp [results, hf, ht, hu, asAddr, run_res30 h]
end Go.Proofs.Ytcdihcloihnpkaa.B
