/-
  The document's own row as a value of 65 cells, in memory; what the walk does with it.
  The document's own row: New, Set, Has, Next, All.
  The document's own row: Next, All, Or.
  The document's own row: Text.
  The document's own row: Load.
  The document's own row: Load, a text of the right length.
  A load of the document's own row behind a guard that is met.
-/
import Derived.Test.YtcofahpeinkhfaaGreatBits4
import Derived.Deep.MidRow
import Derived.Deep.RegionHeld3
namespace Go.Proofs.YtcofahpeinkhfaaGreat.B
open Go.RowKit
set_option linter.unusedVariables false
set_option linter.unusedSimpArgs false
set_option maxRecDepth 20000

/-- the cells of the document's row: its places, and a mark for each of 64 -/
def rl (n m : Nat) : List Value := .int .i64 (n : Int) :: (List.range 64).map fun k => .bool (m.testBit k)
def RV (n m : Nat) : Value := .agg (rl n m).toArray
theorem rl_len (n m : Nat) : (rl n m).length = 65 := by simp [rl]
theorem rl_one (n m : Nat) : ∀ u ∈ rl n m, u.oneCell' = true := by
  intro u hu
  rcases List.mem_cons.1 hu with rfl | hu
  · rfl
  · obtain ⟨_, _, rfl⟩ := List.mem_map.1 hu
    rfl
theorem rl_zero : (rl 0 0).toArray = #[.int .i64 0] ++ Array.replicate 64 (.bool false) := by kernel_rfl
theorem info30 : (Tryz.prog.info? 60).map (fun i => (i.zero, i.size, i.bytes)) = some (some (.agg (rl 0 0).toArray), 65, 72) := by kernel_rfl
theorem size30 : (Tryz.prog.info? 60).map (·.size) = some 65 := by kernel_rfl
theorem rl_at0 (n m : Nat) : (rl n m)[0]? = some (.int .i64 (n : Int)) := rfl
theorem rl_at {n m k : Nat} (h : k < 64) : (rl n m)[k + 1]? = some (.bool (m.testBit k)) := by simp [rl, h]

/-- the document's row in block b -/
def RAt (w : World) (b n m : Nat) : Prop := Blk w b 60 (rl n m).toArray
section
variable {w w' : World} {b n m B : Nat}
theorem RAt.lt (h : RAt w b n m) : b < w.heap.size := Blk.lt h
theorem RAt.c0 (h : RAt w b n m) : w.cell? ⟨b, 0, none⟩ = some (.int .i64 (n : Int)) := by rw [Blk.cell h]; rfl
theorem RAt.bit (h : RAt w b n m) {k : Nat} (hk : k < 64) : w.cell? ⟨b, 1 + k, none⟩ = some (.bool (m.testBit k)) := by
  rw [Blk.cell h, Nat.add_comm, List.getElem?_toArray]
  exact rl_at hk
theorem RAt.fz (h : RAt w b n m) (o : Nat) : w.frozen? ⟨b, o, none⟩ = false := Blk.frozen h o
theorem RAt.range (h : RAt w b n m) : w.rangeAt b 0 (rl n m) := fun j v hv => by
  rw [Nat.zero_add, Blk.cell h, List.getElem?_toArray]
  exact hv
theorem RAt.there (h : RAt w b n m) : w.there b 0 65 := fun j hj => by
  refine ⟨?_, Blk.frozen h _⟩
  rw [Nat.zero_add, Blk.cell h, List.getElem?_toArray, List.getElem?_eq_getElem (by rw [rl_len]; exact hj)]
  rfl
theorem rat_new (w : World) (n m : Nat) : RAt (w.alloc (.cells (rl n m).toArray 60)) w.heap.size n m := heap_alloc_new w _
theorem RAt.of_block (h : RAt w b n m) (hb : w'.heap[b]? = w.heap[b]?) : RAt w' b n m := hb.trans h
theorem RAt.below (h : RAt w b n m) (hb : Below B w w') (hB : b < B) : RAt w' b n m := h.of_block (hb.block _ hB)
theorem RAt.alloc (h : RAt w b n m) (o : Obj) : RAt (w.alloc o) b n m := h.of_block (Below.heap_alloc w o b h.lt)
theorem RAt.drew (h : RAt w b n m) : RAt w.drew b n m := h
theorem RAt.far (h : RAt w b n m) {p : Addr} (hp : b ≠ p.block) (v : Value) : RAt (w.setCell p v) b n m := h.of_block (Below.heap_setCell w p v b hp)
theorem RAt.setBit (h : RAt w b n m) {k m' : Nat} {v : Bool} (hk : k < 64) (hm : ∀ j, m'.testBit j = if j = k then v else m.testBit j) : RAt (w.setCell ⟨b, 1 + k, none⟩ (.bool v)) b n m' := by
  have := Blk.set_ h (1 + k) (.bool v)
  unfold RAt
  have e : (rl n m).toArray.setIfInBounds (1 + k) (.bool v) = (rl n m').toArray := by
    rw [List.setIfInBounds_toArray, Nat.add_comm]
    congr 1
    apply List.ext_getElem?
    intro j
    rw [List.getElem?_set]
    cases j with
    | zero => simp [rl]
    | succ j =>
      by_cases hj : j < 64
      · rw [rl_at hj, rl_at hj, hm j, rl_len]
        by_cases e : k = j
        · subst e; simp [hk]
        · have e2 : ¬ j = k := fun h => e h.symm
          simp [e, e2]
      · have h1 : (rl n m)[j + 1]? = none := List.getElem?_eq_none (by rw [rl_len]; omega)
        have h2 : (rl n m')[j + 1]? = none := List.getElem?_eq_none (by rw [rl_len]; omega)
        rw [h1, h2]
        have e : ¬ k = j := by omega
        simp [e]
  rw [e] at this
  exact this
theorem obj_setCells {b : Nat} {e : TypeId} {fr : Nat × Nat} : ∀ (vs : List Value) (o : Nat) (w : World) (cur : Array Value), w.heap[b]? = some (.cells cur e fr) → o + vs.length ≤ cur.size →
    ∃ cur', (w.setCells b o vs).heap[b]? = some (.cells cur' e fr) ∧ cur'.size = cur.size ∧ cur'.toList = cur.toList.take o ++ vs ++ cur.toList.drop (o + vs.length)
  | [], o, w, cur, h, hs => ⟨cur, h, rfl, by simp⟩
  | v :: r, o, w, cur, h, hs => by
    have h1 : (w.setCell ⟨b, o, none⟩ v).heap[b]? = some (.cells (cur.setIfInBounds o v) e fr) := by
      simp only [World.setCell, Array.getElem?_modify, if_pos]
      simp [h]
    simp only [List.length_cons] at hs
    obtain ⟨cur', g1, g2, g3⟩ := obj_setCells r (o + 1) _ _ h1 (by simp; omega)
    refine ⟨cur', by rw [World.setCells]; exact g1, by rw [g2]; simp, ?_⟩
    rw [g3, Array.toList_setIfInBounds]
    have hlt : o < cur.toList.length := by simp; omega
    have ht : (cur.toList.set o v).take (o + 1) = cur.toList.take o ++ [v] := by
      rw [List.take_set, List.take_succ_eq_append_getElem hlt, List.set_append_right _ _ (by simp; omega)]
      have h0 : o - min o cur.size = 0 := by simp at hlt; omega
      simp [h0]
    rw [ht, List.drop_set_of_lt (by omega)]
    simp [Nat.add_assoc, Nat.add_comm 1]
theorem RAt.store (h : RAt w b n m) (n' m' : Nat) : RAt (w.setCells b 0 (rl n' m')) b n' m' := by
  obtain ⟨cur', h1, h2, h3⟩ := obj_setCells (rl n' m') 0 w _ h (by rw [rl_len]; simp [rl_len])
  have e : cur' = (rl n' m').toArray := by
    apply Array.ext'
    rw [h3]
    simp [rl_len]
  rw [e] at h1
  exact h1
theorem heap_setCells (b : Nat) : ∀ (vs : List Value) (o : Nat) (w : World) (k : Nat), k ≠ b → (w.setCells b o vs).heap[k]? = w.heap[k]?
  | [], o, w, k, hk => rfl
  | v :: r, o, w, k, hk => by rw [World.setCells, heap_setCells b r _ _ k hk]; exact Below.heap_setCell w _ v k hk
theorem below_setCells {B b : Nat} (hB : B ≤ b) : ∀ (vs : List Value) (o : Nat) {w0 w : World}, Below B w0 w → Below B w0 (w.setCells b o vs)
  | [], o, w0, w, h => h
  | v :: r, o, w0, w, h => by rw [World.setCells]; exact below_setCells hB r _ (h.setCell hB v)
end

section
variable {ops : Array Oper} {rest : List Oper} {o : Oper} {a : Act} {w : World} {Q : Exit → Act → World → Prop} {n m : Nat}
theorem newVar30 (w : World) (n m : Nat) : (newVar 60 (RV n m)).run Tryz.prog w = .ok ⟨w.heap.size, 0, none⟩ (w.alloc (.cells (rl n m).toArray 60)) := by
  simp only [newVar, newRow, RV, Value.cells, Sem.run_bind, run_newObj_alloc, Sem.run_pure, Result.andThen_ok]
theorem zero30 (w : World) : (zeroValue 60).run Tryz.prog w = .ok (RV 0 0) w := by
  obtain ⟨i, f1, f2, _, _⟩ := info_parts info30
  simp [zeroValue, typeInfo, f1, f2, RV]
theorem wpList_box30 (hg : o.guard = none) (x : Operand) (ho : o.op = .box 60 x) (hx : a.eval x = RV n m)
    (h : ∀ w', w' = w.alloc (.cells (rl n m).toArray 60) → wpList Tryz.prog ops Q rest (a.put o.dst (.pointer (some ⟨w.heap.size, 0, none⟩))) w') : wpList Tryz.prog ops Q (o :: rest) a w := by
  refine wpList_plain hg fun K hK => ?_
  unfold Oper.wp
  simp only [execOp, ho, hx, Instr.box, Sem.run_bind, newVar30, Sem.run_pure, Result.andThen_ok, Result.andThen]
  exact hK _ _ (h _ rfl)
theorem wpList_alloc30 (hg : o.guard = none) (ho : o.op = .alloc 60)
    (h : ∀ w', w' = w.alloc (.cells (rl 0 0).toArray 60) → wpList Tryz.prog ops Q rest (a.put o.dst (.pointer (some ⟨w.heap.size, 0, none⟩))) w') : wpList Tryz.prog ops Q (o :: rest) a w := by
  refine wpList_plain hg fun K hK => ?_
  unfold Oper.wp
  simp only [execOp, ho, Instr.alloc, Sem.run_bind, zero30, Result.andThen_ok, newVar30, Sem.run_pure, Result.andThen]
  exact hK _ _ (h _ rfl)
theorem wpList_load30 (hg : o.guard = none) (x : Operand) (ho : o.op = .load 60 x) (b : Nat) (hx : a.eval x = .pointer (some ⟨b, 0, none⟩)) (hc : RAt w b n m)
    (h : wpList Tryz.prog ops Q rest (a.put o.dst (RV n m)) w) : wpList Tryz.prog ops Q (o :: rest) a w :=
  wpList_load_mid hg 60 x ho b 0 hx (rl n m) _ hc.range Tryz.underlying60 rfl (by rw [size30, rl_len]) h
theorem wpList_store30 (hg : o.guard = none) (x y : Operand) (ho : o.op = .store 60 x y) (b : Nat) (hx : a.eval x = .pointer (some ⟨b, 0, none⟩)) (hy : a.eval y = RV n m) (ht : w.there b 0 65)
    (h : ∀ w', w' = w.setCells b 0 (rl n m) → wpList Tryz.prog ops Q rest (a.put o.dst undef) w') : wpList Tryz.prog ops Q (o :: rest) a w := by
  have h1 : (rl n m).toArray.size = 65 := by rw [List.size_toArray, rl_len]
  exact wpList_store_mid hg 60 x y ho b 0 _ hx hy (by rw [h1]; exact ht) (by rw [size30, h1]) (all_oneCell_toArray (rl_one n m)) (h _ (by simp))
theorem build30 (w : World) : (Instr.build 60 #[]).run Tryz.prog w = .ok (RV 0 0) w := by
  refine run_build w 60 _ _ ?_
  obtain ⟨i, f1, f2, f3, _⟩ := info_parts info30
  unfold Program.built
  rw [f1, Tryz.underlying60]
  simp only [f2]
  rfl
theorem size3 : (Tryz.prog.info? 3).map (·.size) = some 1 := by kernel_rfl
theorem size28 : (Tryz.prog.info? 58).map (·.size) = some 64 := by kernel_rfl
theorem build30n (w : World) (n : Nat) : (Instr.build 60 #[(0, .int .i64 (n : Int))]).run Tryz.prog w = .ok (RV n 0) w := by
  refine run_build w 60 _ _ ?_
  obtain ⟨i, f1, f2, f3, _⟩ := info_parts info30
  obtain ⟨i3, g1, g3⟩ : ∃ i, Tryz.prog.info? 3 = some i ∧ i.size = 1 := by
    have := size3
    cases h : Tryz.prog.info? 3 with
    | none => simp [h] at this
    | some i => simp [h] at this; exact ⟨i, rfl, this⟩
  obtain ⟨i28, k1, k3⟩ : ∃ i, Tryz.prog.info? 58 = some i ∧ i.size = 64 := by
    have := size28
    cases h : Tryz.prog.info? 58 with
    | none => simp [h] at this
    | some i => simp [h] at this; exact ⟨i, rfl, this⟩
  unfold Program.built
  rw [f1, Tryz.underlying60]
  simp only [f2, g1, k1, List.mapM_cons, List.mapM_nil, Option.map_some, Option.pure_def, Option.bind_eq_bind, Option.bind_some, g3, k3]
  rfl
theorem wpList_build30 (hg : o.guard = none) (ho : o.op = .build 60 #[]) (h : wpList Tryz.prog ops Q rest (a.put o.dst (RV 0 0)) w) : wpList Tryz.prog ops Q (o :: rest) a w := by
  refine wpList_plain hg fun K hK => ?_
  unfold Oper.wp
  simp only [execOp, ho, List.map_toArray, List.map_nil, Sem.run_bind, build30, Result.andThen_ok, Sem.run_pure, Result.andThen]
  exact hK _ _ h
theorem wpList_build30n (hg : o.guard = none) (x : Operand) (ho : o.op = .build 60 #[(0, x)]) (hx : a.eval x = .int .i64 (n : Int)) (h : wpList Tryz.prog ops Q rest (a.put o.dst (RV n 0)) w) : wpList Tryz.prog ops Q (o :: rest) a w := by
  refine wpList_plain hg fun K hK => ?_
  unfold Oper.wp
  simp only [execOp, ho, hx, List.map_toArray, List.map_cons, List.map_nil, Sem.run_bind, build30n, Result.andThen_ok, Sem.run_pure, Result.andThen]
  exact hK _ _ h
end
/-! results that lie in memory -/
theorem run_res30 {w : World} {b n m : Nat} (h : RAt w b n m) : (loadVar 60 ⟨b, 0, none⟩).run Tryz.prog w = .ok (RV n m) w :=
  run_loadVar_mid w b 0 60 (rl n m) _ h.range Tryz.underlying60 rfl (by rw [size30, rl_len])
theorem results_one {fn : Func} {t : Tmp} {tmps : Array Value} {w : World} {b n m : Nat} (hf : fn.results = #[.cell t 60]) (ht : tmps.getD t undef = .pointer (some ⟨b, 0, none⟩)) (h : RAt w b n m) : (results fn tmps).run Tryz.prog w = .ok (RV n m) w := by
  rw [Array.getD_eq_getD_getElem?] at ht
  simp [results, hf, ht, asAddr, run_res30 h]
theorem results_two {fn : Func} {t u : Tmp} {tmps : Array Value} {w : World} {b n m : Nat} {e : Value} (hf : fn.results = #[.cell t 60, .tmp u]) (ht : tmps.getD t undef = .pointer (some ⟨b, 0, none⟩)) (hu : tmps.getD u undef = e) (h : RAt w b n m) : (results fn tmps).run Tryz.prog w = .ok (.tuple #[RV n m, e]) w := by
  rw [Array.getD_eq_getD_getElem?] at ht hu
  simp [results, hf, ht, hu, asAddr, run_res30 h]
end Go.Proofs.YtcofahpeinkhfaaGreat.B
namespace Go.Proofs.YtcofahpeinkhfaaGreat.B
open Go.RowKit
set_option linter.unusedVariables false
set_option linter.unusedSimpArgs false
set_option maxRecDepth 20000

theorem rnew_any (n : Int) (w : World) : Calls Tryz.prog 34 #[.int .i64 n] w fun e w' => e = .returned (RV (M.len n) 0) ∧ Below w.heap.size w w' := by
  unfold M.len
  by_cases h1 : 0 ≤ n
  · by_cases h2 : n ≤ 64
    · rw [if_pos ⟨h1, h2⟩]
      obtain ⟨k, rfl⟩ := Int.eq_ofNat_of_zero_le h1
      go_enter Tryz.func34, Tryz.ntmps34
      go_wp2_with (first
        | (refine wpList_alloc30 rfl rfl ?_; intro w1 hw1; have H1 := Lib.hid (hw1 ▸ rat_new w 0 0); have B1 := Lib.hid (hw1 ▸ bel1 w _ : Below w.heap.size w w1); clear hw1)
        | (refine wpList_build30n rfl _ rfl rfl ?_)
        | (refine wpList_store30 rfl _ _ rfl w.heap.size rfl rfl H1.out.there ?_; intro w2 hw2; have H2 := Lib.hid (hw2 ▸ H1.out.store k 0); have B2 := Lib.hid (hw2 ▸ below_setCells (Nat.le_refl _) _ _ B1.out : Below w.heap.size w w2); clear hw2))
      exact bodyPost_ret (results_one Tryz.results34 rfl H2.out) rfl ⟨by simp, B2.out⟩
    · rw [if_neg (show ¬ (0 ≤ n ∧ n ≤ 64) from fun h => h2 h.2)]
      go_enter Tryz.func34, Tryz.ntmps34
      go_wp2_with (first
        | (refine wpList_alloc30 rfl rfl ?_; intro w1 hw1; have H1 := Lib.hid (hw1 ▸ rat_new w 0 0); have B1 := Lib.hid (hw1 ▸ bel1 w _ : Below w.heap.size w w1); clear hw1)
        | (refine wpList_build30 rfl rfl ?_)
        | (refine wpList_store30 rfl _ _ rfl w.heap.size rfl rfl H1.out.there ?_; intro w2 hw2; have H2 := Lib.hid (hw2 ▸ H1.out.store 0 0); have B2 := Lib.hid (hw2 ▸ below_setCells (Nat.le_refl _) _ _ B1.out : Below w.heap.size w w2); clear hw2))
      exact bodyPost_ret (results_one Tryz.results34 rfl H2.out) rfl ⟨by simp, B2.out⟩
  · rw [if_neg (show ¬ (0 ≤ n ∧ n ≤ 64) from fun h => h1 h.1)]
    go_enter Tryz.func34, Tryz.ntmps34
    go_wp2_with (first
      | (refine wpList_alloc30 rfl rfl ?_; intro w1 hw1; have H1 := Lib.hid (hw1 ▸ rat_new w 0 0); have B1 := Lib.hid (hw1 ▸ bel1 w _ : Below w.heap.size w w1); clear hw1)
      | (refine wpList_build30 rfl rfl ?_)
      | (refine wpList_store30 rfl _ _ rfl w.heap.size rfl rfl H1.out.there ?_; intro w2 hw2; have H2 := Lib.hid (hw2 ▸ H1.out.store 0 0); have B2 := Lib.hid (hw2 ▸ below_setCells (Nat.le_refl _) _ _ B1.out : Below w.heap.size w w2); clear hw2))
    exact bodyPost_ret (results_one Tryz.results34 rfl H2.out) rfl ⟨by simp, B2.out⟩

def setM (n m : Nat) (i : Int) (b : Bool) : Nat := if b then putM n m i else delM n m i
theorem setM_in {n m k : Nat} {b : Bool} (hk : k < n) (hn : n ≤ 64) (hm : m < 2 ^ n) : ∀ j, (setM n m (k : Int) b).testBit j = if j = k then b else m.testBit j := fun j => by
  have h : 0 ≤ (k : Int) ∧ (k : Int) < (n : Int) := ⟨by omega, by omega⟩
  unfold setM putM delM
  rw [if_pos h, if_pos h, Int.toNat_natCast]
  cases b with
  | true =>
    rw [if_pos rfl, M.put_bit]
    by_cases e : j = k
    · subst e; simp
    · have e2 : ¬ k = j := fun h => e h.symm
      simp [e, e2]
  | false =>
    rw [if_neg (by simp), M.del_bit (by omega) (M.lt64 hn hm)]
    by_cases e : j = k
    · subst e; simp
    · have e2 : ¬ k = j := fun h => e h.symm
      simp [e, e2]
theorem setM_out {n m : Nat} {i : Int} {b : Bool} (h : ¬ (0 ≤ i ∧ i < (n : Int))) : setM n m i b = 0 := by
  unfold setM putM delM
  rw [if_neg h, if_neg h]
  simp

theorem rset_any (n m : Nat) (i : Int) (b : Bool) (w : World) (hn : n ≤ 64) (hm : m < 2 ^ n) : Calls Tryz.prog 40 #[RV n m, .int .i64 i, .bool b] w fun e w' => e = .returned (.tuple #[RV (putN n i) (setM n m i b), .int .i64 (putE n i)]) ∧ Below w.heap.size w w' := by
  by_cases h1 : 0 ≤ i ∧ i < (n : Int)
  · obtain ⟨h2, h3⟩ := h1
    obtain ⟨k, rfl⟩ := Int.eq_ofNat_of_zero_le h2
    have hk : k < n := by omega
    have HS := Lib.hid (setM_in (b := b) hk hn hm)
    have hN : putN n (k : Int) = n := (putM_in (n := n) (m := m) hk).1
    have hE : putE n (k : Int) = 0 := (putM_in (n := n) (m := m) hk).2.2
    rw [hN, hE]
    generalize setM n m (k : Int) b = m2 at *
    have hk64 : (k : Int) < 64 := by omega
    have hk64N : k < 64 := by omega
    have hge : decide ((n : Int) ≤ (k : Int)) = false := by simp; omega
    have hgeN : decide (n ≤ k) = false := by simp; omega
    have hlt0 : decide ((k : Int) < 0) = false := by simp
    clear hm hN hE
    go_enter Tryz.func40, Tryz.ntmps40
    go_wp2_with (first
      | (refine wpList_box30 rfl _ rfl rfl ?_; intro w1 hw1; have H1 := Lib.hid (hw1 ▸ rat_new w n m); have B1 := Lib.hid (hw1 ▸ bel1 w _ : Below w.heap.size w w1); have hs1 : w1.heap.size = w.heap.size + 1 := (by rw [hw1]; exact size1 _ _); clear hw1)
      | (refine wpList_alloc30 rfl rfl ?_; intro w2 hw2; have R2 := Lib.hid (hs1 ▸ hw2 ▸ rat_new w1 0 0 : RAt w2 (w.heap.size + 1) 0 0); have H2 := Lib.hid (hw2 ▸ H1.out.alloc _ : RAt w2 w.heap.size n m); have B2 := Lib.hid (hw2 ▸ (B1.out.alloc B1.out.size _) : Below w.heap.size w w2); have z0 := H2.out.c0; have z1 := H2.out.bit hk64N; have z2 := H2.out.fz (1 + k); clear hw2)
      | (refine wpList_load30 rfl _ rfl w.heap.size rfl (H2.out.setBit hk64N HS.out) ?_)
      | (refine wpList_store30 rfl _ _ rfl (w.heap.size + 1) rfl rfl (RAt.there (R2.out.far (by simp) _)) ?_; intro w4 hw4; have R4 := Lib.hid (hw4 ▸ RAt.store (R2.out.far (p := ⟨w.heap.size, 1 + k, none⟩) (by simp) (.bool b)) n m2); have B4 := Lib.hid (hw4 ▸ below_setCells (Nat.le_succ _) _ _ (B2.out.setCell (p := ⟨w.heap.size, 1 + k, none⟩) (Nat.le_refl _) (.bool b)) : Below w.heap.size w w4); clear hw4))
    exact bodyPost_ret (results_two Tryz.results40 rfl rfl R4.out) rfl ⟨rfl, B4.out⟩
  · have hN : putN n i = 0 := by unfold putN; rw [if_neg h1]
    have hE : putE n i = 2 := by unfold putE; rw [if_neg h1]
    rw [hN, hE, setM_out h1]
    clear hm hN hE
    by_cases h2 : i < 0
    · have h3 : decide (i < 0) = true := by simpa using h2
      clear h1
      go_enter Tryz.func40, Tryz.ntmps40
      go_wp2_with (first
        | (refine wpList_box30 rfl _ rfl rfl ?_; intro w1 hw1; have H1 := Lib.hid (hw1 ▸ rat_new w n m); have B1 := Lib.hid (hw1 ▸ bel1 w _ : Below w.heap.size w w1); have hs1 : w1.heap.size = w.heap.size + 1 := (by rw [hw1]; exact size1 _ _); clear hw1)
        | (refine wpList_alloc30 rfl rfl ?_; intro w2 hw2; have R2 := Lib.hid (hs1 ▸ hw2 ▸ rat_new w1 0 0 : RAt w2 (w.heap.size + 1) 0 0); have H2 := Lib.hid (hw2 ▸ H1.out.alloc _ : RAt w2 w.heap.size n m); have B2 := Lib.hid (hw2 ▸ (B1.out.alloc B1.out.size _) : Below w.heap.size w w2); have z0 := H2.out.c0; clear hw2)
        | (refine wpList_build30 rfl rfl ?_)
        | (refine wpList_store30 rfl _ _ rfl (w.heap.size + 1) rfl rfl R2.out.there ?_; intro w4 hw4; have R4 := Lib.hid (hw4 ▸ RAt.store R2.out 0 0); have B4 := Lib.hid (hw4 ▸ below_setCells (Nat.le_succ _) _ _ B2.out : Below w.heap.size w w4); clear hw4))
      exact bodyPost_ret (results_two Tryz.results40 rfl rfl R4.out) rfl ⟨rfl, B4.out⟩
    · have h3 : decide (i < 0) = false := by simpa using h2
      have h4 : (n : Int) ≤ i := by omega
      clear h1 h2
      go_enter Tryz.func40, Tryz.ntmps40
      go_wp2_with (first
        | (refine wpList_box30 rfl _ rfl rfl ?_; intro w1 hw1; have H1 := Lib.hid (hw1 ▸ rat_new w n m); have B1 := Lib.hid (hw1 ▸ bel1 w _ : Below w.heap.size w w1); have hs1 : w1.heap.size = w.heap.size + 1 := (by rw [hw1]; exact size1 _ _); clear hw1)
        | (refine wpList_alloc30 rfl rfl ?_; intro w2 hw2; have R2 := Lib.hid (hs1 ▸ hw2 ▸ rat_new w1 0 0 : RAt w2 (w.heap.size + 1) 0 0); have H2 := Lib.hid (hw2 ▸ H1.out.alloc _ : RAt w2 w.heap.size n m); have B2 := Lib.hid (hw2 ▸ (B1.out.alloc B1.out.size _) : Below w.heap.size w w2); have z0 := H2.out.c0; clear hw2)
        | (refine wpList_build30 rfl rfl ?_)
        | (refine wpList_store30 rfl _ _ rfl (w.heap.size + 1) rfl rfl R2.out.there ?_; intro w4 hw4; have R4 := Lib.hid (hw4 ▸ RAt.store R2.out 0 0); have B4 := Lib.hid (hw4 ▸ below_setCells (Nat.le_succ _) _ _ B2.out : Below w.heap.size w w4); clear hw4))
      exact bodyPost_ret (results_two Tryz.results40 rfl rfl R4.out) rfl ⟨rfl, B4.out⟩

theorem rhas_any (n m : Nat) (i : Int) (w : World) (hn : n ≤ 64) : Calls Tryz.prog 53 #[RV n m, .int .i64 i] w fun e w' => e = .returned (.bool (has n m i)) ∧ Below w.heap.size w w' := by
  unfold has
  by_cases h1 : 0 ≤ i ∧ i < (n : Int)
  · rw [decide_eq_true h1]
    obtain ⟨h2, h3⟩ := h1
    obtain ⟨k, rfl⟩ := Int.eq_ofNat_of_zero_le h2
    have hk : k < n := by omega
    have hk64 : (k : Int) < 64 := by omega
    have hk64N : k < 64 := by omega
    rw [Int.toNat_natCast, Bool.true_and]
    generalize hv : m.testBit k = v
    have Hv := Lib.hid hv
    clear hv
    go_enter Tryz.func53, Tryz.ntmps53
    go_wp2_with (refine wpList_box30 rfl _ rfl rfl ?_; intro w1 hw1; have H1 := Lib.hid (hw1 ▸ rat_new w n m); have B1 := Lib.hid (hw1 ▸ bel1 w _ : Below w.heap.size w w1); have z0 := H1.out.c0; have z1 := H1.out.bit hk64N; rw [Hv.out] at z1; clear hw1)
    go_ret
    exact ⟨rfl, B1.out⟩
  · rw [decide_eq_false h1, Bool.false_and]
    by_cases h2 : 0 ≤ i
    · have h3 : decide (i < (n : Int)) = false := by simp; omega
      clear h1
      go_enter Tryz.func53, Tryz.ntmps53
      go_wp2_with (refine wpList_box30 rfl _ rfl rfl ?_; intro w1 hw1; have H1 := Lib.hid (hw1 ▸ rat_new w n m); have B1 := Lib.hid (hw1 ▸ bel1 w _ : Below w.heap.size w w1); have z0 := H1.out.c0; clear hw1)
      go_ret
      exact ⟨rfl, B1.out⟩
    · have h3 : decide (0 ≤ i) = false := by simpa using h2
      clear h1
      go_enter Tryz.func53, Tryz.ntmps53
      go_wp2_with (refine wpList_box30 rfl _ rfl rfl ?_; intro w1 hw1; have H1 := Lib.hid (hw1 ▸ rat_new w n m); have B1 := Lib.hid (hw1 ▸ bel1 w _ : Below w.heap.size w w1); have z0 := H1.out.c0; clear hw1)
      go_ret
      exact ⟨rfl, B1.out⟩
end Go.Proofs.YtcofahpeinkhfaaGreat.B
namespace Go.Proofs.YtcofahpeinkhfaaGreat.B
open Go.RowKit
set_option linter.unusedVariables false
set_option linter.unusedSimpArgs false
set_option maxRecDepth 20000

set_option maxHeartbeats 1000000 in
theorem rall_any (n m : Nat) (w : World) (hn : n ≤ 64) : Calls Tryz.prog 45 #[RV n m] w fun e w' => ∃ a cap, e = .returned (.slice a (M.all n m).length cap) ∧ Row w' a (M.all n m).length cap (ints (M.all n m)) ∧ Below w.heap.size w w' := by
  have hnI : (n : Int) ≤ 64 := by omega
  go_enter Tryz.func45, Tryz.ntmps45
  go_wp2_with (refine wpList_box30 rfl _ rfl rfl ?_; intro w1 hw1; have H1 := Lib.hid (hw1 ▸ rat_new w n m); have B1 := Lib.hid (hw1 ▸ bel1 w _ : Below w.heap.size w w1); have hs1 : w1.heap.size = w.heap.size + 1 := (by rw [hw1]; exact size1 _ _); clear hw1)
  have ho := own_lit 3 w1 (w.heap.size + 1) [] (by omega) (by simp)
  rw [hs1] at ho
  have O3 := Lib.hid ho
  have H2 := Lib.hid (H1.out.alloc (.cells #[] 3))
  have B2 := Lib.hid (B1.out.alloc B1.out.size (.cells #[] 3))
  clear ho
  generalize hgw : w1.alloc (.cells #[] 3) = w2 at *
  have ho2 := O3.out
  go_loopw [3, 4] (fun v t wr => ∃ (k c cap : Nat) (a : Option Addr), k ≤ n ∧ t = .int .i64 k ∧ v = .slice a c cap ∧ c = (M.all k m).length ∧ Own 3 wr (w.heap.size + 1) a c cap (ints (M.all k m)) ∧ RAt wr w.heap.size n m ∧ Below w.heap.size w wr) (fun _ t _ => n - (intOf t).toNat)
  case atStart => exact ⟨0, 0, 0, _, by omega, rfl, rfl, rfl, ho2, H2.out, B2.out⟩
  case round =>
    obtain ⟨k, c, cap, a, hk, rfl, rfl, hc, ho, hat, hbw⟩ := hrel
    have Ho := Lib.hid ho
    have Hat := Lib.hid hat
    have Hbw := Lib.hid hbw
    have hcl : c ≤ 64 := by have := M.all_len k m; omega
    have Hc := Lib.hid hc
    have z0 := hat.c0
    clear ho hbw hat hc ho2 hs1
    by_cases hlt : k < n
    · have hk64 : (k : Int) < 64 := by omega
      have z1 := Hat.out.bit (k := k) (by omega)
      have HY := Lib.hid (@M.all_yes k m)
      have HN := Lib.hid (@M.all_no k m)
      generalize hv : m.testBit k = v at *
      cases v with
      | true =>
        have HM2 := Lib.hid (HY.out rfl)
        clear hv HY HN
        go_wp2_with (at_builtin
                     have Ho1 := Lib.hid (own_alloc Ho.out (.cells #[.int .i64 (k : Int)] 3))
                     refine wpList_append_int _ rfl (.tmp 16) (.tmp 18) rfl (w.heap.size + 1) a c cap (M.all k m) rfl Ho1.out _ 1 k rfl (row_one _ 3 _) (by omega) (by have := Hat.out.lt; simp; omega) ?_
                     intro a2 cap2 w4 ho2 hb2
                     have Ho2 := Lib.hid ho2
                     have Hb2 := Lib.hid hb2
                     clear ho2 hb2 Ho1)
        go_roundw
        case rel => exact ⟨k + 1, c + 1, cap2, a2, by omega, by go_num, rfl, by rw [HM2.out, Hc.out]; simp, by rw [HM2.out]; exact Ho2.out, (Hat.out.alloc _).below Hb2.out (by omega), (Hbw.out.alloc Hbw.out.size _).trans (Hb2.out.mono (by omega))⟩
        case measure => simp [intOf]; omega
      | false =>
        have HM2 := Lib.hid (HN.out rfl)
        clear hv HY HN
        go_wp2
        go_roundw
        case rel => exact ⟨k + 1, c, cap, a, by omega, by go_num, rfl, by rw [HM2.out]; exact Hc.out, by rw [HM2.out]; exact Ho.out, Hat.out, Hbw.out⟩
        case measure => simp [intOf]; omega
    · obtain rfl : n = k := by omega
      have hnn : decide (n < n) = false := by simp
      clear hlt
      go_wp2
      go_ret
      refine ⟨a, cap, ?_, by rw [← Hc.out]; exact (own_row Ho.out).1, Hbw.out⟩
      show Ending.returned (.slice a c cap) = _
      rw [Hc.out]

theorem or_step {m j i : Nat} : ∀ x, (m ||| j % 2 ^ (i + 1)).testBit x = if x = i then (m.testBit i || j.testBit i) else (m ||| j % 2 ^ i).testBit x := fun x => by
  rw [Nat.testBit_or, Nat.testBit_or, Nat.testBit_mod_two_pow, Nat.testBit_mod_two_pow]
  by_cases e : x = i
  · subst e; simp
  · rw [if_neg e]
    by_cases h : x < i
    · have h2 : x < i + 1 := by omega
      simp [h, h2]
    · have h2 : ¬ x < i + 1 := by omega
      simp [h, h2]
theorem or_at {m j i : Nat} : (m ||| j % 2 ^ i).testBit i = m.testBit i := by
  rw [Nat.testBit_or, Nat.testBit_mod_two_pow]
  simp

end Go.Proofs.YtcofahpeinkhfaaGreat.B
namespace Go.Proofs.YtcofahpeinkhfaaGreat.B
open Go.RowKit
set_option linter.unusedVariables false
set_option linter.unusedSimpArgs false
set_option maxRecDepth 20000

/-- the upper k of eight bits from place i on -/
def top (m i k : Nat) : Nat := m / 2 ^ (i + (8 - k)) % 2 ^ k
theorem top_succ {m i k : Nat} (hk : k < 8) : top m i (k + 1) = top m i k * 2 + (if m.testBit (i + (7 - k)) then 1 else 0) := by
  unfold top
  have e : 8 - k = (7 - k) + 1 := by omega
  have e2 : 8 - (k + 1) = 7 - k := by omega
  rw [e, e2, M.bit_is]
  generalize hp : i + (7 - k) = p
  have e3 : i + (7 - k + 1) = p + 1 := by omega
  rw [e3]
  have h1 : m / 2 ^ (p + 1) = m / 2 ^ p / 2 := by rw [Nat.pow_succ, Nat.div_div_eq_div_mul]
  rw [h1, Nat.pow_succ]
  generalize m / 2 ^ p = x
  have hx : x % (2 ^ k * 2) = x / 2 % 2 ^ k * 2 + x % 2 := by
    have := Nat.mod_mul_left_div_self x (2 ^ k) 2
    have h4 := Nat.div_add_mod x 2
    have h5 : x % (2 ^ k * 2) = x % 2 + 2 * (x / 2 % 2 ^ k) := by rw [Nat.mul_comm, Nat.mod_mul]
    omega
  rw [hx]
  by_cases h : x % 2 = 1
  · simp [h]
  · have : x % 2 = 0 := by omega
    simp [this]
theorem top_lt (m i k : Nat) : top m i k < 2 ^ k := Nat.mod_lt _ (Nat.pow_pos (by omega))
theorem top_all (m j : Nat) : UInt8.ofNat (top m (8 * j) 8) = M.byte m j := by
  unfold top M.byte
  rw [show 8 * j + (8 - 8) = 8 * j by omega, Nat.shiftRight_eq_div_pow]
  apply UInt8.toNat_inj.1
  rw [UInt8.toNat_ofNat', UInt8.toNat_ofNat']
  simp
theorem bytes_succ (j m : Nat) : M.bytes (j + 1) m = M.bytes j m ++ [M.byte m j] := by simp [M.bytes, List.range_succ]
/-- a place behind is not marked -/
theorem has_is {n m k : Nat} (hm : m < 2 ^ n) : has n m (k : Int) = m.testBit k := by
  by_cases h : k < n
  · exact has_bit h
  · unfold has
    rw [Int.toNat_natCast, M.bit_off hm (by omega)]
    simp

theorem wpList_append_byte (w : World) {ops : Array Oper} {rest : List Oper} {o : Oper} {act : Act} {Q : Exit → Act → World → Prop} (hgd : o.guard = none) (s x : Operand)
    (ho : o.op = .call { callee := .builtin .append, args := #[s, x], argTypes := #[47, 47] })
    (B : Nat) (a : Option Addr) (n cap : Nat) (l : List UInt8) (hs : act.eval s = .slice a n cap) (hown : Own 5 w B a n cap (u8s l)) (A : Option Addr) (c : Nat) (k : UInt8) (hx : act.eval x = .slice A 1 c) (hr : Row w A 1 c (u8s [k]))
    (hsum : n + 1 ≤ 1048576) (hB : B ≤ w.heap.size)
    (h : ∀ a' cap' w', Own 5 w' B a' (n + 1) cap' (u8s (l ++ [k])) → Below B w w' → wpList Tryz.prog ops Q rest (act.put o.dst (.slice a' (n + 1) cap')) w') : wpList Tryz.prog ops Q (o :: rest) act w := by
  refine wpList_plain hgd fun K hK => ?_
  obtain ⟨a', cap', w', hrun, h2, h3, _⟩ := run_append_u8 w o.type B a n cap l hown A 1 c [k] hr hsum hB
  unfold Oper.wp execOp
  simp only [ho, resolve, invoke, builtin, Sem.run_bind, Sem.run_pure, Result.andThen_ok, List.map_toArray, List.map_cons, List.map_nil, hs, hx, hrun]
  exact hK _ _ (h a' cap' w' h2 h3)
theorem row_byte (w : World) (T : Nat) (h : (T : Int) = ((UInt8.ofNat T).toNat : Int)) : Row (w.alloc (.cells #[.int .u8 (T : Int)] 5)) (some ⟨w.heap.size, 0, none⟩) 1 1 (u8s [UInt8.ofNat T]) := by
  have := row_one w 5 (.int .u8 (T : Int))
  show Row _ _ 1 1 [.int .u8 ((UInt8.ofNat T).toNat : Int)]
  rw [← h]
  exact this

set_option maxHeartbeats 2000000 in
theorem rtext_any (n m : Nat) (w : World) (hn : n ≤ 64) (hm : m < 2 ^ n) : Calls Tryz.prog 28 #[RV n m] w fun e w' => e = .returned (.string (str (M.txt n m))) ∧ Below w.heap.size w w' := by
  have hnI : (n : Int) ≤ 64 := by omega
  have hw8 : IntKind.u8.wrap (n : Int) = (n : Int) := by rw [IntKind.wrap_u8']; omega
  have HH : ∀ (k : Nat) (b : Bool) (w : World), m.testBit k = b → Calls Tryz.prog 53 #[RV n m, .int .i64 (k : Int)] w fun e w' => e = .returned (.bool b) ∧ Below w.heap.size w w' := fun k b w hb => by
    have := rhas_any n m (k : Int) w hn
    rw [has_is hm, hb] at this
    exact this
  clear hm
  go_enter Tryz.func28, Tryz.ntmps28
  go_wp2_with (refine wpList_box30 rfl _ rfl rfl ?_; intro w1 hw1; have H1 := Lib.hid (hw1 ▸ rat_new w n m); have B1 := Lib.hid (hw1 ▸ bel1 w _ : Below w.heap.size w w1); have hs1 : w1.heap.size = w.heap.size + 1 := (by rw [hw1]; exact size1 _ _); have z0 := H1.out.c0; clear hw1)
  have hc8 : ((UInt8.ofNat n).toNat : Int) = (n : Int) := by rw [UInt8.toNat_ofNat']; omega
  have ho := own_lit 5 w1 (w.heap.size + 1) (u8s [UInt8.ofNat n]) (by omega) (by simp [u8s])
  have e1 : (u8s [UInt8.ofNat n]).toArray = #[.int .u8 (n : Int)] := by
    show #[Value.int .u8 ((UInt8.ofNat n).toNat : Int)] = _
    rw [hc8]
  rw [e1, hs1] at ho
  have ho2 : Own 5 (w1.alloc (.cells #[.int .u8 (n : Int)] 5)) (w.heap.size + 1) (some ⟨w.heap.size + 1, 0, none⟩) (1 + 0) 1 (u8s (UInt8.ofNat n :: M.bytes 0 m)) := ho
  have O3 := Lib.hid ho2
  have H2 := Lib.hid (H1.out.alloc (.cells #[.int .u8 (n : Int)] 5))
  have B2 := Lib.hid (B1.out.alloc B1.out.size (.cells #[.int .u8 (n : Int)] 5))
  clear ho ho2 e1 hc8 z0 H1 B1 hs1
  generalize w1.alloc (.cells #[.int .u8 (n : Int)] 5) = w2 at *
  go_loopw [3, 4] (fun v t wr => ∃ (j cap : Nat) (a : Option Addr), j ≤ (n + 7) / 8 ∧ t = .int .i64 ((8 * j : Nat) : Int) ∧ v = .slice a (1 + j) cap ∧ Own 5 wr (w.heap.size + 1) a (1 + j) cap (u8s (UInt8.ofNat n :: M.bytes j m)) ∧ RAt wr w.heap.size n m ∧ Below w.heap.size w wr) (fun _ t _ => n + 8 - (intOf t).toNat)
  case atStart => exact ⟨0, 1, _, by omega, rfl, rfl, O3.out, H2.out, B2.out⟩
  case round =>
    obtain ⟨j, cap, a, hj, rfl, rfl, ho, hat, hbw⟩ := hrel
    have Ho := Lib.hid ho
    have Hat := Lib.hid hat
    have Hbw := Lib.hid hbw
    have z0 := hat.c0
    clear ho hat hbw O3 H2 B2
    by_cases hlt : 8 * j < n
    · have h8 : 8 * j < 64 := by omega
      generalize hp : 8 * j = p at *
      have Hp := Lib.hid hp
      have hpI : (p : Int) < 64 := by omega
      clear hp
      go_wp2
      go_loopw [5, 6] (fun x t wx => ∃ q : Nat, q ≤ 8 ∧ t = .int .i64 (7 - (q : Int)) ∧ x = .int .u8 ((top m p q : Nat) : Int) ∧ Own 5 wx (w.heap.size + 1) a (1 + j) cap (u8s (UInt8.ofNat n :: M.bytes j m)) ∧ RAt wx w.heap.size n m ∧ Below w.heap.size w wx) (fun _ t _ => (intOf t + 1).toNat)
      case atStart => exact ⟨0, by omega, rfl, by simp [top, Nat.mod_one], Ho.out, Hat.out, Hbw.out⟩
      case round =>
        obtain ⟨q, hq, rfl, rfl, ho, hat, hbw⟩ := hrel
        have Ho2 := Lib.hid ho
        have Hat2 := Lib.hid hat
        have Hbw2 := Lib.hid hbw
        have hsz := hat.lt
        clear ho hat hbw
        by_cases hq8 : q < 8
        · have hTs := top_succ (m := m) (i := p) hq8
          have hTl := top_lt m p q
          have hT128 : top m p q < 128 := Nat.lt_of_lt_of_le hTl (Nat.pow_le_pow_right (by omega) (show q ≤ 7 by omega))
          have hTI : ((top m p q : Nat) : Int) < 128 := by omega
          have hT0 : (0 : Int) ≤ ((top m p q : Nat) : Int) := by omega
          have hq7 : (q : Int) ≤ 7 := by omega
          have hq0 : (0 : Int) ≤ (q : Int) := by omega
          have hge : decide ((0 : Int) ≤ 7 - (q : Int)) = true := by simp; omega
          have HC : ∀ b, m.testBit (p + (7 - q)) = b → ∀ w, Hid (Calls Tryz.prog 53 #[RV n m, .int .i64 ((p : Int) + (7 - (q : Int)))] w fun e w' => e = .returned (.bool b) ∧ Below w.heap.size w w') := fun b hb w => Lib.hid (by
            have := HH (p + (7 - q)) b w hb
            rw [show ((p + (7 - q) : Nat) : Int) = (p : Int) + (7 - (q : Int)) by omega] at this
            exact this)
          generalize hTv : top m p q = T at *
          clear hTv hTl hT128
          cases hb : m.testBit (p + (7 - q)) with
          | true =>
            have HC2 := HC true hb
            rw [hb, if_pos rfl] at hTs
            have HT := Lib.hid hTs
            clear hb hTs HC HH
            go_wp2_with (first
              | (refine wpList_load30 rfl _ rfl w.heap.size rfl Hat2.out ?_)
              | (go_at_call 53; ((with_reducible refine (HC2 _).out.mono ?_); rintro e w5 ⟨rfl, hb⟩); have Ho3 := Lib.hid (own_below Ho2.out hb (Nat.le_refl _)); have Hat3 := Lib.hid (Hat2.out.below hb hsz); have Hbw3 := Lib.hid (below_up Hbw2.out hb Hbw2.out.size); clear hb))
            go_roundw
            case rel => exact ⟨q + 1, by omega, by first | go_num | (congr 1; omega), by rw [HT.out]; first | go_num | (congr 1; omega), Ho3.out, Hat3.out, Hbw3.out⟩
            case measure => simp [intOf]; omega
          | false =>
            have HC2 := HC false hb
            rw [hb, if_neg (by simp)] at hTs
            have HT := Lib.hid hTs
            clear hb hTs HC HH
            go_wp2_with (first
              | (refine wpList_load30 rfl _ rfl w.heap.size rfl Hat2.out ?_)
              | (go_at_call 53; ((with_reducible refine (HC2 _).out.mono ?_); rintro e w5 ⟨rfl, hb⟩); have Ho3 := Lib.hid (own_below Ho2.out hb (Nat.le_refl _)); have Hat3 := Lib.hid (Hat2.out.below hb hsz); have Hbw3 := Lib.hid (below_up Hbw2.out hb Hbw2.out.size); clear hb))
            go_roundw
            case rel => exact ⟨q + 1, by omega, by first | go_num | (congr 1; omega), by rw [HT.out]; first | go_num | (congr 1; omega), Ho3.out, Hat3.out, Hbw3.out⟩
            case measure => simp [intOf]; omega
        · obtain rfl : q = 8 := by omega
          have hge : decide ((0 : Int) ≤ 7 - ((8 : Nat) : Int)) = false := by decide
          have htp := top_all m j
          rw [Hp.out] at htp
          have htl := top_lt m p 8
          generalize top m p 8 = T at *
          have hTn : (T : Int) = ((UInt8.ofNat T).toNat : Int) := by rw [UInt8.toNat_ofNat']; omega
          have HTn := Lib.hid hTn
          have HB := Lib.hid (bytes_succ j m)
          rw [← htp] at HB
          clear htp htl HH hTn
          go_wp2_with (at_builtin
                       have Ho1 := Lib.hid (own_below Ho2.out (bel1 _ (.cells #[.int .u8 (T : Int)] 5)) (Nat.le_refl _))
                       refine wpList_append_byte _ rfl (.tmp 30) (.tmp 32) rfl (w.heap.size + 1) a (1 + j) cap (UInt8.ofNat n :: M.bytes j m) rfl Ho1.out _ 1 (UInt8.ofNat T) rfl (row_byte _ T HTn.out) (by omega) (by simp; omega) ?_
                       intro a2 cap2 w7 ho2 hb2
                       have Ho3 := Lib.hid ho2
                       have Hb3 := Lib.hid hb2
                       clear ho2 hb2)
          go_roundw
          case rel => exact ⟨j + 1, cap2, a2, by have := Hp.out; omega, by have := Hp.out; first | go_num | (congr 1; omega), by congr 1 <;> omega, by rw [HB.out, ← Nat.add_assoc]; exact Ho3.out, (Hat2.out.alloc _).below Hb3.out (by omega), (Hbw2.out.alloc Hbw2.out.size _).trans (Hb3.out.mono (by omega))⟩
          case measure => simp [intOf]; omega
    · have hje : j = (n + 7) / 8 := by omega
      have hcv := run_string_bytes (own_row Ho.out).1
      rw [hje] at hcv
      have hnl : decide (((8 * j : Nat) : Int) < (n : Int)) = false := by simp; omega
      have hnl2 : decide (8 * j < n) = false := by simp; omega
      clear hlt HH
      subst hje
      go_wp2
      go_ret
      exact ⟨rfl, Hbw.out⟩
end Go.Proofs.YtcofahpeinkhfaaGreat.B
namespace Go.Proofs.YtcofahpeinkhfaaGreat.B
open Go.RowKit
set_option linter.unusedVariables false
set_option linter.unusedSimpArgs false
set_option maxRecDepth 20000

theorem rload_empty (s : ByteArray) (w : World) (h0 : s.size = 0) : Calls Tryz.prog 35 #[.string s] w fun e w' => e = .returned (.tuple #[RV 0 0, .int .i64 4]) ∧ Below w.heap.size w w' := by
  have h2 : ((s.size : Int) == 0) = true := by simp [h0]
  go_enter Tryz.func35, Tryz.ntmps35
  go_wp2_with (first
    | (refine wpList_alloc30 rfl rfl ?_; intro w1 hw1; have H1 := Lib.hid (hw1 ▸ rat_new w 0 0); have B1 := Lib.hid (hw1 ▸ bel1 w _ : Below w.heap.size w w1); clear hw1)
    | (refine wpList_build30 rfl rfl ?_)
    | (refine wpList_store30 rfl _ _ rfl w.heap.size rfl rfl H1.out.there ?_; intro w2 hw2; have H2 := Lib.hid (hw2 ▸ H1.out.store 0 0); have B2 := Lib.hid (hw2 ▸ below_setCells (Nat.le_refl _) _ _ B1.out : Below w.heap.size w w2); clear hw2))
  exact bodyPost_ret (results_two Tryz.results35 rfl rfl H2.out) rfl ⟨rfl, B2.out⟩

theorem rload_great (s : ByteArray) (w : World) (h0 : 0 < s.size) (hm : s.size ≤ maxLen) (h1 : 64 < s[0].toNat) : Calls Tryz.prog 35 #[.string s] w fun e w' => e = .returned (.tuple #[RV 0 0, .int .i64 4]) ∧ Below w.heap.size w w' := by
  have h2 : ((s.size : Int) == 0) = false := beq_eq_false_iff_ne.2 (by omega)
  have h3 : (64 : Int) < (s[0].toNat : Int) := by omega
  unfold maxLen at hm
  go_enter Tryz.func35, Tryz.ntmps35
  go_wp2_with (first
    | (refine wpList_alloc30 rfl rfl ?_; intro w1 hw1; have H1 := Lib.hid (hw1 ▸ rat_new w 0 0); have B1 := Lib.hid (hw1 ▸ bel1 w _ : Below w.heap.size w w1); clear hw1)
    | (refine wpList_build30 rfl rfl ?_)
    | (refine wpList_store30 rfl _ _ rfl w.heap.size rfl rfl H1.out.there ?_; intro w2 hw2; have H2 := Lib.hid (hw2 ▸ H1.out.store 0 0); have B2 := Lib.hid (hw2 ▸ below_setCells (Nat.le_refl _) _ _ B1.out : Below w.heap.size w w2); clear hw2))
  exact bodyPost_ret (results_two Tryz.results35 rfl rfl H2.out) rfl ⟨rfl, B2.out⟩

theorem rload_long (s : ByteArray) (w : World) (h0 : 0 < s.size) (hm : s.size ≤ 281474976710656) (h1 : ¬ 64 < s[0].toNat) (h2 : s.size ≠ M.size s[0].toNat) : Calls Tryz.prog 35 #[.string s] w fun e w' => e = .returned (.tuple #[RV 0 0, .int .i64 4]) ∧ Below w.heap.size w w' := by
  have h4 : ((s.size : Int) == 0) = false := beq_eq_false_iff_ne.2 (by omega)
  have h3 : decide ((64 : Int) < (s[0].toNat : Int)) = false := by simp; omega
  have hI : (s[0].toNat : Int) ≤ 64 := by omega
  have hmI : (s.size : Int) ≤ 281474976710656 := by omega
  have hpI : (1 : Int) ≤ (s.size : Int) := by omega
  have HN : ∀ w, Hid (Calls Tryz.prog 34 #[.int .i64 (s[0].toNat : Int)] w fun e w' => e = .returned (RV s[0].toNat 0) ∧ Below w.heap.size w w') := fun w => Lib.hid (by
    have := rnew_any (s[0].toNat : Int) w
    rw [show M.len (s[0].toNat : Int) = s[0].toNat by unfold M.len; rw [if_pos ⟨by omega, by omega⟩]; simp] at this
    exact this)
  have h5 : ((s.size : Int) - 1 != ((s[0].toNat : Int) + 7) / 8) = true := by unfold M.size at h2; simp; omega
  clear h1 h2
  go_enter Tryz.func35, Tryz.ntmps35
  go_wp2_with (first
    | (refine wpList_alloc30 rfl (o := ⟨some 2, _, _, _, _, _⟩) rfl ?_; intro w1 hw1; have H1 := Lib.hid (hw1 ▸ rat_new w 0 0); have B1 := Lib.hid (hw1 ▸ bel1 w _ : Below w.heap.size w w1); clear hw1)
    | (go_at_call 34; ((with_reducible refine (HN _).out.mono ?_); rintro e w3 ⟨rfl, hb⟩); have H3 := Lib.hid (H1.out.below hb H1.out.lt); have B3 := Lib.hid (below_up B1.out hb B1.out.size); have hs3 := H3.out.lt; clear hb)
    | (refine wpList_alloc30 rfl (o := ⟨some 4, _, _, _, _, _⟩) rfl ?_; intro w4 hw4; have K4 := Lib.hid (hw4 ▸ rat_new w3 0 0 : RAt w4 w3.heap.size 0 0); have H4 := Lib.hid (hw4 ▸ H3.out.alloc _ : RAt w4 w.heap.size 0 0); have B4 := Lib.hid (hw4 ▸ (B3.out.alloc B3.out.size _) : Below w.heap.size w w4); clear hw4)
    | (refine wpList_build30 rfl rfl ?_)
    | (refine wpList_store30 rfl (.tmp 4) _ rfl w3.heap.size rfl rfl K4.out.there ?_; intro w5 hw5; have K5 := Lib.hid (hw5 ▸ K4.out.store s[0].toNat 0 : RAt w5 w3.heap.size s[0].toNat 0); have H5 := Lib.hid (hw5 ▸ H4.out.of_block (heap_setCells _ _ _ _ _ (by omega)) : RAt w5 w.heap.size 0 0); have B5 := Lib.hid (hw5 ▸ below_setCells (by omega) _ _ B4.out : Below w.heap.size w w5); have z0 := K5.out.c0; clear hw5)
    | (refine wpList_store30 rfl (.tmp 2) _ rfl w.heap.size rfl rfl H5.out.there ?_; intro w6 hw6; have H6 := Lib.hid (hw6 ▸ H5.out.store 0 0 : RAt w6 w.heap.size 0 0); have B6 := Lib.hid (hw6 ▸ below_setCells (Nat.le_refl _) _ _ B5.out : Below w.heap.size w w6); clear hw6))
  exact bodyPost_ret (results_two Tryz.results35 rfl rfl H6.out) rfl ⟨rfl, B6.out⟩
end Go.Proofs.YtcofahpeinkhfaaGreat.B
namespace Go.Proofs.YtcofahpeinkhfaaGreat.B
open Go.RowKit
set_option linter.unusedVariables false
set_option linter.unusedSimpArgs false
set_option maxRecDepth 20000

theorem lt_of_bits {V N L : Nat} (hV : V < 2 ^ L) (h : ∀ x, N ≤ x → x < L → V.testBit x = false) : V < 2 ^ N := by
  refine Nat.lt_pow_two_of_testBit V fun i hi => ?_
  rcases Nat.lt_or_ge i L with hl | hl
  · exact h i hi hl
  · exact M.bit_off hV hl
theorem half_bit (y : UInt8) (k : Nat) : (((y.toNat / 2 ^ k : Nat) : Int) % 2 == 1) = y.toNat.testBit k := by
  rw [M.bit_is]
  rcases Nat.mod_two_eq_zero_or_one (y.toNat / 2 ^ k) with h | h
  · have : ((y.toNat / 2 ^ k : Nat) : Int) % 2 = 0 := by omega
    rw [this, h]; simp
  · have : ((y.toNat / 2 ^ k : Nat) : Int) % 2 = 1 := by omega
    rw [this, h]; simp

set_option maxHeartbeats 4000000 in
theorem rload_read (s : ByteArray) (w : World) (h0 : 0 < s.size) (h1 : ¬ 64 < s[0].toNat) (h2 : s.size = M.size s[0].toNat) (c : UInt8) (r : List UInt8) (hcr : s.data.toList = c :: r) : Calls Tryz.prog 35 #[.string s] w fun e w' => e = .returned (.tuple #[RV (M.loadN (c :: r)) (M.loadM (c :: r)), .int .i64 (M.loadE (c :: r))]) ∧ Below w.heap.size w w' := by
  have hc0 : s[0] = c := by
    have : s.data.toList[0]? = some c := by rw [hcr]; rfl
    have h3 : s.data.toList[0]? = some s[0] := by
      rw [Array.getElem?_toList]
      exact Array.getElem?_eq_getElem (by simpa using h0)
    rw [h3] at this
    injection this
  have hget : ∀ j (hj : 1 + j < s.size), r[j]? = some s[1 + j] := fun j hj => by
    have h3 : s.data.toList[1 + j]? = some s[1 + j] := by
      rw [Array.getElem?_toList]
      exact Array.getElem?_eq_getElem (by simpa using hj)
    rw [← h3, hcr, Nat.add_comm 1 j, List.getElem?_cons_succ]
  have hr : r.length = (c.toNat + 7) / 8 := by
    have h3 : s.data.toList.length = s.size := by simp
    rw [hcr, List.length_cons, h2, hc0] at h3
    unfold M.size at h3
    omega
  have hsz : s.size = 1 + r.length := by rw [h2, hr, hc0]; rfl
  have hVL := M.val_lt r
  have h4 : ((s.size : Int) == 0) = false := beq_eq_false_iff_ne.2 (by omega)
  have h3 : decide ((64 : Int) < (s[0].toNat : Int)) = false := by simp; omega
  have hI : (s[0].toNat : Int) ≤ 64 := by omega
  have hs9 : s.size ≤ 9 := by rw [h2]; unfold M.size; omega
  have hmI : (s.size : Int) ≤ 9 := by omega
  have hpI : (1 : Int) ≤ (s.size : Int) := by omega
  have HN : ∀ w, Hid (Calls Tryz.prog 34 #[.int .i64 (s[0].toNat : Int)] w fun e w' => e = .returned (RV s[0].toNat 0) ∧ Below w.heap.size w w') := fun w => Lib.hid (by
    have := rnew_any (s[0].toNat : Int) w
    rw [show M.len (s[0].toNat : Int) = s[0].toNat by unfold M.len; rw [if_pos ⟨by omega, by omega⟩]; simp] at this
    exact this)
  have h5 : ((s.size : Int) - 1 != ((s[0].toNat : Int) + 7) / 8) = false := by unfold M.size at h2; simp; omega
  have HG := Lib.hid hget
  have HR := Lib.hid hr
  have HC := Lib.hid hc0
  have HSZ := Lib.hid hsz
  have HVL := Lib.hid hVL
  have hN64 : s[0].toNat ≤ 64 := by omega
  clear h1 h2 hget hr hc0 hcr hsz hVL
  go_enter Tryz.func35, Tryz.ntmps35
  go_wp2_with (first
    | (refine wpList_alloc30 rfl (o := ⟨some 2, _, _, _, _, _⟩) rfl ?_; intro w1 hw1; have H1 := Lib.hid (hw1 ▸ rat_new w 0 0); have B1 := Lib.hid (hw1 ▸ bel1 w _ : Below w.heap.size w w1); clear hw1)
    | (go_at_call 34; ((with_reducible refine (HN _).out.mono ?_); rintro e w3 ⟨rfl, hb⟩); have H3 := Lib.hid (H1.out.below hb H1.out.lt); have B3 := Lib.hid (below_up B1.out hb B1.out.size); have hs3 := H3.out.lt; clear hb)
    | (refine wpList_alloc30 rfl (o := ⟨some 4, _, _, _, _, _⟩) rfl ?_; intro w4 hw4; have K4 := Lib.hid (hw4 ▸ rat_new w3 0 0 : RAt w4 w3.heap.size 0 0); have H4 := Lib.hid (hw4 ▸ H3.out.alloc _ : RAt w4 w.heap.size 0 0); have B4 := Lib.hid (hw4 ▸ (B3.out.alloc B3.out.size _) : Below w.heap.size w w4); clear hw4)
    | (refine wpList_store30 rfl (.tmp 4) _ rfl w3.heap.size rfl rfl K4.out.there ?_; intro w5 hw5; have K5 := Lib.hid (hw5 ▸ K4.out.store s[0].toNat 0 : RAt w5 w3.heap.size s[0].toNat 0); have H5 := Lib.hid (hw5 ▸ H4.out.of_block (heap_setCells _ _ _ _ _ (by omega)) : RAt w5 w.heap.size 0 0); have B5 := Lib.hid (hw5 ▸ below_setCells (by omega) _ _ B4.out : Below w.heap.size w w5); have z0 := K5.out.c0; clear hw5))
  clear z0 K4 H4 B4 H3 B3 H1 B1 HN
  generalize w3.heap.size = g at *
  go_loopw [5] (fun t wr => ∃ i : Nat, i ≤ 8 * r.length ∧ t = .int .i64 i ∧ RAt wr g s[0].toNat (M.val r % 2 ^ i) ∧ RAt wr w.heap.size 0 0 ∧ Below w.heap.size w wr ∧ Hid (∀ x, s[0].toNat ≤ x → x < i → (M.val r).testBit x = false)) (fun t _ => 8 * r.length - (intOf t).toNat)
  case atStart => exact ⟨0, by omega, rfl, by rw [Nat.pow_zero, Nat.mod_one]; exact K5.out, H5.out, B5.out, Lib.hid fun x _ hx => by omega⟩
  case round =>
    obtain ⟨i, hi, rfl, gk, gh, gb, HZ⟩ := hrel
    have Gk := Lib.hid gk
    have Gh := Lib.hid gh
    have Gb := Lib.hid gb
    have z0 := gk.c0
    have hszI : (s.size : Int) = 1 + (r.length : Int) := by have := HSZ.out; omega
    clear gk gh gb K5 H5 B5
    by_cases hlt : i < 8 * r.length
    · have hltI : (i : Int) < 8 * ((s.size : Int) - 1) := by omega
      have hin : 1 + i / 8 < s.size := by have := HSZ.out; omega
      have hinI : 1 + (i : Int) / 8 < (s.size : Int) := by omega
      have hin0 : 0 ≤ 1 + (i : Int) / 8 := by omega
      have htn : (1 + (i : Int) / 8).toNat = 1 + i / 8 := by omega
      have hbt : (M.val r).testBit i = s[1 + i / 8].toNat.testBit (i % 8) := by
        have h1 := M.val_bit r (i / 8) (i % 8) (by omega)
        rw [HG.out (i / 8) hin, show 8 * (i / 8) + i % 8 = i by omega] at h1
        rw [h1]
        rfl
      have hhb := half_bit s[1 + i / 8] (i % 8)
      rw [← hbt] at hhb
      have hyl : s[1 + i / 8].toNat < 256 := UInt8.toNat_lt _
      have hsy : ∀ y : Nat, s[1 + i / 8].toNat = y → True := fun _ _ => trivial
      have HHB := Lib.hid hhb
      have HSy := Lib.hid (@M.mod_succ_yes (M.val r) i)
      have HSn := Lib.hid (@M.mod_succ_no (M.val r) i)
      clear hbt hhb hsy hszI
      go_wp2
      have hy255 : (s[1 + i / 8].toNat : Int) ≤ 255 := by omega
      go_loop [6, 7] (fun x t => ∃ k : Nat, k ≤ i % 8 ∧ t = .int .i64 k ∧ x = .int .u8 ((s[1 + i / 8].toNat / 2 ^ k : Nat) : Int)) (fun _ t => i % 8 - (intOf t).toNat)
      case atStart => exact ⟨0, by omega, rfl, by simp⟩
      case round =>
        obtain ⟨k, hk, rfl, rfl⟩ := hrel
        have hdl : s[1 + i / 8].toNat / 2 ^ k ≤ s[1 + i / 8].toNat := Nat.div_le_self _ _
        have hst : s[1 + i / 8].toNat / 2 ^ k / 2 = s[1 + i / 8].toNat / 2 ^ (k + 1) := by rw [Nat.pow_succ, Nat.div_div_eq_div_mul]
        have HSt := Lib.hid hst
        clear hst
        by_cases hk8 : k < i % 8
        · have hkI : (k : Int) < (i : Int) % 8 := by omega
          have hU : ((s[1 + i / 8].toNat / 2 ^ k : Nat) : Int) ≤ 255 := by omega
          generalize hu : s[1 + i / 8].toNat / 2 ^ k = u at *
          go_wp2
          go_round
          case rel => exact ⟨k + 1, by omega, by go_num, by rw [← HSt.out]; congr 1⟩
          case measure => simp [intOf]; omega
        · have hke : k = i % 8 := by omega
          have hkI : decide ((k : Int) < (i : Int) % 8) = false := by simp; omega
          rw [← hke] at HHB
          have hU : ((s[1 + i / 8].toNat / 2 ^ k : Nat) : Int) ≤ 255 := by omega
          generalize hu : s[1 + i / 8].toNat / 2 ^ k = u at *
          have hhb := HHB.out
          clear hu hk8 hke HSt hdl HHB
          cases hb : (M.val r).testBit i with
          | true =>
            rw [hb] at hhb
            have HB := Lib.hid hb
            have HP := Lib.hid (HSy.out hb)
            clear hb HSy HSn
            by_cases hiN : i < s[0].toNat
            · have hi64 : i < 64 := by omega
              have hiNI : decide ((s[0].toNat : Int) ≤ (i : Int)) = false := by simp; omega
              have hiNN : decide (s[0].toNat ≤ i) = false := by simp; omega
              have hi64I : (i : Int) < 64 := by omega
              have c1 := Gk.out.bit (k := i) hi64
              have c2 := Gk.out.fz (1 + i)
              have HS := Lib.hid (Gk.out.setBit hi64 (m' := M.val r % 2 ^ (i + 1)) (v := true) (fun x => by
                rw [HP.out, M.put_bit]
                by_cases e : x = i
                · subst e; simp
                · have e2 : ¬ i = x := fun h => e h.symm
                  simp [e, e2]))
              go_wp2
              go_roundw
              case rel => exact ⟨i + 1, by omega, by go_num, HS.out, Gh.out.far (by simp; omega) _, Gb.out.setCell (by simp; omega) _, Lib.hid fun x h1 h2 => by
                rcases Nat.lt_or_ge x i with h | h
                · exact HZ.out x h1 h
                · omega⟩
              case measure => simp [intOf]; omega
            · have hiNI : (s[0].toNat : Int) ≤ (i : Int) := by omega
              have hl : M.load (c :: r) = none := by
                rw [M.load_cons, if_neg fun h => ?_]
                have h1 := M.bit_off h.2.2 (show c.toNat ≤ i by rw [← HC.out]; omega)
                rw [HB.out] at h1
                cases h1
              have HLd := Lib.hid hl
              clear hl
              go_wp2_with (first
                | (refine wpList_build30 rfl rfl ?_)
                | (refine wpList_store30 rfl (.tmp 2) _ rfl w.heap.size rfl rfl Gh.out.there ?_; intro w6 hw6; have H6 := Lib.hid (hw6 ▸ Gh.out.store 0 0 : RAt w6 w.heap.size 0 0); have B6 := Lib.hid (hw6 ▸ below_setCells (Nat.le_refl _) _ _ Gb.out : Below w.heap.size w w6); clear hw6))
              refine bodyPost_ret (results_two Tryz.results35 rfl rfl H6.out) rfl ⟨?_, B6.out⟩
              unfold M.loadN M.loadM M.loadE
              rw [HLd.out]
              rfl
          | false =>
            rw [hb] at hhb
            have HB := Lib.hid hb
            have HP := Lib.hid (HSn.out hb)
            clear hb HSy HSn
            go_wp2
            go_roundw
            case rel => exact ⟨i + 1, by omega, by go_num, by rw [HP.out]; exact Gk.out, Gh.out, Gb.out, Lib.hid fun x h1 h2 => by
              rcases Nat.lt_or_ge x i with h | h
              · exact HZ.out x h1 h
              · obtain rfl : x = i := by omega
                exact HB.out⟩
            case measure => simp [intOf]; omega
    · have hie : i = 8 * r.length := by omega
      have hltI : decide ((i : Int) < 8 * ((s.size : Int) - 1)) = false := by simp; omega
      have hV : M.val r % 2 ^ i = M.val r := Nat.mod_eq_of_lt (by rw [hie]; exact HVL.out)
      have hVN : M.val r < 2 ^ s[0].toNat := lt_of_bits HVL.out fun x h1 h2 => HZ.out x h1 (by omega)
      have hl : M.load (c :: r) = some (s[0].toNat, M.val r) := by
        rw [HC.out] at hVN hN64
        rw [M.load_cons, if_pos ⟨hN64, HR.out, hVN⟩, HC.out]
      have HLd := Lib.hid hl
      rw [hV] at Gk
      clear hl hV hVN hlt hszI hie
      generalize M.val r = V at *
      go_wp2_with (first
        | (refine wpList_load30 rfl _ rfl g rfl Gk.out ?_)
        | (refine wpList_store30 rfl (.tmp 2) _ rfl w.heap.size rfl rfl Gh.out.there ?_; intro w6 hw6; have H6 := Lib.hid (hw6 ▸ Gh.out.store s[0].toNat V : RAt w6 w.heap.size s[0].toNat V); have B6 := Lib.hid (hw6 ▸ below_setCells (Nat.le_refl _) _ _ Gb.out : Below w.heap.size w w6); clear hw6))
      refine bodyPost_ret (results_two Tryz.results35 rfl rfl H6.out) rfl ⟨?_, B6.out⟩
      unfold M.loadN M.loadM M.loadE
      rw [HLd.out]
      rfl

/-- Load: whatever the text is -/
theorem rload_any (s : ByteArray) (w : World) (hm : s.size ≤ 281474976710656) : Calls Tryz.prog 35 #[.string s] w fun e w' => e = .returned (.tuple #[RV (M.loadN s.data.toList) (M.loadM s.data.toList), .int .i64 (M.loadE s.data.toList)]) ∧ Below w.heap.size w w' := by
  have hsz : s.data.toList.length = s.size := by simp
  cases hcr : s.data.toList with
  | nil =>
    rw [hcr] at hsz
    exact rload_empty s w hsz.symm
  | cons c r =>
    rw [hcr, List.length_cons] at hsz
    have h0 : 0 < s.size := by omega
    have hc0 : s[0] = c := by
      have : s.data.toList[0]? = some c := by rw [hcr]; rfl
      have h3 : s.data.toList[0]? = some s[0] := by
        rw [Array.getElem?_toList]
        exact Array.getElem?_eq_getElem (by simpa using h0)
      rw [h3] at this
      injection this
    by_cases h1 : 64 < s[0].toNat
    · have hl : M.load (c :: r) = none := by rw [M.load_cons, if_neg fun h => by rw [hc0] at h1; omega]
      unfold M.loadN M.loadM M.loadE
      rw [hl]
      exact rload_great s w h0 (by simp only [maxLen]; omega) h1
    · by_cases h2 : s.size = M.size s[0].toNat
      · exact rload_read s w h0 h1 h2 c r hcr
      · have hl : M.load (c :: r) = none := by
          rw [M.load_cons, if_neg fun h => h2 ?_]
          rw [hc0]
          unfold M.size
          omega
        unfold M.loadN M.loadM M.loadE
        rw [hl]
        exact rload_long s w h0 hm h1 h2
end Go.Proofs.YtcofahpeinkhfaaGreat.B
namespace Go.Proofs.YtcofahpeinkhfaaGreat.B
open Go.RowKit
set_option linter.unusedVariables false
theorem wpList_load30g {ops : Array Oper} {rest : List Oper} {o : Oper} {a : Act} {w : World} {Q : Exit → Act → World → Prop} {n m : Nat} (hw : Region.wanted o (yielded ops a.tmps) = true) (x : Operand) (ho : o.op = .load 60 x) (b : Nat) (hx : a.eval x = .pointer (some ⟨b, 0, none⟩)) (hc : RAt w b n m)
    (h : wpList Tryz.prog ops Q rest (a.put o.dst (RV n m)) w) : wpList Tryz.prog ops Q (o :: rest) a w :=
  wpList_step fun K hK => by
    rw [if_pos hw]
    exact wp_load_mid 60 x ho b 0 hx (rl n m) _ hc.range Tryz.underlying60 rfl (by rw [size30, rl_len]) (hK _ _ h)
end Go.Proofs.YtcofahpeinkhfaaGreat.B
