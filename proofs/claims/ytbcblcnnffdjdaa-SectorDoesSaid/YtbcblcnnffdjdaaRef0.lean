/-
  The document's own device in memory: its sectors are structures of two arrays and a mark.
-/
import Derived.Test.YtbcblcnnffdjdaaOwn
namespace Go.Proofs.Ytbcblcnnffdjdaa
open Go.RowKit Go.Maps
set_option linter.unusedVariables false
set_option linter.unusedSimpArgs false
set_option maxRecDepth 20000

/-- a sector of the reference: its bytes, what is pending, its mark -/
def sec3 (s p : M.Sec) (b : Bool) : List Value := u8s s ++ (u8s p ++ [.bool b])
theorem sec3_len {s p : M.Sec} {b : Bool} (hs : s.length = 144) (hp : p.length = 144) : (sec3 s p b).length = 289 := by simp [sec3, u8s_length, hs, hp]
theorem sec3_one (s p : M.Sec) (b : Bool) : ∀ u ∈ sec3 s p b, u.oneCell' = true := by
  intro u hu
  rcases List.mem_append.1 hu with h | h
  · exact u8s_one s u h
  · rcases List.mem_append.1 h with h | h
    · exact u8s_one p u h
    · simp at h; subst h; rfl
theorem zero70_is : (sec3 M.zero M.zero false).toArray = Array.replicate 144 (.int .u8 0) ++ Array.replicate 144 (.int .u8 0) ++ #[.bool false] := by kernel_rfl
theorem sec70_info : (Try.prog.info? 70).map (fun i => (i.zero, i.size, i.bytes)) = some (some (.agg (sec3 M.zero M.zero false).toArray), 289, 289) := by kernel_rfl
theorem arr67_info : (Try.prog.info? 67).map (fun i => (i.zero, i.size, i.bytes)) = some (some (.agg (u8s M.zero).toArray), 144, 144) := by kernel_rfl
theorem size70 : (Try.prog.info? 70).map (·.size) = some 289 := by kernel_rfl
theorem size67 : (Try.prog.info? 67).map (·.size) = some 144 := by kernel_rfl
theorem size4 : (Try.prog.info? 4).map (·.size) = some 1 := by kernel_rfl

theorem fold_set : ∀ (l : List Value) (k : Nat) (cs : Array Value), k + l.length ≤ cs.size →
    ((l.zipIdx k).foldl (fun cs x => cs.setIfInBounds (0 + x.2) x.1) cs).size = cs.size ∧ ∀ j, ((l.zipIdx k).foldl (fun cs x => cs.setIfInBounds (0 + x.2) x.1) cs)[j]? = if k ≤ j ∧ j < k + l.length then l[j - k]? else cs[j]?
  | [], k, cs, _ => ⟨rfl, fun j => by simp; omega⟩
  | v :: r, k, cs, h => by
    simp only [List.zipIdx_cons, List.foldl_cons, List.length_cons] at h ⊢
    obtain ⟨h1, h2⟩ := fold_set r (k + 1) (cs.setIfInBounds (0 + k) v) (by rw [Array.size_setIfInBounds]; omega)
    refine ⟨by rw [h1, Array.size_setIfInBounds], fun j => ?_⟩
    rw [h2 j]
    by_cases hj : j = k
    · subst hj
      rw [if_neg (by omega), if_pos (by omega), Nat.zero_add, Array.getElem?_setIfInBounds_self_of_lt (by omega)]
      simp
    · rw [Nat.zero_add, Array.getElem?_setIfInBounds_ne (by omega)]
      by_cases hj2 : k + 1 ≤ j ∧ j < k + 1 + r.length
      · rw [if_pos hj2, if_pos (by omega), show j - k = (j - (k + 1)) + 1 by omega, List.getElem?_cons_succ]
      · rw [if_neg hj2, if_neg (by omega)]

theorem app_get {l : M.Sec} (h : l.length = 144) (t : List Value) {j : Nat} (hj : 144 ≤ j) : (u8s l ++ t)[j]? = t[j - 144]? := by
  rw [List.getElem?_append_right (by rw [u8s_length, h]; exact hj), u8s_length, h]

theorem info_of {t : TypeId} {z : Value} {s b : Nat} (h : (Try.prog.info? t).map (fun i => (i.zero, i.size, i.bytes)) = some (some z, s, b)) : ∃ i, Try.prog.info? t = some i ∧ i.zero = some z ∧ i.size = s ∧ i.bytes = b := info_parts h

theorem build70 (w : World) {s : M.Sec} (hs : s.length = 144) : (Instr.build 70 #[(0, .agg (u8s s).toArray)]).run Try.prog w = .ok (.agg (sec3 s M.zero false).toArray) w := by
  refine run_build w 70 _ _ ?_
  obtain ⟨i70, e1, e2, e3, _⟩ := info_of sec70_info
  obtain ⟨i67, f1, _, f3, _⟩ := info_of arr67_info
  obtain ⟨i4, g1, g3⟩ : ∃ i, Try.prog.info? 4 = some i ∧ i.size = 1 := by
    have := size4
    cases h : Try.prog.info? 4 with
    | none => simp [h] at this
    | some i => simp [h] at this; exact ⟨i, rfl, this⟩
  have hz : (u8s s).toArray.size = 144 := by rw [List.size_toArray, u8s_length, hs]
  have hz3 : (sec3 M.zero M.zero false).toArray.size = 289 := by rw [List.size_toArray, sec3_len M.zero_len M.zero_len]
  have hfold : (u8s s).toArray.zipIdx.foldl (fun cs x => cs.setIfInBounds (0 + x.2) x.1) (sec3 M.zero M.zero false).toArray = (sec3 s M.zero false).toArray := by
    rw [← Array.foldl_toList, Array.toList_zipIdx]
    obtain ⟨h1, h2⟩ := fold_set (u8s s) 0 (sec3 M.zero M.zero false).toArray (by rw [hz3, u8s_length, hs]; omega)
    apply Array.ext_getElem?
    intro j
    refine (h2 j).trans ?_
    rw [u8s_length, hs, List.getElem?_toArray]
    by_cases hj : j < 144
    · rw [if_pos (by omega), List.getElem?_toArray]
      unfold sec3
      rw [List.getElem?_append_left (by rw [u8s_length, hs]; exact hj), Nat.sub_zero]
    · rw [if_neg (by omega), List.getElem?_toArray]
      unfold sec3
      rw [app_get M.zero_len _ (by omega), app_get hs _ (by omega)]
  unfold Program.built
  rw [e1, Try.underlying70]
  simp only [e2, f1, g1, List.mapM_cons, List.mapM_nil, Option.map_some, Option.pure_def, Option.bind_eq_bind, Option.bind_some, f3, g3]
  simp only [Instr.fill, List.getElem?_toArray, List.getElem?_cons_zero, Value.cells]
  refine (if_neg fun hc => ?_).trans (congrArg some hfold)
  rw [Bool.or_eq_true] at hc
  rcases hc with hc | hc
  · exact (of_decide_eq_true hc : ¬ (u8s s).toArray.size = 144) hz
  · have h9 : 0 + (u8s s).toArray.size > (sec3 M.zero M.zero false).toArray.size := of_decide_eq_true hc
    omega

theorem build67 (w : World) : (Instr.build 67 #[]).run Try.prog w = .ok (.agg (u8s M.zero).toArray) w := by
  refine run_build w 67 _ _ ?_
  obtain ⟨i67, f1, f2, f3, _⟩ := info_of arr67_info
  obtain ⟨i5, g1⟩ : ∃ i, Try.prog.info? 5 = some i := by
    have := u8_info
    cases h : Try.prog.info? 5 with
    | none => simp [h] at this
    | some i => exact ⟨i, rfl⟩
  unfold Program.built
  rw [f1, Try.underlying67]
  simp only [f2, g1]
  rfl

theorem zero67 (w : World) : (zeroValue 67).run Try.prog w = .ok (.agg (u8s M.zero).toArray) w := by
  obtain ⟨i67, f1, f2, _, _⟩ := info_of arr67_info
  simp [zeroValue, typeInfo, f1, f2]

section
variable {ops : Array Oper} {rest : List Oper} {o : Oper} {a : Act} {w : World} {Q : Exit → Act → World → Prop}

theorem wpList_alloc_67 (hg : o.guard = none) (ho : o.op = .alloc 67)
    (h : ∀ w', w' = w.alloc (.cells (u8s M.zero).toArray 67) → wpList Try.prog ops Q rest (a.put o.dst (.pointer (some ⟨w.heap.size, 0, none⟩))) w') : wpList Try.prog ops Q (o :: rest) a w := by
  refine wpList_plain hg fun K hK => ?_
  unfold Oper.wp
  have hv : (newVar 67 (.agg (u8s M.zero).toArray)).run Try.prog w = .ok ⟨w.heap.size, 0, none⟩ (w.alloc (.cells (u8s M.zero).toArray 67)) := by
    simp only [newVar, newRow, Value.cells, Sem.run_bind, run_newObj_alloc, Sem.run_pure, Result.andThen_ok]
  simp only [execOp, ho, Instr.alloc, Sem.run_bind, zero67, Result.andThen_ok, hv, Sem.run_pure, Result.andThen]
  exact hK _ _ (h _ rfl)

theorem arr_new (w : World) {w' : World} (hw : w' = w.alloc (.cells (u8s M.zero).toArray 67)) : w'.rangeAt w.heap.size 0 (u8s M.zero) ∧ w'.there w.heap.size 0 144 ∧ w'.heap.size = w.heap.size + 1 ∧ ∀ l, But l w w' := by
  subst hw
  refine ⟨fun j v hv => ?_, fun j hj => ⟨?_, ?_⟩, by simp, fun l => (But.refl _ _).alloc _⟩
  · rw [World.cell?_alloc_mark]; simpa using hv
  · rw [World.cell?_alloc_mark]
    have : j < (u8s M.zero).length := by rw [u8s_length, M.zero_len]; exact hj
    simp [this]
  · exact World.frozen?_alloc_at _ _ _ _ rfl

theorem wpStill_load_67 {Q' : Act → Prop} (hg : o.guard = none) (x : Operand) (ho : o.op = .load 67 x) (b off : Nat) (hx : a.eval x = .pointer (some ⟨b, off, none⟩)) (s : M.Sec) (hs : s.length = 144) (hc : w.rangeAt b off (u8s s))
    (h : wpStill Try.prog ops w Q' rest (a.put o.dst (.agg (u8s s).toArray))) : wpStill Try.prog ops w Q' (o :: rest) a := by
  refine wpStill_step (fun K hK => ?_)
  simp only [Region.wanted, hg, if_true, Oper.still]
  have := run_loadAt_mid (P := Try.prog) w b off 67 (u8s s) _ hc Try.underlying67 rfl (by rw [size67, u8s_length, hs])
  simp only [execOp, ho, hx, Sem.run_bind, this, Result.andThen_ok, Sem.run_pure, Result.andThen, Oper.stillUpon_value]
  exact hK _ h

theorem wpList_load_67 (hg : o.guard = none) (x : Operand) (ho : o.op = .load 67 x) (b off : Nat) (hx : a.eval x = .pointer (some ⟨b, off, none⟩)) (s : M.Sec) (hs : s.length = 144) (hc : w.rangeAt b off (u8s s))
    (h : wpList Try.prog ops Q rest (a.put o.dst (.agg (u8s s).toArray)) w) : wpList Try.prog ops Q (o :: rest) a w :=
  wpList_load_mid hg 67 x ho b off hx (u8s s) _ hc Try.underlying67 rfl (by rw [size67, u8s_length, hs]) h

theorem wpList_store_67 (hg : o.guard = none) (x y : Operand) (ho : o.op = .store 67 x y) (b off : Nat) (hx : a.eval x = .pointer (some ⟨b, off, none⟩)) (s : M.Sec) (hy : a.eval y = .agg (u8s s).toArray) (hs : s.length = 144) (ht : w.there b off 144)
    (h : wpList Try.prog ops Q rest (a.put o.dst undef) (w.setCells b off (u8s s))) : wpList Try.prog ops Q (o :: rest) a w := by
  have h1 : (u8s s).toArray.size = 144 := by rw [List.size_toArray, u8s_length, hs]
  exact wpList_store_mid hg 67 x y ho b off _ hx hy (by rw [h1]; exact ht) (by rw [size67, h1]) (all_oneCell_toArray (u8s_one s)) (by simpa using h)

/-- Sector{B: b} -/
theorem wpStill_build_70 {Q' : Act → Prop} (hg : o.guard = none) (x : Operand) (ho : o.op = .build 70 #[(0, x)]) (s : M.Sec) (hx : a.eval x = .agg (u8s s).toArray) (hs : s.length = 144)
    (h : wpStill Try.prog ops w Q' rest (a.put o.dst (.agg (sec3 s M.zero false).toArray))) : wpStill Try.prog ops w Q' (o :: rest) a := by
  refine wpStill_step (fun K hK => ?_)
  simp only [Region.wanted, hg, if_true, Oper.still]
  have h1 := build70 w hs
  simp only [execOp, ho, List.map_toArray, List.map_cons, List.map_nil, hx, Sem.run_bind, h1, Result.andThen_ok, Sem.run_pure, Result.andThen, Oper.stillUpon_value]
  exact hK _ h

theorem wpList_store_70 (hg : o.guard = none) (x y : Operand) (ho : o.op = .store 70 x y) (b off : Nat) (hx : a.eval x = .pointer (some ⟨b, off, none⟩)) (s : M.Sec) (hy : a.eval y = .agg (sec3 s M.zero false).toArray) (hs : s.length = 144) (ht : w.there b off 289)
    (h : wpList Try.prog ops Q rest (a.put o.dst undef) (w.setCells b off (sec3 s M.zero false))) : wpList Try.prog ops Q (o :: rest) a w := by
  have h1 : (sec3 s M.zero false).toArray.size = 289 := by rw [List.size_toArray, sec3_len hs M.zero_len]
  exact wpList_store_mid hg 70 x y ho b off _ hx hy (by rw [h1]; exact ht) (by rw [size70, h1]) (all_oneCell_toArray (sec3_one s M.zero false)) (by simpa using h)

theorem wpList_build_67 (hg : o.guard = none) (ho : o.op = .build 67 #[]) (h : wpList Try.prog ops Q rest (a.put o.dst (.agg (u8s M.zero).toArray)) w) : wpList Try.prog ops Q (o :: rest) a w := by
  refine wpList_plain hg fun K hK => ?_
  unfold Oper.wp
  have h1 := build67 w
  simp only [execOp, ho, List.map_toArray, List.map_nil, Sem.run_bind, h1, Result.andThen_ok, Sem.run_pure, Result.andThen]
  exact hK _ _ h
end
end Go.Proofs.Ytbcblcnnffdjdaa
