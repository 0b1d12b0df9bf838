/-
  Slices that a call makes itself, and what an append onto one leaves.
  The document's own device in memory: its sectors are structures of two arrays and a mark.
  The document's own device in memory, and its smaller methods.
  What the document's own Write makes of its device in memory.
  What the document's own Read and Pending tell of its device in memory.
  What the document's own Barrier makes of its device in memory.
-/
import Derived.Test.YtpoolpckabpnfaaGreatCel7
import Derived.Test.YtpoolpckabpnfaaGreatSPend
import Derived.Test.YtpoolpckabpnfaaGreatSDev3
import Derived.Maps.AppendAt
import Derived.Laws.MakeOwn
namespace Go.Proofs.YtpoolpckabpnfaaGreat
open Go.RowKit
set_option linter.unusedVariables false
set_option linter.unusedSimpArgs false
set_option maxRecDepth 20000

/-- a row of the call's own, from block B on, of elements of type e -/
def Own (e : TypeId) (w : World) (B : Nat) (a : Option Addr) (n cap : Nat) (vs : List Value) : Prop :=
  w.ownsRow B e 1 (.slice a n cap) n vs ∧ vs.length = n ∧ n ≤ 17592186044416

theorem Own.row {e : TypeId} {w : World} {B : Nat} {a : Option Addr} {n cap : Nat} {vs : List Value} (h : Own e w B a n cap vs) : Row w a n cap vs ∧ ∀ b off, a = some ⟨b, off, none⟩ → B ≤ b ∧ off = 0 := by
  obtain ⟨h1, h2, h3⟩ := h
  obtain ⟨a', c', hv, hr, hb⟩ := own_row h1 h2
  injection hv with e1 e2 e3
  subst e1 e3
  exact ⟨hr, hb⟩
theorem own_lit (e : TypeId) (w : World) (B : Nat) (vs : List Value) (hB : B ≤ w.heap.size) (hn : vs.length ≤ 1000) : Own e (w.alloc (.cells vs.toArray e)) B (some ⟨w.heap.size, 0, none⟩) vs.length vs.length vs :=
  ⟨World.ownsRow_lit w vs.toArray vs.length hB (by simp only [maxLen]; omega) (by simp), rfl, by omega⟩
theorem Own.but {e : TypeId} {w w' : World} {B : Nat} {a : Option Addr} {n cap : Nat} {vs : List Value} (h : Own e w B a n cap vs) {l : List Nat} (hb : But l w w') (hl : ∀ x ∈ l, x < B) : Own e w' B a n cap vs := by
  obtain ⟨h1, h2⟩ := h
  have hlt := h1.lt
  refine ⟨⟨h1.1, ?_⟩, h2⟩
  rcases h1.2 with h' | ⟨g, c, cur, hv, hg, hh, r⟩
  · exact .inl h'
  · have := hlt g (by rw [hv]; rfl)
    exact .inr ⟨g, c, cur, hv, hg, by rw [hb.block g this.2 (fun hm => by have := hl g hm; omega)]; exact hh, r⟩

/-- append onto a row of the call's own: of another row that is no empty one -/
theorem run_append_own' (t e : TypeId) (i : TypeInfo) (z : Value) (bytes : Nat) (ht : Tryz.prog.underlying t = some (.slice e)) (hi : Tryz.prog.info? e = some i) (hz : i.zero = some z) (hs : i.size = 1) (hby : i.bytes = bytes) (hzs : z.cells.size = 1) (hb8 : bytes ≤ 24)
    (w : World) (ty : TypeId) (B : Nat) (a : Option Addr) (n cap : Nat) (l : List Value) (hown : Own e w B a n cap l) (A : Addr) (m c : Nat) (x : List Value) (hr : Row w (some A) m c x) (hm0 : 0 < m) (h1 : ∀ u ∈ x, u.oneCell' = true)
    (hsum : n + m ≤ 1048576) (hB : B ≤ w.heap.size) :
    ∃ a' cap' w', (Builtin.append_ #[t, t] ty #[.slice a n cap, .slice (some A) m c]).run Tryz.prog w = .ok (.slice a' (n + m) cap') w' ∧ Own e w' B a' (n + m) cap' (l ++ x) ∧ w.grownBy w' (Value.slice a n cap).ownBlock ∧ Below B w w' := by
  obtain ⟨g1, g2, g3⟩ := hown
  obtain ⟨r1, r2, r2', r4⟩ := hr
  have hlen : (l ++ x).length = n + m := by rw [List.length_append, g2, r1]
  have hbnd : (n + m) * bytes ≤ 140737488355328 := by
    have := Nat.mul_le_mul hsum hb8
    omega
  rcases r4 with r4 | ⟨b, off, hA, hb, hc⟩
  · subst r4; simp at r1; omega
  injection hA with hA
  subst hA
  have hcells : ∀ j u, x[j]? = some u → w.cell? ((⟨b, off, none⟩ : Addr).add j) = some u := by
    intro j u hu
    have hj : j < m := by
      have := (List.getElem?_eq_some_iff.1 hu).1
      omega
    rw [Addr.add_mid, hc j hj, hu]
  obtain ⟨v', w', hrun, h5, h6, _, h7⟩ := run_append_own_at (P := Tryz.prog) w B t ty e i z 1 bytes ht hi hz hs hby hzs (by omega) _ n l g1 ⟨b, off, none⟩ m c x
    (by simpa using r1) hcells h1 (by simp only [maxLen]; omega) hbnd hB
  obtain ⟨a', cap', rfl⟩ : ∃ a' cap', v' = .slice a' (n + m) cap' := by
    rcases h5.2 with ⟨rfl, h0⟩ | ⟨g, c', cur, rfl, _⟩
    · exact ⟨none, 0, by rw [h0]⟩
    · exact ⟨_, _, rfl⟩
  exact ⟨a', cap', w', hrun, ⟨h5, hlen, by omega⟩, h6, (Below.refl _ _).grown h6 hB fun k hk => (g1.lt k hk).1⟩

theorem str_info : (Tryz.prog.info? 9).map (fun i => (i.zero, i.size, i.bytes)) = some (some (.string ⟨#[]⟩), 1, 16) := by kernel_rfl
theorem row_info : (Tryz.prog.info? 50).map (fun i => (i.zero, i.size, i.bytes)) = some (some (.slice none 0 0), 1, 24) := by kernel_rfl

def strs (l : List ByteArray) : List Value := l.map Value.string
theorem strs_append (l m : List ByteArray) : strs (l ++ m) = strs l ++ strs m := List.map_append

section
variable {ops : Array Oper} {rest : List Oper} {o : Oper} {a : Act} {w : World} {Q : Exit → Act → World → Prop}
/-- append of one element that lies in a new block -/
theorem wpList_append_one (hg : o.guard = none) (x y : Operand) (t e : TypeId) (ho : o.op = Op.call { callee := Callee.builtin Builtin.append, args := #[x, y], argTypes := #[t, t] })
    (z : Value) (bytes : Nat) (ht : Tryz.prog.underlying t = some (.slice e)) (hinf : (Tryz.prog.info? e).map (fun i => (i.zero, i.size, i.bytes)) = some (some z, 1, bytes)) (hzs : z.cells.size = 1) (hb8 : bytes ≤ 24)
    (B : Nat) (A : Option Addr) (n cap : Nat) (l : List Value) (hx : a.eval x = .slice A n cap) (hown : Own e w B A n cap l) (g c : Nat) (u : Value) (hy : a.eval y = .slice (some ⟨g, 0, none⟩) 1 c) (hr : Row w (some ⟨g, 0, none⟩) 1 c [u]) (h1 : u.oneCell' = true)
    (hsum : n + 1 ≤ 1048576) (hB : B ≤ w.heap.size)
    (h : ∀ A' cap' w', Own e w' B A' (n + 1) cap' (l ++ [u]) → w.grownBy w' (Value.slice A n cap).ownBlock → Below B w w' → wpList Tryz.prog ops Q rest (a.put o.dst (.slice A' (n + 1) cap')) w') : wpList Tryz.prog ops Q (o :: rest) a w := by
  refine wpList_plain hg fun K hK => ?_
  obtain ⟨i0, hi0, hz0, hz1, hz2⟩ := info_parts hinf
  obtain ⟨A', cap', w', hrun, r1, r2, r3⟩ := run_append_own' t e i0 z bytes ht hi0 hz0 hz1 hz2 hzs hb8 w o.type B A n cap l hown ⟨g, 0, none⟩ 1 c [u] hr (by omega) (by simpa using h1) hsum hB
  unfold Oper.wp
  simp [execOp, ho, resolve, invoke, builtin, hx, hy, hrun, Result.andThen]
  exact hK _ _ (h A' cap' w' r1 r2 r3)
end
/-- the sectors' bytes as strings -/
def seenL (d : M.Dv) (k : Nat) : List ByteArray := (List.range k).map fun i => str (M.seen d i)
theorem seenL_succ (d : M.Dv) (k : Nat) : strs (seenL d (k + 1)) = strs (seenL d k) ++ [.string (str (M.seen d k))] := by
  unfold seenL
  rw [List.range_succ, List.map_append, strs_append]
  rfl
theorem seenL_get {d : M.Dv} {n k : Nat} (h : k < n) : (strs (seenL d n))[k]? = some (.string (str (M.seen d k))) := by
  simp [strs, seenL, h]
theorem seenL_len (d : M.Dv) (k : Nat) : (strs (seenL d k)).length = k := by simp [strs, seenL]

theorem DevAt.below {w w' : World} {dB sB mB n B : Nat} {d : M.Dv} (h : DevAt w dB sB mB n d) (hb : Below B w w') (hl : dB < B ∧ sB < B ∧ mB < B) : DevAt w' dB sB mB n d :=
  h.of_blocks (hb.block _ hl.1) (hb.block _ hl.2.1) (hb.block _ hl.2.2) hb.size
theorem seen_crash {d : M.Dv} (hp : ∀ k, d.P k = none) (n : Nat) (l : List (Int × Int)) (i : Nat) : M.seen (M.crashD n d l) i = M.seen d i := by
  have : M.pendL n d.P = [] := by
    unfold M.pendL
    rw [List.filter_eq_nil_iff]
    intro k _
    rw [hp k]
    simp
  unfold M.seen M.crashD
  rw [this, hp]
  simp [M.crashS]
theorem seen_fresh (i : Nat) : M.seen M.fresh i = M.zero := rfl
theorem zero_get {j : Nat} (h : j < 144) : M.zero[j]? = some 0 := by
  unfold M.zero
  rw [List.getElem?_replicate, if_pos h]
theorem row_one (w : World) (e : TypeId) (u : Value) : Row (w.alloc (.cells #[u] e)) (some ⟨w.heap.size, 0, none⟩) 1 1 [u] := by
  refine ⟨rfl, Nat.le_refl _, by simp [maxLen], .inr ⟨w.heap.size, 0, rfl, by simp, fun i hi => ?_⟩⟩
  obtain rfl : i = 0 := by omega
  rw [World.cell?_alloc_mark]
  rfl
end Go.Proofs.YtpoolpckabpnfaaGreat
namespace Go.Proofs.YtpoolpckabpnfaaGreat
open Go.RowKit Go.Maps
set_option linter.unusedVariables false
set_option linter.unusedSimpArgs false
set_option maxRecDepth 20000

/-- a sector of the reference: its bytes, what is pending, its mark -/
def sec3 (s p : M.Sec) (b : Bool) : List Value := u8s s ++ (u8s p ++ [.bool b])
theorem sec3_len {s p : M.Sec} {b : Bool} (hs : s.length = 144) (hp : p.length = 144) : (sec3 s p b).length = 289 := by simp [sec3, u8s_length, hs, hp]
theorem sec3_one (s p : M.Sec) (b : Bool) : ∀ u ∈ sec3 s p b, u.oneCell' = true := by
  intro u hu
  rcases List.mem_append.1 hu with h | h
  · exact u8s_one s u h
  · rcases List.mem_append.1 h with h | h
    · exact u8s_one p u h
    · simp at h; subst h; rfl
theorem zero70_is : (sec3 M.zero M.zero false).toArray = Array.replicate 144 (.int .u8 0) ++ Array.replicate 144 (.int .u8 0) ++ #[.bool false] := by kernel_rfl
theorem sec70_info : (Tryz.prog.info? 100).map (fun i => (i.zero, i.size, i.bytes)) = some (some (.agg (sec3 M.zero M.zero false).toArray), 289, 289) := by kernel_rfl
theorem arr67_info : (Tryz.prog.info? 94).map (fun i => (i.zero, i.size, i.bytes)) = some (some (.agg (u8s M.zero).toArray), 144, 144) := by kernel_rfl
theorem size70 : (Tryz.prog.info? 100).map (·.size) = some 289 := by kernel_rfl
theorem size67 : (Tryz.prog.info? 94).map (·.size) = some 144 := by kernel_rfl
theorem size4 : (Tryz.prog.info? 4).map (·.size) = some 1 := by kernel_rfl

theorem fold_set : ∀ (l : List Value) (k : Nat) (cs : Array Value), k + l.length ≤ cs.size →
    ((l.zipIdx k).foldl (fun cs x => cs.setIfInBounds (0 + x.2) x.1) cs).size = cs.size ∧ ∀ j, ((l.zipIdx k).foldl (fun cs x => cs.setIfInBounds (0 + x.2) x.1) cs)[j]? = if k ≤ j ∧ j < k + l.length then l[j - k]? else cs[j]?
  | [], k, cs, _ => ⟨rfl, fun j => by simp; omega⟩
  | v :: r, k, cs, h => by
    simp only [List.zipIdx_cons, List.foldl_cons, List.length_cons] at h ⊢
    obtain ⟨h1, h2⟩ := fold_set r (k + 1) (cs.setIfInBounds (0 + k) v) (by rw [Array.size_setIfInBounds]; omega)
    refine ⟨by rw [h1, Array.size_setIfInBounds], fun j => ?_⟩
    rw [h2 j]
    by_cases hj : j = k
    · subst hj
      rw [if_neg (by omega), if_pos (by omega), Nat.zero_add, Array.getElem?_setIfInBounds_self_of_lt (by omega)]
      simp
    · rw [Nat.zero_add, Array.getElem?_setIfInBounds_ne (by omega)]
      by_cases hj2 : k + 1 ≤ j ∧ j < k + 1 + r.length
      · rw [if_pos hj2, if_pos (by omega), show j - k = (j - (k + 1)) + 1 by omega, List.getElem?_cons_succ]
      · rw [if_neg hj2, if_neg (by omega)]

theorem app_get {l : M.Sec} (h : l.length = 144) (t : List Value) {j : Nat} (hj : 144 ≤ j) : (u8s l ++ t)[j]? = t[j - 144]? := by
  rw [List.getElem?_append_right (by rw [u8s_length, h]; exact hj), u8s_length, h]

theorem info_of {t : TypeId} {z : Value} {s b : Nat} (h : (Tryz.prog.info? t).map (fun i => (i.zero, i.size, i.bytes)) = some (some z, s, b)) : ∃ i, Tryz.prog.info? t = some i ∧ i.zero = some z ∧ i.size = s ∧ i.bytes = b := info_parts h

theorem build70 (w : World) {s : M.Sec} (hs : s.length = 144) : (Instr.build 100 #[(0, .agg (u8s s).toArray)]).run Tryz.prog w = .ok (.agg (sec3 s M.zero false).toArray) w := by
  refine run_build w 100 _ _ ?_
  obtain ⟨i70, e1, e2, e3, _⟩ := info_of sec70_info
  obtain ⟨i67, f1, _, f3, _⟩ := info_of arr67_info
  obtain ⟨i4, g1, g3⟩ : ∃ i, Tryz.prog.info? 4 = some i ∧ i.size = 1 := by
    have := size4
    cases h : Tryz.prog.info? 4 with
    | none => simp [h] at this
    | some i => simp [h] at this; exact ⟨i, rfl, this⟩
  have hz : (u8s s).toArray.size = 144 := by rw [List.size_toArray, u8s_length, hs]
  have hz3 : (sec3 M.zero M.zero false).toArray.size = 289 := by rw [List.size_toArray, sec3_len M.zero_len M.zero_len]
  have hfold : (u8s s).toArray.zipIdx.foldl (fun cs x => cs.setIfInBounds (0 + x.2) x.1) (sec3 M.zero M.zero false).toArray = (sec3 s M.zero false).toArray := by
    rw [← Array.foldl_toList, Array.toList_zipIdx]
    obtain ⟨h1, h2⟩ := fold_set (u8s s) 0 (sec3 M.zero M.zero false).toArray (by rw [hz3, u8s_length, hs]; omega)
    apply Array.ext_getElem?
    intro j
    refine (h2 j).trans ?_
    rw [u8s_length, hs, List.getElem?_toArray]
    by_cases hj : j < 144
    · rw [if_pos (by omega), List.getElem?_toArray]
      unfold sec3
      rw [List.getElem?_append_left (by rw [u8s_length, hs]; exact hj), Nat.sub_zero]
    · rw [if_neg (by omega), List.getElem?_toArray]
      unfold sec3
      rw [app_get M.zero_len _ (by omega), app_get hs _ (by omega)]
  unfold Program.built
  rw [e1, Tryz.underlying100]
  simp only [e2, f1, g1, List.mapM_cons, List.mapM_nil, Option.map_some, Option.pure_def, Option.bind_eq_bind, Option.bind_some, f3, g3]
  simp only [Instr.fill, List.getElem?_toArray, List.getElem?_cons_zero, Value.cells]
  refine (if_neg fun hc => ?_).trans (congrArg some hfold)
  rw [Bool.or_eq_true] at hc
  rcases hc with hc | hc
  · exact (of_decide_eq_true hc : ¬ (u8s s).toArray.size = 144) hz
  · have h9 : 0 + (u8s s).toArray.size > (sec3 M.zero M.zero false).toArray.size := of_decide_eq_true hc
    omega

theorem build67 (w : World) : (Instr.build 94 #[]).run Tryz.prog w = .ok (.agg (u8s M.zero).toArray) w := by
  refine run_build w 94 _ _ ?_
  obtain ⟨i67, f1, f2, f3, _⟩ := info_of arr67_info
  obtain ⟨i5, g1⟩ : ∃ i, Tryz.prog.info? 5 = some i := by
    have := u8_info
    cases h : Tryz.prog.info? 5 with
    | none => simp [h] at this
    | some i => exact ⟨i, rfl⟩
  unfold Program.built
  rw [f1, Tryz.underlying94]
  simp only [f2, g1]
  rfl

theorem zero67 (w : World) : (zeroValue 94).run Tryz.prog w = .ok (.agg (u8s M.zero).toArray) w := by
  obtain ⟨i67, f1, f2, _, _⟩ := info_of arr67_info
  simp [zeroValue, typeInfo, f1, f2]

section
variable {ops : Array Oper} {rest : List Oper} {o : Oper} {a : Act} {w : World} {Q : Exit → Act → World → Prop}

theorem wpList_alloc_67 (hg : o.guard = none) (ho : o.op = .alloc 94)
    (h : ∀ w', w' = w.alloc (.cells (u8s M.zero).toArray 94) → wpList Tryz.prog ops Q rest (a.put o.dst (.pointer (some ⟨w.heap.size, 0, none⟩))) w') : wpList Tryz.prog ops Q (o :: rest) a w := by
  refine wpList_plain hg fun K hK => ?_
  unfold Oper.wp
  have hv : (newVar 94 (.agg (u8s M.zero).toArray)).run Tryz.prog w = .ok ⟨w.heap.size, 0, none⟩ (w.alloc (.cells (u8s M.zero).toArray 94)) := by
    simp only [newVar, newRow, Value.cells, Sem.run_bind, run_newObj_alloc, Sem.run_pure, Result.andThen_ok]
  simp only [execOp, ho, Instr.alloc, Sem.run_bind, zero67, Result.andThen_ok, hv, Sem.run_pure, Result.andThen]
  exact hK _ _ (h _ rfl)

theorem arr_new (w : World) {w' : World} (hw : w' = w.alloc (.cells (u8s M.zero).toArray 94)) : w'.rangeAt w.heap.size 0 (u8s M.zero) ∧ w'.there w.heap.size 0 144 ∧ w'.heap.size = w.heap.size + 1 ∧ ∀ l, But l w w' := by
  subst hw
  refine ⟨fun j v hv => ?_, fun j hj => ⟨?_, ?_⟩, by simp, fun l => (But.refl _ _).alloc _⟩
  · rw [World.cell?_alloc_mark]; simpa using hv
  · rw [World.cell?_alloc_mark]
    have : j < (u8s M.zero).length := by rw [u8s_length, M.zero_len]; exact hj
    simp [this]
  · exact World.frozen?_alloc_at _ _ _ _ rfl

theorem wpStill_load_67 {Q' : Act → Prop} (hg : o.guard = none) (x : Operand) (ho : o.op = .load 94 x) (b off : Nat) (hx : a.eval x = .pointer (some ⟨b, off, none⟩)) (s : M.Sec) (hs : s.length = 144) (hc : w.rangeAt b off (u8s s))
    (h : wpStill Tryz.prog ops w Q' rest (a.put o.dst (.agg (u8s s).toArray))) : wpStill Tryz.prog ops w Q' (o :: rest) a := by
  refine wpStill_step (fun K hK => ?_)
  simp only [Region.wanted, hg, if_true, Oper.still]
  have := run_loadAt_mid (P := Tryz.prog) w b off 94 (u8s s) _ hc Tryz.underlying94 rfl (by rw [size67, u8s_length, hs])
  simp only [execOp, ho, hx, Sem.run_bind, this, Result.andThen_ok, Sem.run_pure, Result.andThen, Oper.stillUpon_value]
  exact hK _ h

theorem wpList_load_67 (hg : o.guard = none) (x : Operand) (ho : o.op = .load 94 x) (b off : Nat) (hx : a.eval x = .pointer (some ⟨b, off, none⟩)) (s : M.Sec) (hs : s.length = 144) (hc : w.rangeAt b off (u8s s))
    (h : wpList Tryz.prog ops Q rest (a.put o.dst (.agg (u8s s).toArray)) w) : wpList Tryz.prog ops Q (o :: rest) a w :=
  wpList_load_mid hg 94 x ho b off hx (u8s s) _ hc Tryz.underlying94 rfl (by rw [size67, u8s_length, hs]) h

theorem wpList_store_67 (hg : o.guard = none) (x y : Operand) (ho : o.op = .store 94 x y) (b off : Nat) (hx : a.eval x = .pointer (some ⟨b, off, none⟩)) (s : M.Sec) (hy : a.eval y = .agg (u8s s).toArray) (hs : s.length = 144) (ht : w.there b off 144)
    (h : wpList Tryz.prog ops Q rest (a.put o.dst undef) (w.setCells b off (u8s s))) : wpList Tryz.prog ops Q (o :: rest) a w := by
  have h1 : (u8s s).toArray.size = 144 := by rw [List.size_toArray, u8s_length, hs]
  exact wpList_store_mid hg 94 x y ho b off _ hx hy (by rw [h1]; exact ht) (by rw [size67, h1]) (all_oneCell_toArray (u8s_one s)) (by simpa using h)

/-- Sector{B: b} -/
theorem wpStill_build_70 {Q' : Act → Prop} (hg : o.guard = none) (x : Operand) (ho : o.op = .build 100 #[(0, x)]) (s : M.Sec) (hx : a.eval x = .agg (u8s s).toArray) (hs : s.length = 144)
    (h : wpStill Tryz.prog ops w Q' rest (a.put o.dst (.agg (sec3 s M.zero false).toArray))) : wpStill Tryz.prog ops w Q' (o :: rest) a := by
  refine wpStill_step (fun K hK => ?_)
  simp only [Region.wanted, hg, if_true, Oper.still]
  have h1 := build70 w hs
  simp only [execOp, ho, List.map_toArray, List.map_cons, List.map_nil, hx, Sem.run_bind, h1, Result.andThen_ok, Sem.run_pure, Result.andThen, Oper.stillUpon_value]
  exact hK _ h

theorem wpList_store_70 (hg : o.guard = none) (x y : Operand) (ho : o.op = .store 100 x y) (b off : Nat) (hx : a.eval x = .pointer (some ⟨b, off, none⟩)) (s : M.Sec) (hy : a.eval y = .agg (sec3 s M.zero false).toArray) (hs : s.length = 144) (ht : w.there b off 289)
    (h : wpList Tryz.prog ops Q rest (a.put o.dst undef) (w.setCells b off (sec3 s M.zero false))) : wpList Tryz.prog ops Q (o :: rest) a w := by
  have h1 : (sec3 s M.zero false).toArray.size = 289 := by rw [List.size_toArray, sec3_len hs M.zero_len]
  exact wpList_store_mid hg 100 x y ho b off _ hx hy (by rw [h1]; exact ht) (by rw [size70, h1]) (all_oneCell_toArray (sec3_one s M.zero false)) (by simpa using h)

theorem wpList_build_67 (hg : o.guard = none) (ho : o.op = .build 94 #[]) (h : wpList Tryz.prog ops Q rest (a.put o.dst (.agg (u8s M.zero).toArray)) w) : wpList Tryz.prog ops Q (o :: rest) a w := by
  refine wpList_plain hg fun K hK => ?_
  unfold Oper.wp
  have h1 := build67 w
  simp only [execOp, ho, List.map_toArray, List.map_nil, Sem.run_bind, h1, Result.andThen_ok, Sem.run_pure, Result.andThen]
  exact hK _ _ h
end
end Go.Proofs.YtpoolpckabpnfaaGreat
namespace Go.Proofs.YtpoolpckabpnfaaGreat
open Go.RowKit Go.Maps
set_option linter.unusedVariables false
set_option linter.unusedSimpArgs false
set_option maxRecDepth 20000

/-- the reference's fuse: one number alone says that there is none -/
def rfuse (k : Int) : Int := if k < 0 then -1 else k

/-- one sector of the reference in memory -/
structure RSec (w : World) (LB i : Nat) (d : M.Dv) : Prop where
  b : w.rangeAt LB (i * 289) (u8s (d.S i))
  p : ∃ x : M.Sec, x.length = 144 ∧ w.rangeAt LB (i * 289 + 144) (u8s x) ∧ ∀ s, d.P (i : Int) = some s → x = s
  is : w.cell? ⟨LB, i * 289 + 288, none⟩ = some (.bool (d.P (i : Int)).isSome)

structure RefAt (w : World) (rB LB n : Nat) (d : M.Dv) : Prop where
  sec : w.cell? ⟨rB, 0, none⟩ = some (.slice (some ⟨LB, 0, none⟩) n n)
  dead : w.cell? ⟨rB, 1, none⟩ = some (.bool d.dead)
  fuse : w.cell? ⟨rB, 2, none⟩ = some (.int .i64 (rfuse d.fuse))
  fz : ∀ o, w.frozen? ⟨rB, o, none⟩ = false
  ne : rB ≠ LB
  lt : LB < w.heap.size
  secs : ∀ i, i < n → RSec w LB i d
  there : w.there LB 0 (n * 289)
  wf : M.Wf n d
  n512 : n ≤ 512

variable {rB LB n : Nat} {d : M.Dv}

theorem RefAt.ltR {w : World} (h : RefAt w rB LB n d) : rB < w.heap.size := World.block_lt_of_cell? w _ h.sec
theorem RSec.of_block {w w' : World} {i : Nat} (h : RSec w LB i d) (hb : w'.heap[LB]? = w.heap[LB]?) : RSec w' LB i d := by
  obtain ⟨h1, ⟨x, h2, h3, h4⟩, h5⟩ := h
  exact ⟨rangeAt_block h1 hb, ⟨x, h2, rangeAt_block h3 hb, h4⟩, by rw [World.cell?_of_block (w := w) (a := ⟨LB, i * 289 + 288, none⟩) hb]; exact h5⟩
theorem RefAt.of_blocks {w w' : World} (h : RefAt w rB LB n d) (h1 : w'.heap[rB]? = w.heap[rB]?) (h2 : w'.heap[LB]? = w.heap[LB]?) (hs : w.heap.size ≤ w'.heap.size) : RefAt w' rB LB n d where
  sec := by rw [World.cell?_of_block (w := w) (a := ⟨rB, 0, none⟩) h1]; exact h.sec
  dead := by rw [World.cell?_of_block (w := w) (a := ⟨rB, 1, none⟩) h1]; exact h.dead
  fuse := by rw [World.cell?_of_block (w := w) (a := ⟨rB, 2, none⟩) h1]; exact h.fuse
  fz := fun o => by rw [World.frozen?_of_block (w := w) (a := ⟨rB, o, none⟩) h1]; exact h.fz o
  ne := h.ne
  lt := Nat.lt_of_lt_of_le h.lt hs
  secs := fun i hi => (h.secs i hi).of_block h2
  there := there_block h.there h2
  wf := h.wf
  n512 := h.n512
theorem RefAt.but {w w' : World} (h : RefAt w rB LB n d) {l : List Nat} (hb : But l w w') (h1 : rB ∉ l) (h2 : LB ∉ l) : RefAt w' rB LB n d := h.of_blocks (hb.block _ h.ltR h1) (hb.block _ h.lt h2) hb.size
theorem RefAt.alloc {w : World} (h : RefAt w rB LB n d) (o : Obj) : RefAt (w.alloc o) rB LB n d := h.but ((But.refl [] w).alloc o) (by simp) (by simp)
theorem RefAt.drew {w : World} (h : RefAt w rB LB n d) : RefAt w.drew rB LB n d := h.of_blocks rfl rfl (Nat.le_refl _)
theorem RefAt.drewN {w : World} (h : RefAt w rB LB n d) (k : Nat) : RefAt (w.drewN k) rB LB n d := h.of_blocks rfl rfl (Nat.le_refl _)
theorem RefAt.same {w : World} {d' : M.Dv} (h : RefAt w rB LB n d) (h1 : ∀ i, d.S i = d'.S i) (h2 : ∀ i, d.P i = d'.P i) (h3 : d.dead = d'.dead) (h4 : d.fuse = d'.fuse) : RefAt w rB LB n d' := by
  obtain ⟨S, P, de, fu⟩ := d
  obtain ⟨S', P', de', fu'⟩ := d'
  obtain rfl : S = S' := funext h1
  obtain rfl : P = P' := funext h2
  obtain rfl : de = de' := h3
  obtain rfl : fu = fu' := h4
  exact h

theorem RefAt.setDead {w : World} (h : RefAt w rB LB n d) (b : Bool) : RefAt (w.setCell ⟨rB, 1, none⟩ (.bool b)) rB LB n { d with dead := b } where
  sec := by rw [World.cell?_setCell_other _ _ _ _ (by simp)]; exact h.sec
  dead := World.cell?_setCell_same _ _ _ h.dead
  fuse := by rw [World.cell?_setCell_other _ _ _ _ (by simp)]; exact h.fuse
  fz := fun o => by rw [World.frozen?_setCell]; exact h.fz o
  ne := h.ne
  lt := by simpa [World.setCell] using h.lt
  secs := fun i hi => by
    obtain ⟨h1, h2, h3⟩ := (h.secs i hi).of_block (Below.heap_setCell w ⟨rB, 1, none⟩ (.bool b) LB (Ne.symm h.ne))
    exact ⟨h1, h2, h3⟩
  there := there_block h.there (Below.heap_setCell _ _ _ _ (Ne.symm h.ne))
  wf := ⟨h.wf.len, h.wf.pend, h.wf.lo, h.wf.hi⟩
  n512 := h.n512

theorem RefAt.setFuse {w : World} (h : RefAt w rB LB n d) {k q : Int} (hq : q = rfuse k) (h1 : -9223372036854775808 ≤ k) (h2 : k ≤ 9223372036854775807) : RefAt (w.setCell ⟨rB, 2, none⟩ (.int .i64 q)) rB LB n { d with fuse := k } where
  sec := by rw [World.cell?_setCell_other _ _ _ _ (by simp)]; exact h.sec
  dead := by rw [World.cell?_setCell_other _ _ _ _ (by simp)]; exact h.dead
  fuse := by rw [hq]; exact World.cell?_setCell_same _ _ _ h.fuse
  fz := fun o => by rw [World.frozen?_setCell]; exact h.fz o
  ne := h.ne
  lt := by simpa [World.setCell] using h.lt
  secs := fun i hi => by
    obtain ⟨h1, h2, h3⟩ := (h.secs i hi).of_block (Below.heap_setCell w ⟨rB, 2, none⟩ (.int .i64 q) LB (Ne.symm h.ne))
    exact ⟨h1, h2, h3⟩
  there := there_block h.there (Below.heap_setCell _ _ _ _ (Ne.symm h.ne))
  wf := ⟨h.wf.len, h.wf.pend, h1, h2⟩
  n512 := h.n512

theorem ract_any (w : World) (h : RefAt w rB LB n d) :
    Calls Tryz.prog 47 #[.pointer (some ⟨rB, 0, none⟩)] w fun e w' => e = .returned (.int .i64 (M.actE d)) ∧ RefAt w' rB LB n (M.actD d) ∧ But [rB] w w' := by
  have h1 := h.fuse
  have h2 := h.fz 1
  have h3 := h.fz 2
  have h4 := h.dead
  have hlo := h.wf.lo
  have hhi := h.wf.hi
  have H := Lib.hid h
  clear h
  unfold M.actE M.actD rfuse at *
  by_cases c0 : d.fuse = 0
  · have K := Lib.hid (H.out.setDead true)
    simp only [if_pos c0]
    rw [c0] at h1
    simp only [Int.lt_irrefl, if_false] at h1
    clear c0 hlo hhi
    go_enter Tryz.func47, Tryz.ntmps47
    go_wp2
    go_ret
    exact ⟨rfl, K.out, (But.refl _ _).set _ (.inl (by simp))⟩
  · simp only [if_neg c0]
    by_cases c1 : 0 < d.fuse
    · have K := Lib.hid (H.out.setFuse (k := d.fuse - 1) (q := d.fuse - 1) (by unfold rfuse; rw [if_neg (by omega)]) (by omega) (by omega))
      simp only [if_pos c1]
      rw [if_neg (by omega)] at h1
      clear c0
      go_enter Tryz.func47, Tryz.ntmps47
      go_wp2
      go_ret
      exact ⟨rfl, K.out, (But.refl _ _).set _ (.inl (by simp))⟩
    · simp only [if_neg c1]
      rw [if_pos (by omega)] at h1
      clear c0 c1
      go_enter Tryz.func47, Tryz.ntmps47
      go_wp2
      go_ret
      exact ⟨rfl, H.out, But.refl _ _⟩

theorem rfuse_any (w : World) (h : RefAt w rB LB n d) (k : Int) (hk1 : -9223372036854775808 ≤ k) (hk2 : k ≤ 9223372036854775807) :
    Calls Tryz.prog 18 #[.pointer (some ⟨rB, 0, none⟩), .int .i64 k] w fun e w' => e = .returned (.tuple #[]) ∧ RefAt w' rB LB n (M.fuseD d k) ∧ But [rB] w w' := by
  have h1 := h.fuse
  have h2 := h.fz 2
  by_cases c : k < 0
  · have HR := Lib.hid h
    have e1 : rfuse k = -1 := if_pos c
    have HW : Hid (RefAt ((w.setCell ⟨rB, 2, none⟩ (.int .i64 k)).setCell ⟨rB, 2, none⟩ (.int .i64 (-1))) rB LB n (M.fuseD d k)) := Lib.hid (by
      refine ⟨?_, ?_, ?_, ?_, h.ne, ?_, ?_, ?_, M.fuse_wf h.wf hk1 hk2, h.n512⟩
      · rw [World.cell?_setCell_other _ _ _ _ (by simp), World.cell?_setCell_other _ _ _ _ (by simp)]; exact h.sec
      · rw [World.cell?_setCell_other _ _ _ _ (by simp), World.cell?_setCell_other _ _ _ _ (by simp)]; exact h.dead
      · show _ = some (Value.int .i64 (rfuse k))
        rw [e1]
        exact World.cell?_setCell_same _ _ _ (World.cell?_setCell_same _ _ _ h1)
      · intro o; rw [World.frozen?_setCell, World.frozen?_setCell]; exact h.fz o
      · simpa [World.setCell] using h.lt
      · intro i hi
        obtain ⟨k1, k2, k3⟩ := ((h.secs i hi).of_block (Below.heap_setCell w ⟨rB, 2, none⟩ (.int .i64 k) LB (Ne.symm h.ne))).of_block (Below.heap_setCell _ ⟨rB, 2, none⟩ (.int .i64 (-1)) LB (Ne.symm h.ne))
        exact ⟨k1, k2, k3⟩
      · exact there_block (there_block h.there (Below.heap_setCell w ⟨rB, 2, none⟩ (.int .i64 k) LB (Ne.symm h.ne))) (Below.heap_setCell _ ⟨rB, 2, none⟩ (.int .i64 (-1)) LB (Ne.symm h.ne)))
    clear h e1
    go_enter Tryz.func18, Tryz.ntmps18
    go_wp2
    go_end0
    exact ⟨rfl, by first | exact HW.out | (simpa using HW.out), by first | exact ((But.refl _ _).set _ (.inl (by simp))).set _ (.inl (by simp)) | exact (But.refl _ _).set _ (.inl (by simp))⟩
  · have HW := Lib.hid (h.setFuse (k := k) (q := k) (by unfold rfuse; rw [if_neg c]) hk1 hk2)
    clear h
    go_enter Tryz.func18, Tryz.ntmps18
    go_wp2
    go_end0
    exact ⟨rfl, HW.out, (But.refl _ _).set _ (.inl (by simp))⟩

/-! a new reference device -/
theorem made70_get (n : Nat) {i j : Nat} (hi : i < n) (hj : j < 289) : (madeCells (sec3 M.zero M.zero false).toArray (n * 289))[i * 289 + j]? = (sec3 M.zero M.zero false)[j]? := by
  have hsz : (sec3 M.zero M.zero false).toArray.size = 289 := by rw [List.size_toArray, sec3_len M.zero_len M.zero_len]
  have hlt : i * 289 + j < n * 289 := by
    have : (i + 1) * 289 ≤ n * 289 := Nat.mul_le_mul_right _ hi
    omega
  have hm : (i * 289 + j) % 289 = j := by omega
  unfold madeCells
  rw [Array.getElem?_map, hsz, Array.getElem?_range, if_pos hlt, Option.map_some, hm, getElem!_pos _ _ (by rw [hsz]; exact hj), ← List.getElem?_toArray, Array.getElem?_eq_getElem (by rw [hsz]; exact hj)]

theorem made70_sec {w : World} {LB n : Nat} (hc : ∀ i j, i < n → j < 289 → w.cell? ⟨LB, i * 289 + j, none⟩ = (sec3 M.zero M.zero false)[j]?) (i : Nat) (hi : i < n) : RSec w LB i M.fresh where
  b := fun j v hv => by
    have hj : j < 144 := by have := (List.getElem?_eq_some_iff.1 hv).1; rw [u8s_length] at this; exact this
    rw [hc i j hi (by omega)]
    unfold sec3
    rw [List.getElem?_append_left (by rw [u8s_length, M.zero_len]; exact hj)]
    exact hv
  p := ⟨M.zero, M.zero_len, fun j v hv => by
    have hj : j < 144 := by have := (List.getElem?_eq_some_iff.1 hv).1; rw [u8s_length, M.zero_len] at this; exact this
    rw [Nat.add_assoc, hc i (144 + j) hi (by omega)]
    unfold sec3
    rw [app_get M.zero_len _ (by omega), show 144 + j - 144 = j by omega, List.getElem?_append_left (by rw [u8s_length, M.zero_len]; exact hj)]
    exact hv, fun s hs => by simp [M.fresh] at hs⟩
  is := by
    rw [hc i 288 hi (by omega)]
    unfold sec3
    rw [app_get M.zero_len _ (by omega), app_get M.zero_len _ (by omega)]
    rfl

theorem rnew_no (k : Int) (hk : k < 0 ∨ 512 < k) (w : World) : Calls Tryz.prog 6 #[.int .i64 k] w fun e w' => e = .returned (.pointer none) ∧ w = w' := by
  rcases hk with hk | hk
  · go_enter Tryz.func6, Tryz.ntmps6
    go_wp2
    go_ret
    exact ⟨rfl, rfl⟩
  · have h0 : 0 ≤ k := by omega
    go_enter Tryz.func6, Tryz.ntmps6
    go_wp2
    go_ret
    exact ⟨rfl, rfl⟩

theorem make46 (w : World) (n : Nat) (hn : n ≤ 512) : ∃ C, (Instr.makeSlice 63 (.int .i64 n) (.int .i64 n)).run Tryz.prog w = .ok (.slice (some ⟨w.heap.size, 0, none⟩) n n) (w.alloc (.cells C 100)) ∧
    ∀ i j, i < n → j < 289 → C[i * 289 + j]? = (sec3 M.zero M.zero false)[j]? := by
  obtain ⟨i0, hi0, hz0, hs0, hb0⟩ := info_of sec70_info
  have hm := run_makeSlice w 63 100 i0 _ Tryz.underlying63 hi0 hz0 .i64 .i64 n n (by omega) (by omega) (by rw [hs0]; omega) (by rw [hb0]; omega) (by omega)
  rw [hs0] at hm
  simp only [Int.toNat_natCast] at hm
  exact ⟨_, hm, fun i j hi hj => made70_get n hi hj⟩

theorem rnew_yes (n : Nat) (hn : n ≤ 512) (w : World) : Calls Tryz.prog 6 #[.int .i64 n] w fun e w' =>
    ∃ rB LB, e = .returned (.pointer (some ⟨rB, 0, none⟩)) ∧ RefAt w' rB LB n M.fresh ∧ Below w.heap.size w w' ∧ w.heap.size ≤ rB ∧ w.heap.size ≤ LB := by
  obtain ⟨C, hm, hC⟩ := make46 w n hn
  have HC := Lib.hid hC
  have hn0 : (0 : Int) ≤ (n : Int) := by omega
  have hn1 : (n : Int) ≤ 512 := by omega
  have Hn := Lib.hid hn
  clear hn hC
  go_enter Tryz.func6, Tryz.ntmps6
  go_wp2
  go_ret
  refine ⟨_, w.heap.size, rfl, ?_, ((Below.refl _ _).alloc (Nat.le_refl _) _).alloc (by simp) _, by omega, by omega⟩
  have hcell : ∀ i j, i < n → j < 289 → ((w.alloc (.cells C 100)).alloc (.cells #[.slice (some ⟨w.heap.size, 0, none⟩) n n, .bool false, .int .i64 (-1)] 65)).cell? ⟨w.heap.size, i * 289 + j, none⟩ = (sec3 M.zero M.zero false)[j]? := fun i j hi hj => by
    rw [World.cell?_alloc_lt _ _ _ (by simp), World.cell?_alloc_mark]
    exact HC.out i j hi hj
  have hfz : ∀ b o, w.heap.size ≤ b → ((w.alloc (.cells C 100)).alloc (.cells #[.slice (some ⟨w.heap.size, 0, none⟩) n n, .bool false, .int .i64 (-1)] 65)).frozen? ⟨b, o, none⟩ = false := fun b o hb => by
    simp only [World.frozen?, World.alloc, Array.getElem?_push, Array.size_push]
    by_cases e1 : b = w.heap.size + 1
    · simp [e1]
    · by_cases e3 : b = w.heap.size
      · simp [e3]
      · simp [e1, e3, show ¬ b < w.heap.size by omega]
  exact { sec := by first | rfl | (rw [show w.heap.size + 1 = (w.alloc (.cells C 100)).heap.size from by simp, World.cell?_alloc_mark]; rfl)
          dead := by first | rfl | (rw [show w.heap.size + 1 = (w.alloc (.cells C 100)).heap.size from by simp, World.cell?_alloc_mark]; rfl)
          fuse := by first | rfl | (rw [show w.heap.size + 1 = (w.alloc (.cells C 100)).heap.size from by simp, World.cell?_alloc_mark]; rfl)
          fz := fun o => hfz _ _ (by omega)
          ne := by omega
          lt := by simp; omega
          secs := made70_sec hcell
          there := fun j hj => by
            refine ⟨?_, hfz _ _ (Nat.le_refl _)⟩
            have h1 := hcell (j / 289) (j % 289) (by omega) (by omega)
            rw [show j / 289 * 289 + j % 289 = j by omega] at h1
            rw [Nat.zero_add, h1, List.getElem?_eq_getElem (by rw [sec3_len M.zero_len M.zero_len]; omega)]
            rfl
          wf := M.fresh_wf n
          n512 := Hn.out }

theorem rmade {W3 : World} {H : Nat} {C : Array Value} (hC : ∀ i j, i < n → j < 289 → C[i * 289 + j]? = (sec3 M.zero M.zero false)[j]?) (hn : n ≤ 512) (hs : W3.heap.size = H) (h1 : W3.cell? ⟨rB, 0, none⟩ = some (.slice (some ⟨H, 0, none⟩) n n))
    (h2 : W3.cell? ⟨rB, 1, none⟩ = some (.bool false)) (h3 : W3.cell? ⟨rB, 2, none⟩ = some (.int .i64 (-1))) (hf : ∀ o, W3.frozen? ⟨rB, o, none⟩ = false) (hlt : rB < H) : RefAt (W3.alloc (.cells C 100)) rB H n M.fresh := by
  subst hs
  have hcell : ∀ i j, i < n → j < 289 → (W3.alloc (.cells C 100)).cell? ⟨W3.heap.size, i * 289 + j, none⟩ = (sec3 M.zero M.zero false)[j]? := fun i j hi hj => by
    rw [World.cell?_alloc_mark]
    exact hC i j hi hj
  exact { sec := by rw [World.cell?_alloc_lt _ _ _ hlt]; exact h1
          dead := by rw [World.cell?_alloc_lt _ _ _ hlt]; exact h2
          fuse := by rw [World.cell?_alloc_lt _ _ _ hlt]; exact h3
          fz := fun o => by rw [World.frozen?_alloc_past _ _ _ hlt]; exact hf o
          ne := by omega
          lt := by simp
          secs := made70_sec hcell
          there := fun j hj => by
            have h9 := hcell (j / 289) (j % 289) (by omega) (by omega)
            rw [show j / 289 * 289 + j % 289 = j by omega] at h9
            exact ⟨by rw [Nat.zero_add, h9, List.getElem?_eq_getElem (by rw [sec3_len M.zero_len M.zero_len]; omega)]; rfl, World.frozen?_alloc_at _ _ _ _ rfl⟩
          wf := M.fresh_wf n
          n512 := hn }

end Go.Proofs.YtpoolpckabpnfaaGreat
namespace Go.Proofs.YtpoolpckabpnfaaGreat
open Go.RowKit Go.Maps
set_option linter.unusedVariables false
set_option linter.unusedSimpArgs false
set_option maxRecDepth 20000

variable {rB LB n : Nat} {d : M.Dv}

/-! a byte at a time -/
def fillTo (l z : List UInt8) (k : Nat) : List UInt8 := l.take k ++ z.drop k
theorem fill_len {l z : List UInt8} {k : Nat} (h1 : k ≤ l.length) (h2 : k ≤ z.length) : (fillTo l z k).length = z.length := by
  unfold fillTo; rw [List.length_append, List.length_take, List.length_drop]; omega
theorem fill_get {l z : List UInt8} {k : Nat} (h1 : k ≤ l.length) (j : Nat) : (fillTo l z k)[j]? = if j < k then l[j]? else z[j]? := by
  unfold fillTo
  by_cases h : j < k
  · rw [if_pos h, List.getElem?_append_left (by rw [List.length_take]; omega), List.getElem?_take_of_lt h]
  · rw [if_neg h, List.getElem?_append_right (by rw [List.length_take]; omega), List.length_take, List.getElem?_drop, show k + (j - min k l.length) = j by omega]
theorem fill_set {l z : List UInt8} {k : Nat} {c : UInt8} (h1 : l[k]? = some c) (h2 : k < z.length) : (fillTo l z k).set k c = fillTo l z (k + 1) := by
  have hk : k < l.length := (List.getElem?_eq_some_iff.1 h1).1
  apply List.ext_getElem?
  intro j
  rw [fill_get (by omega), List.getElem?_set]
  by_cases hj : k = j
  · subst hj
    rw [if_pos rfl, if_pos (by rw [fill_len (by omega) (by omega)]; exact h2), if_pos (by omega), h1]
  · rw [if_neg hj, fill_get (by omega)]
    by_cases hj2 : j < k
    · rw [if_pos hj2, if_pos (by omega)]
    · rw [if_neg hj2, if_neg (by omega)]

theorem range_set {w : World} {b k : Nat} {z : List UInt8} {c : UInt8} (h : w.rangeAt b 0 (u8s z)) (hk : k < z.length) : (w.setCell ⟨b, k, none⟩ (.int .u8 (c.toNat : Int))).rangeAt b 0 (u8s (z.set k c)) := fun j v hv => by
  have hj : j < z.length := by have := (List.getElem?_eq_some_iff.1 hv).1; rw [u8s_length, List.length_set] at this; exact this
  by_cases e : j = k
  · subst e
    have h0 := h j (u8 z[j]) (by simp [u8s, hj])
    rw [Nat.zero_add] at h0 ⊢
    rw [World.cell?_setCell_same _ _ _ h0]
    simp [u8s, hj] at hv
    rw [← hv]
    rfl
  · rw [World.cell?_setCell_other _ _ _ _ (by intro h; injection h with _ h; omega)]
    refine h j v ?_
    unfold u8s at hv ⊢
    rw [List.getElem?_map, List.getElem?_set_ne (by omega)] at hv
    rw [List.getElem?_map]
    exact hv
theorem there_set {w : World} {b o n : Nat} (h : w.there b o n) (p : Addr) (v : Value) : (w.setCell p v).there b o n := fun j hj => by
  obtain ⟨h1, h2⟩ := h j hj
  refine ⟨?_, by rw [World.frozen?_setCell]; exact h2⟩
  obtain ⟨u, hu⟩ := Option.isSome_iff_exists.1 h1
  by_cases e : p = ⟨b, o + j, none⟩
  · subst e; rw [World.cell?_setCell_same _ _ _ hu]; rfl
  · rw [World.cell?_setCell_other _ _ _ _ e, hu]; rfl

/-! sectors of the reference that are not written -/
theorem RSec.apart {w : World} {j : Nat} (h : RSec w LB j d) (hS : (d.S j).length = 144) {i o : Nat} (vs : List Value) (hne : j ≠ i) (h1 : i * 289 ≤ o) (h2 : o + vs.length ≤ i * 289 + 289) : RSec (w.setCells LB o vs) LB j d := by
  obtain ⟨g1, ⟨x, g2, g3, g4⟩, g5⟩ := h
  have hd : j * 289 + 289 ≤ i * 289 ∨ i * 289 + 289 ≤ j * 289 := by
    rcases Nat.lt_or_gt_of_ne hne with h | h
    · left; have : (j + 1) * 289 ≤ i * 289 := Nat.mul_le_mul_right _ h; omega
    · right; have : (i + 1) * 289 ≤ j * 289 := Nat.mul_le_mul_right _ h; omega
  refine ⟨World.rangeAt_setCells_apart g1 _ _ _ (.inr (by rw [u8s_length, hS]; omega)), ⟨x, g2, World.rangeAt_setCells_apart g3 _ _ _ (.inr (by rw [u8s_length, g2]; omega)), g4⟩, ?_⟩
  rw [World.cell?_setCells_out LB vs o w ⟨LB, j * 289 + 288, none⟩ (fun _ _ => by
    show j * 289 + 288 < o ∨ o + vs.length ≤ j * 289 + 288
    omega)]
  exact g5
theorem RSec.upd {w : World} {j i : Nat} (h : RSec w LB j d) (hne : j ≠ i) (x : M.Sec) : RSec w LB j { d with P := M.upd d.P (i : Int) x } := by
  obtain ⟨g1, ⟨x', g2, g3, g4⟩, g5⟩ := h
  have e : M.upd d.P (i : Int) x (j : Int) = d.P (j : Int) := by unfold M.upd; rw [if_neg (by omega)]
  exact ⟨g1, ⟨x', g2, g3, fun s hs => g4 s (e ▸ hs)⟩, by show _ = some (Value.bool (M.upd d.P (i : Int) x (j : Int)).isSome); rw [e]; exact g5⟩

/-- a sector's pending bytes and its mark are written -/
theorem RefAt.setP {w : World} (h : RefAt w rB LB n d) {i : Nat} (hi : i < n) {x : M.Sec} (hx : x.length = 144) : RefAt ((w.setCells LB (i * 289 + 144) (u8s x)).setCell ⟨LB, i * 289 + 288, none⟩ (.bool true)) rB LB n { d with P := M.upd d.P (i : Int) x } := by
  have hs1 : w.setCells LB (i * 289 + 144) (u8s x ++ [.bool true]) = (w.setCells LB (i * 289 + 144) (u8s x)).setCell ⟨LB, i * 289 + 288, none⟩ (.bool true) := by
    have : ∀ (l : List Value) (o : Nat) (w : World) (v : Value), w.setCells LB o (l ++ [v]) = (w.setCells LB o l).setCell ⟨LB, o + l.length, none⟩ v := by
      intro l
      induction l with
      | nil => intro o w v; rfl
      | cons a l ih => intro o w v; simp only [List.cons_append, World.setCells, List.length_cons]; rw [ih]; congr 2; omega
    rw [this, u8s_length, hx]
  rw [← hs1]
  have hin : i * 289 + 289 ≤ n * 289 := by have : (i + 1) * 289 ≤ n * 289 := Nat.mul_le_mul_right _ hi; omega
  have h1 := heap_setCells LB (u8s x ++ [.bool true]) (i * 289 + 144) w rB h.ne
  have hvl : (u8s x ++ [Value.bool true]).length = 145 := by rw [List.length_append, u8s_length, hx]; rfl
  exact { sec := by rw [World.cell?_of_block (w := w) (a := ⟨rB, 0, none⟩) h1]; exact h.sec
          dead := by rw [World.cell?_of_block (w := w) (a := ⟨rB, 1, none⟩) h1]; exact h.dead
          fuse := by rw [World.cell?_of_block (w := w) (a := ⟨rB, 2, none⟩) h1]; exact h.fuse
          fz := fun o => by rw [World.frozen?_of_block (w := w) (a := ⟨rB, o, none⟩) h1]; exact h.fz o
          ne := h.ne
          lt := by rw [size_setCells]; exact h.lt
          secs := fun j hj => by
            by_cases e : j = i
            · subst e
              obtain ⟨g1, _, _⟩ := h.secs j hj
              have hall := World.rangeAt_setCells_same w LB (j * 289 + 144) (u8s x ++ [.bool true]) (fun k hk => by
                rw [hvl] at hk
                have := h.there (j * 289 + 144 + k) (by omega)
                rw [Nat.zero_add] at this
                exact this)
              refine ⟨World.rangeAt_setCells_apart g1 _ _ _ (.inr (.inl (by rw [u8s_length, h.wf.len j]; omega))), ⟨x, hx, fun k v hk => hall k v (by
                rw [List.getElem?_append_left (List.getElem?_eq_some_iff.1 hk).1]; exact hk), fun s hs => ?_⟩, ?_⟩
              · simp only [M.upd, if_true, Option.some.injEq] at hs
                exact hs
              · have := hall 144 (.bool true) (by rw [List.getElem?_append_right (by rw [u8s_length, hx]; omega), u8s_length, hx]; rfl)
                rw [show j * 289 + 144 + 144 = j * 289 + 288 by omega] at this
                rw [this]
                simp [M.upd]
            · exact ((h.secs j hj).apart (h.wf.len j) (i := i) _ e (by omega) (by rw [hvl]; omega)).upd e x
          there := World.there_setCells h.there _ _ _
          wf := ⟨h.wf.len, fun k s hk => by
            simp only [M.upd] at hk
            split at hk
            · rename_i e
              injection hk with hk
              subst hk
              exact ⟨by omega, by omega, hx⟩
            · exact h.wf.pend k s hk, h.wf.lo, h.wf.hi⟩
          n512 := h.n512 }

set_option maxHeartbeats 2000000 in
theorem rwrite_any (w : World) (h : RefAt w rB LB n d) (i : Int) (hi1 : -9223372036854775808 ≤ i) (hi2 : i ≤ 9223372036854775807) (aB : Option Addr) (m c : Nat) (l : List UInt8) (hr : Row w aB m c (u8s l)) (hnb : u8s l = [] ∨ ∀ b off, aB = some ⟨b, off, none⟩ → b ∉ [rB]) :
    Calls Tryz.prog 20 #[.pointer (some ⟨rB, 0, none⟩), .int .i64 i, .slice aB m c] w fun e w' => e = .returned (.int .i64 (M.writeE n d i l)) ∧ RefAt w' rB LB n (M.writeD n d i l) ∧ But [rB, LB] w w' := by
  have hml : m = l.length := by rw [← hr.1, u8s_length]
  have HD := Lib.hid h
  have hdead := h.dead
  have hsec := h.sec
  have h512 := h.n512
  unfold M.writeE M.writeD
  cases hd : d.dead with
  | true =>
    have e1 : M.reach n d i = 30 := by unfold M.reach; rw [hd]; rfl
    rw [e1]
    simp only [show ¬ (30 : Int) = 0 by omega, if_false]
    rw [hd] at hdead
    clear e1 hd h hr hml
    go_enter Tryz.func20, Tryz.ntmps20
    go_wp2
    go_ret
    exact ⟨rfl, HD.out, But.refl _ _⟩
  | false =>
    rw [hd] at hdead
    by_cases c1 : i < 0
    · have e1 : M.reach n d i = 2 := by unfold M.reach; rw [hd, if_neg (by simp), if_pos (.inl c1)]
      rw [e1]
      simp only [show ¬ (2 : Int) = 0 by omega, if_false]
      clear e1 hd h hr hml
      go_enter Tryz.func20, Tryz.ntmps20
      go_wp2
      go_ret
      exact ⟨rfl, HD.out, But.refl _ _⟩
    · have c1' : 0 ≤ i := by omega
      by_cases c2 : (n : Int) ≤ i
      · have e1 : M.reach n d i = 2 := by unfold M.reach; rw [hd, if_neg (by simp), if_pos (.inr c2)]
        rw [e1]
        simp only [show ¬ (2 : Int) = 0 by omega, if_false]
        clear e1 hd h hr hml c1
        go_enter Tryz.func20, Tryz.ntmps20
        go_wp2
        go_ret
        exact ⟨rfl, HD.out, But.refl _ _⟩
      · have c2' : i < (n : Int) := by omega
        have e1 : M.reach n d i = 0 := by unfold M.reach; rw [hd, if_neg (by simp), if_neg (by omega)]
        rw [e1]
        simp only [if_true]
        obtain ⟨i, rfl⟩ : ∃ j : Nat, i = (j : Int) := ⟨i.toNat, by omega⟩
        have Hin : Hid (i < n) := Lib.hid (by omega)
        clear e1 c1 c2
        by_cases c3 : 144 < l.length
        · simp only [if_pos c3]
          have c3' : (144 : Int) < (m : Int) := by omega
          have Hml := Lib.hid hml
          clear hml c3 hr h hd
          go_enter Tryz.func20, Tryz.ntmps20
          go_wp2
          go_ret
          exact ⟨rfl, HD.out, But.refl _ _⟩
        · simp only [if_neg c3]
          have c3' : ¬ (144 : Int) < (m : Int) := by omega
          have HA := Lib.hid (ract_any w h)
          unfold M.actE at HA ⊢
          by_cases c4 : d.fuse = 0
          · simp only [if_pos c4] at HA ⊢
            have Hml := Lib.hid hml
            clear hml c3 hr h c4 hd
            go_enter Tryz.func20, Tryz.ntmps20
            go_wp2_with (go_at_call 47; refine HA.out.mono ?_; rintro e w1 ⟨rfl, hd1, hb1⟩; have HD1 := Lib.hid hd1; have HB1 := Lib.hid hb1; clear hd1 hb1)
            go_ret
            exact ⟨rfl, HD1.out, HB1.out.mono (by simp)⟩
          · simp only [if_neg c4] at HA ⊢
            have HRow := Lib.hid hr
            have Hl : Hid (l.length ≤ 144 ∧ m = l.length) := Lib.hid ⟨by omega, hml⟩
            clear c3 hr h c4 hml hd
            have hact : Hid ((M.actD d).P = d.P) := Lib.hid (M.act_P d)
            generalize M.actD d = d1 at HA hact ⊢
            go_enter Tryz.func20, Tryz.ntmps20
            go_wp2_with (first
              | (go_at_call 47; refine HA.out.mono ?_; rintro e w1 ⟨rfl, hd1, hb1⟩; have HD1 := Lib.hid hd1; have HB1 := Lib.hid hb1; clear hd1 hb1)
              | (refine wpList_build_67 rfl rfl ?_)
              | (refine wpList_alloc_67 rfl rfl ?_; intro w2 hw2
                 obtain ⟨g1, g2, g3, g4⟩ := arr_new w1 hw2
                 have Hg := Lib.hid (And.intro g1 (And.intro g2 (And.intro g3 (g4 [w1.heap.size]))))
                 clear hw2 g1 g2 g3 g4)
              | (refine wpList_store_67 rfl (.tmp 8) (.tmp 33) rfl w1.heap.size 0 rfl M.zero rfl M.zero_len Hg.out.2.1 ?_
                 have hb3 := Hg.out.2.2.2.sets w1.heap.size 0 (u8s M.zero) (.inl (by simp))
                 have HD3 := Lib.hid (HD1.out.but hb3 (by have := HD1.out.ltR; simp; omega) (by have := HD1.out.lt; simp; omega))
                 have HB3 : Hid (But [rB, LB] w (w2.setCells w1.heap.size 0 (u8s M.zero))) := Lib.hid ((HB1.out.mono (by simp)).trans' hb3 HB1.out.size)
                 have HR3 : Hid (Row (w2.setCells w1.heap.size 0 (u8s M.zero)) aB m c (u8s l)) := Lib.hid (row_but HRow.out (HB1.out.trans' hb3 HB1.out.size) hnb)
                 have HT3 := Lib.hid (World.there_setCells Hg.out.2.1 w1.heap.size 0 (u8s M.zero))
                 have HG3 : Hid ((w2.setCells w1.heap.size 0 (u8s M.zero)).rangeAt w1.heap.size 0 (u8s (fillTo l M.zero 0))) := Lib.hid (World.rangeAt_setCells_same w2 w1.heap.size 0 (u8s M.zero) (by rw [u8s_length, M.zero_len]; exact Hg.out.2.1))
                 have HH : Hid (w1.heap.size ≠ rB ∧ w1.heap.size ≠ LB ∧ w.heap.size ≤ w1.heap.size ∧ (u8s l = [] ∨ ∀ b off, aB = some ⟨b, off, none⟩ → b ∉ [w1.heap.size])) := Lib.hid ⟨by have := HD1.out.ltR; omega, by have := HD1.out.lt; omega, HB1.out.size, row_old HRow.out (by simpa using HB1.out.size)⟩
                 clear hb3
                 generalize w2.setCells w1.heap.size 0 (u8s M.zero) = w3 at *))
            generalize w1.heap.size = H at *
            go_loopw [9] (fun t wr => ∃ k : Nat, k ≤ l.length ∧ t = .int .i64 k ∧ RefAt wr rB LB n d1 ∧ But [rB, LB] w wr ∧ Row wr aB m c (u8s l) ∧ wr.there H 0 144 ∧ wr.rangeAt H 0 (u8s (fillTo l M.zero k))) (fun t _ => l.length - (intOf t).toNat)
            case atStart => exact ⟨0, by omega, rfl, HD3.out, HB3.out, HR3.out, HT3.out, HG3.out⟩
            case round =>
              obtain ⟨k, hk, rfl, hdv, hbw, hrw, htw, hgw⟩ := hrel
              have HDv := Lib.hid hdv
              have HBw := Lib.hid hbw
              have HRw := Lib.hid hrw
              have HTw := Lib.hid htw
              have HGw := Lib.hid hgw
              clear hdv hbw hrw htw hgw HD3 HB3 HR3 HT3 HG3
              have hk0 : (0 : Int) ≤ (k : Int) := by omega
              have hk144 : (k : Int) ≤ 144 := by have := Hl.out.1; omega
              by_cases hke : k = l.length
              · have hge : ¬ ((k : Int) < (m : Int)) := by have := Hl.out.2; omega
                have hsec3 := HDv.out.sec
                have Hke := Lib.hid hke
                clear hke
                have hpad : fillTo l M.zero k = M.pad l := by
                  rw [Hke.out]
                  unfold fillTo M.pad M.zero
                  rw [List.take_length, List.drop_replicate]
                have hpl := M.pad_len Hl.out.1
                rw [hpad] at HGw
                have HPL := Lib.hid hpl
                clear hpad hpl
                go_wp2_with fail
                refine wp_region_still_tail 8 (by kernel_rfl) (by kernel_rfl) ?_
                simp only [List.take_succ_cons, List.take_zero, List.drop_succ_cons, List.drop_zero]
                iterate 5 still_step
                refine wpStill_load_67 rfl (.tmp 8) rfl H 0 rfl (M.pad l) HPL.out (rangeAt_block HGw.out rfl) ?_
                iterate 2 still_step
                refine wpStill_nil ?_
                change wpList _ _ _ _ _ wr.drew
                have HD4 := Lib.hid HDv.out.drew
                have HB4 := Lib.hid HBw.out.drew
                have hin : i * 289 + 289 ≤ n * 289 := by have : (i + 1) * 289 ≤ n * 289 := Nat.mul_le_mul_right _ Hin.out; omega
                have Hnn := Lib.hid hin
                clear hin
                generalize wr.drew = w4 at *
                refine wpList_store_67 rfl (.tmp 53) (.tmp 51) rfl LB (i * 289 + 144) rfl (M.pad l) rfl HPL.out (fun j hj => by
                  have := HD4.out.there (i * 289 + 144 + j) (by have := Hnn.out; omega)
                  rw [Nat.zero_add] at this
                  exact this) ?_
                have HW := Lib.hid (HD4.out.setP Hin.out HPL.out)
                have hsec5 : (w4.setCells LB (i * 289 + 144) (u8s (M.pad l))).cell? ⟨rB, 0, none⟩ = some (.slice (some ⟨LB, 0, none⟩) n n) := by
                  rw [World.cell?_of_block (w := w4) (a := ⟨rB, 0, none⟩) (heap_setCells _ _ _ _ _ HD4.out.ne)]; exact HD4.out.sec
                have hc5 : (w4.setCells LB (i * 289 + 144) (u8s (M.pad l))).cell? ⟨LB, i * 289 + 288, none⟩ = some (.bool (d1.P (i : Int)).isSome) := by
                  rw [World.cell?_setCells_out LB _ _ w4 ⟨LB, i * 289 + 288, none⟩ (fun _ _ => .inr (by rw [u8s_length, HPL.out]; show i * 289 + 144 + 144 ≤ i * 289 + 288; omega))]
                  exact (HD4.out.secs i Hin.out).is
                have hf5 : (w4.setCells LB (i * 289 + 144) (u8s (M.pad l))).frozen? ⟨LB, i * 289 + 288, none⟩ = false := by
                  rw [World.frozen?_setCells]
                  have := (HD4.out.there (i * 289 + 288) (by have := Hnn.out; omega)).2
                  rw [Nat.zero_add] at this
                  exact this
                have HB5 : Hid (But [rB, LB] w (w4.setCells LB (i * 289 + 144) (u8s (M.pad l)))) := Lib.hid (HB4.out.sets _ _ _ (.inl (by simp)))
                generalize w4.setCells LB (i * 289 + 144) (u8s (M.pad l)) = w5 at *
                go_wp2
                go_ret
                refine ⟨rfl, ?_, HB5.out.set _ (.inl (by simp))⟩
                have := HW.out
                rw [hact.out] at this
                exact this
              · have hlt : (k : Int) < (m : Int) := by have := Hl.out.2; omega
                have hkl : k < l.length := by omega
                have hkz : k < 144 := by have := Hl.out.1; omega
                clear hke
                obtain ⟨c0, hc0⟩ : ∃ c0, l[k]? = some c0 := ⟨l[k], List.getElem?_eq_getElem hkl⟩
                obtain ⟨bB, oB, rfl, hBlt, hBc⟩ : ∃ bB oB, aB = some ⟨bB, oB, none⟩ ∧ bB < wr.heap.size ∧ wr.cell? ⟨bB, oB + k, none⟩ = some (.int .u8 (c0.toNat : Int)) := by
                  rcases HRw.out.2.2.2 with h0 | ⟨b, off, e, hb, hcc⟩
                  · have := u8s_length l
                    rw [h0] at this
                    simp at this
                    omega
                  · refine ⟨b, off, e, hb, ?_⟩
                    rw [hcc k (by have := Hl.out.2; omega)]
                    simp [u8s, u8, hc0]
                obtain ⟨⟨u0, hu0⟩, hfz0⟩ : (∃ u0, wr.cell? ⟨H, k, none⟩ = some u0) ∧ wr.frozen? ⟨H, k, none⟩ = false := by
                  have := HTw.out k hkz
                  rw [Nat.zero_add] at this
                  exact ⟨Option.isSome_iff_exists.1 this.1, this.2⟩
                have HB6 : Hid (But [rB, LB] w (wr.setCell ⟨H, k, none⟩ (.int .u8 (c0.toNat : Int)))) := Lib.hid (HBw.out.set _ (.inr HH.out.2.2.1))
                have HD6 := Lib.hid (HDv.out.but ((But.refl [H] wr).set (p := ⟨H, k, none⟩) (.int .u8 (c0.toNat : Int)) (.inl (by simp))) (by have := HH.out.1; simp; omega) (by have := HH.out.2.1; simp; omega))
                have HR6 := Lib.hid (row_but HRw.out ((But.refl [H] wr).set (p := ⟨H, k, none⟩) (.int .u8 (c0.toNat : Int)) (.inl (by simp))) HH.out.2.2.2)
                have HT6 := Lib.hid (there_set HTw.out ⟨H, k, none⟩ (.int .u8 (c0.toNat : Int)))
                have HG6 := Lib.hid (range_set (c := c0) HGw.out (k := k) (by rw [fill_len (by omega) (by rw [M.zero_len]; omega), M.zero_len]; exact hkz))
                rw [fill_set hc0 (by rw [M.zero_len]; exact hkz)] at HG6
                clear hc0
                go_wp2_with fail
                go_roundw
                case rel => exact ⟨k + 1, by omega, by go_num, HD6.out, HB6.out, HR6.out, HT6.out, HG6.out⟩
                case measure => simp [intOf]; omega
end Go.Proofs.YtpoolpckabpnfaaGreat
namespace Go.Proofs.YtpoolpckabpnfaaGreat
open Go.RowKit Go.Maps
set_option linter.unusedVariables false
set_option linter.unusedSimpArgs false
set_option maxRecDepth 20000

variable {rB LB n : Nat} {d : M.Dv}

theorem RefAt.below {w w' : World} {B : Nat} (h : RefAt w rB LB n d) (hb : Below B w w') (h1 : rB < B) (h2 : LB < B) : RefAt w' rB LB n d := h.of_blocks (hb.block _ h1) (hb.block _ h2) hb.size

theorem rread_no (w : World) (h : RefAt w rB LB n d) (i : Int) (hi1 : -9223372036854775808 ≤ i) (hi2 : i ≤ 9223372036854775807) (hr : M.reach n d i ≠ 0) :
    Calls Tryz.prog 26 #[.pointer (some ⟨rB, 0, none⟩), .int .i64 i] w fun e w' => e = .returned (.tuple #[.slice none 0 0, .int .i64 (M.reach n d i)]) ∧ w = w' := by
  have hdead := h.dead
  have hsec := h.sec
  have h512 := h.n512
  cases hd : d.dead with
  | true =>
    have e1 : M.reach n d i = 30 := by unfold M.reach; rw [hd]; rfl
    rw [e1]
    rw [hd] at hdead
    clear e1 hd h hr
    go_enter Tryz.func26, Tryz.ntmps26
    go_wp2
    go_ret2
    exact ⟨rfl, rfl⟩
  | false =>
    rw [hd] at hdead
    by_cases c1 : i < 0
    · have e1 : M.reach n d i = 2 := by unfold M.reach; rw [hd, if_neg (by simp), if_pos (.inl c1)]
      rw [e1]
      clear e1 hd h hr
      go_enter Tryz.func26, Tryz.ntmps26
      go_wp2
      go_ret2
      exact ⟨rfl, rfl⟩
    · have c1' : 0 ≤ i := by omega
      by_cases c2 : (n : Int) ≤ i
      · have e1 : M.reach n d i = 2 := by unfold M.reach; rw [hd, if_neg (by simp), if_pos (.inr c2)]
        rw [e1]
        clear e1 hd h hr c1
        go_enter Tryz.func26, Tryz.ntmps26
        go_wp2
        go_ret2
        exact ⟨rfl, rfl⟩
      · exact absurd (by unfold M.reach; rw [hd, if_neg (by simp), if_neg (by omega)]) hr

theorem u8s_take {s : List UInt8} {k : Nat} {c : UInt8} (h : s[k]? = some c) : u8s (s.take (k + 1)) = u8s (s.take k) ++ [.int .u8 (c.toNat : Int)] := by
  obtain ⟨hk, rfl⟩ := List.getElem?_eq_some_iff.1 h
  rw [List.take_add_one, List.getElem?_eq_getElem hk, Option.toList_some]
  unfold u8s
  rw [List.map_append]
  rfl

set_option maxHeartbeats 2000000 in
theorem rread_yes (w : World) (h : RefAt w rB LB n d) (i : Nat) (hr : M.reach n d i = 0) :
    Calls Tryz.prog 26 #[.pointer (some ⟨rB, 0, none⟩), .int .i64 i] w fun e w' => ∃ a cap, e = .returned (.tuple #[.slice a 144 cap, .int .i64 0]) ∧ Row w' a 144 cap (u8s (M.seen d i)) ∧ Below w.heap.size w w' := by
  obtain ⟨b1, b2, b3⟩ := reach_bounds hr
  have hdead := h.dead
  have hsec := h.sec
  have h512 := h.n512
  have hin : i < n := by omega
  have Hin := Lib.hid hin
  rw [b3] at hdead
  have HD := Lib.hid h
  have HL : Hid (rB < w.heap.size ∧ LB < w.heap.size) := Lib.hid ⟨h.ltR, h.lt⟩
  have Hsl : Hid ((M.seen d i).length = 144) := Lib.hid (M.sure_len h.wf i)
  have hi0 : (0 : Int) ≤ (i : Int) := by omega
  have hi1 : (i : Int) < (n : Int) := by omega
  have hi2 : ¬ ((n : Int) ≤ (i : Int)) := by omega
  clear hr h b1 b2 b3 hin
  go_enter Tryz.func26, Tryz.ntmps26
  go_wp2_with fail
  have HO := Lib.hid (own_lit 5 w w.heap.size [] (Nat.le_refl _) (by simp))
  have HD1 := Lib.hid (HD.out.alloc (.cells #[] 5))
  have HB1 := Lib.hid ((Below.refl w.heap.size w).alloc (Nat.le_refl _) (.cells #[] 5))
  go_loopw [6, 7] (fun t u wr => ∃ (k : Nat) (A : Option Addr) (cap : Nat), k ≤ 144 ∧ u = .int .i64 k ∧ t = .slice A k cap ∧ RefAt wr rB LB n d ∧ Below w.heap.size w wr ∧ Own 5 wr w.heap.size A k cap (u8s ((M.seen d i).take k))) (fun _ u _ => 144 - (intOf u).toNat)
  case atStart => exact ⟨0, _, _, by omega, rfl, rfl, HD1.out, HB1.out, HO.out⟩
  case round =>
    obtain ⟨k, A, cap, hk, rfl, rfl, hdv, hbw, how⟩ := hrel
    have HDv := Lib.hid hdv
    have HBw := Lib.hid hbw
    have HOw := Lib.hid how
    have hsec3 := hdv.sec
    have his := (hdv.secs i Hin.out).is
    clear hdv hbw how HD1 HB1 HO
    have hk0 : (0 : Int) ≤ (k : Int) := by omega
    by_cases hke : k = 144
    · subst hke
      try rw [show ((144 : Nat) : Int) = 144 from rfl]
      go_wp2_with fail
      go_ret2
      have := HOw.out.row.1
      rw [List.take_of_length_le (by rw [Hsl.out]; omega)] at this
      exact ⟨_, _, rfl, this, HBw.out⟩
    · have hlt : (k : Int) < 144 := by omega
      have hkz : k < 144 := by omega
      clear hke
      obtain ⟨c0, hc0⟩ : ∃ c0, (M.seen d i)[k]? = some c0 := ⟨_, List.getElem?_eq_getElem (by rw [Hsl.out]; exact hkz)⟩
      have HS := Lib.hid (u8s_take hc0)
      cases hp : d.P (i : Int) with
      | some s =>
        rw [hp] at his
        have hby : wr.cell? ⟨LB, i * 289 + 144 + k, none⟩ = some (.int .u8 (c0.toNat : Int)) := by
          obtain ⟨x, hx, hrx, he⟩ := (HDv.out.secs i Hin.out).p
          obtain rfl := he s hp
          have : M.seen d i = x := by unfold M.seen; rw [hp]; rfl
          rw [this] at hc0
          exact hrx k _ (by simp [u8s, u8, hc0])
        clear hp hc0
        simp only [Option.isSome_some] at his
        have HO6 := Lib.hid (HOw.out.but ((But.refl [] wr).alloc (.cells #[.int .u8 (c0.toNat : Int)] 5)) (by simp))
        have HD6 := Lib.hid (HDv.out.alloc (.cells #[.int .u8 (c0.toNat : Int)] 5))
        have HB6 := Lib.hid (HBw.out.alloc HBw.out.size (.cells #[.int .u8 (c0.toNat : Int)] 5))
        have HR6 := Lib.hid (row_one wr 5 (.int .u8 (c0.toNat : Int)))
        go_wp2_with (refine wpList_append_one rfl (.tmp 36) (.tmp 47) 50 5 rfl (.int .u8 0) 1 Tryz.underlying50 u8_info rfl (by omega) w.heap.size A k cap (u8s ((M.seen d i).take k)) rfl HO6.out wr.heap.size 1 (.int .u8 (c0.toNat : Int)) rfl HR6.out rfl (by omega) HB6.out.size ?_
                     intro a8 cap8 w8 hown8 hgr8 hb8
                     have HO8 := Lib.hid hown8
                     have HD8 := Lib.hid (HD6.out.below hb8 HL.out.1 HL.out.2)
                     have HB8 := Lib.hid (HB6.out.trans hb8)
                     clear hown8 hgr8 hb8)
        go_roundw
        case rel => exact ⟨k + 1, _, _, by omega, by go_num, rfl, HD8.out, HB8.out, by rw [HS.out]; exact HO8.out⟩
        case measure => simp [intOf]; omega
      | none =>
        rw [hp] at his
        have hby : wr.cell? ⟨LB, i * 289 + k, none⟩ = some (.int .u8 (c0.toNat : Int)) := by
          have : M.seen d i = d.S i := by unfold M.seen; rw [hp]; rfl
          rw [this] at hc0
          exact (HDv.out.secs i Hin.out).b k _ (by simp [u8s, u8, hc0])
        clear hp hc0
        simp only [Option.isSome_none] at his
        have HO6 := Lib.hid (HOw.out.but ((But.refl [] wr).alloc (.cells #[.int .u8 (c0.toNat : Int)] 5)) (by simp))
        have HD6 := Lib.hid (HDv.out.alloc (.cells #[.int .u8 (c0.toNat : Int)] 5))
        have HB6 := Lib.hid (HBw.out.alloc HBw.out.size (.cells #[.int .u8 (c0.toNat : Int)] 5))
        have HR6 := Lib.hid (row_one wr 5 (.int .u8 (c0.toNat : Int)))
        go_wp2_with (refine wpList_append_one rfl (.tmp 49) (.tmp 60) 50 5 rfl (.int .u8 0) 1 Tryz.underlying50 u8_info rfl (by omega) w.heap.size A k cap (u8s ((M.seen d i).take k)) rfl HO6.out wr.heap.size 1 (.int .u8 (c0.toNat : Int)) rfl HR6.out rfl (by omega) HB6.out.size ?_
                     intro a8 cap8 w8 hown8 hgr8 hb8
                     have HO8 := Lib.hid hown8
                     have HD8 := Lib.hid (HD6.out.below hb8 HL.out.1 HL.out.2)
                     have HB8 := Lib.hid (HB6.out.trans hb8)
                     clear hown8 hgr8 hb8)
        go_roundw
        case rel => exact ⟨k + 1, _, _, by omega, by go_num, rfl, HD8.out, HB8.out, by rw [HS.out]; exact HO8.out⟩
        case measure => simp [intOf]; omega

theorem pendL_succ (k : Nat) (P : Int → Option M.Sec) : M.pendL (k + 1) P = M.pendL k P ++ (if (P (k : Int)).isSome then [(k : Int)] else []) := by
  unfold M.pendL
  rw [List.range_succ, List.map_append, List.filter_append]
  simp [List.filter_cons]
theorem ints_app (l m : List Int) : ints (l ++ m) = ints l ++ ints m := List.map_append
theorem int_info : (Tryz.prog.info? 3).map (fun i => (i.zero, i.size, i.bytes)) = some (some (.int .i64 0), 1, 8) := by kernel_rfl

end Go.Proofs.YtpoolpckabpnfaaGreat
namespace Go.Proofs.YtpoolpckabpnfaaGreat
open Go.RowKit Go.Maps
set_option linter.unusedVariables false
set_option linter.unusedSimpArgs false
set_option maxRecDepth 20000

variable {rB LB n : Nat} {d : M.Dv}

/-- sector i becomes sure, with bytes s -/
def M.setS (d : M.Dv) (i : Nat) (s : M.Sec) : M.Dv := { d with S := fun j => if j = i then s else d.S j, P := fun q => if q = (i : Int) then none else d.P q }

theorem RefAt.setS {w : World} (h : RefAt w rB LB n d) {i : Nat} (hi : i < n) {s : M.Sec} (hs : s.length = 144) : RefAt (w.setCells LB (i * 289) (sec3 s M.zero false)) rB LB n (M.setS d i s) := by
  have hin : i * 289 + 289 ≤ n * 289 := by have : (i + 1) * 289 ≤ n * 289 := Nat.mul_le_mul_right _ hi; omega
  have h1 := heap_setCells LB (sec3 s M.zero false) (i * 289) w rB h.ne
  have hvl : (sec3 s M.zero false).length = 289 := sec3_len hs M.zero_len
  exact { sec := by rw [World.cell?_of_block (w := w) (a := ⟨rB, 0, none⟩) h1]; exact h.sec
          dead := by rw [World.cell?_of_block (w := w) (a := ⟨rB, 1, none⟩) h1]; exact h.dead
          fuse := by rw [World.cell?_of_block (w := w) (a := ⟨rB, 2, none⟩) h1]; exact h.fuse
          fz := fun o => by rw [World.frozen?_of_block (w := w) (a := ⟨rB, o, none⟩) h1]; exact h.fz o
          ne := h.ne
          lt := by rw [size_setCells]; exact h.lt
          secs := fun j hj => by
            by_cases e : j = i
            · subst e
              have hall := World.rangeAt_setCells_same w LB (j * 289) (sec3 s M.zero false) (fun k hk => by
                rw [hvl] at hk
                have := h.there (j * 289 + k) (by omega)
                rw [Nat.zero_add] at this
                exact this)
              have e1 : (M.setS d j s).S j = s := by simp [M.setS]
              have e2 : (M.setS d j s).P (j : Int) = none := by simp [M.setS]
              refine ⟨fun k v hk => ?_, ⟨M.zero, M.zero_len, fun k v hk => ?_, fun s' hs' => by rw [e2] at hs'; cases hs'⟩, ?_⟩
              · rw [e1] at hk
                exact hall k v (by unfold sec3; rw [List.getElem?_append_left (List.getElem?_eq_some_iff.1 hk).1]; exact hk)
              · rw [Nat.add_assoc]
                exact hall (144 + k) v (by unfold sec3; rw [app_get hs _ (by omega), show 144 + k - 144 = k by omega, List.getElem?_append_left (List.getElem?_eq_some_iff.1 hk).1]; exact hk)
              · rw [e2]
                exact hall 288 _ (by unfold sec3; rw [app_get hs _ (by omega), app_get M.zero_len _ (by omega)]; rfl)
            · have hb := (h.secs j hj).apart (h.wf.len j) (i := i) (o := i * 289) (sec3 s M.zero false) e (by omega) (by rw [hvl]; omega)
              obtain ⟨g1, g2, g3⟩ := hb
              have e1 : (M.setS d i s).S j = d.S j := by simp [M.setS, e]
              have e2 : (M.setS d i s).P (j : Int) = d.P (j : Int) := by
                unfold M.setS
                exact if_neg (by omega)
              exact ⟨by rw [e1]; exact g1, by rw [e2]; exact g2, by rw [e2]; exact g3⟩
          there := World.there_setCells h.there _ _ _
          wf := ⟨fun j => by
              show (if j = i then s else d.S j).length = 144
              split
              · exact hs
              · exact h.wf.len j, fun k s' hk => by
              have hk : (if k = (i : Int) then none else d.P k) = some s' := hk
              split at hk
              · cases hk
              · exact h.wf.pend k s' hk, h.wf.lo, h.wf.hi⟩
          n512 := h.n512 }

/-- the first k sectors are sure -/
def M.sureU (k : Nat) (d : M.Dv) : M.Dv := { d with S := fun j => if j < k then M.sure d j else d.S j, P := fun q => if q < (k : Int) then none else d.P q }

theorem RefAt.zeroU {w : World} (h : RefAt w rB LB n d) : RefAt w rB LB n (M.sureU 0 d) :=
  h.same (fun i => by simp [M.sureU]) (fun q => by
    unfold M.sureU
    show d.P q = if q < ((0 : Nat) : Int) then none else d.P q
    split
    · cases hp : d.P q with
      | none => rfl
      | some s => have := (h.wf.pend q s hp).1; omega
    · rfl) rfl rfl
theorem RefAt.endU {w : World} (h : RefAt w rB LB n (M.sureU n d)) (hw : M.Wf n d) : RefAt w rB LB n { d with S := M.sure d, P := fun _ => none } :=
  have hn : ∀ q, (n : Int) ≤ q → d.P q = none := fun q hq => by
    cases hp : d.P q with
    | none => rfl
    | some s => have := (hw.pend q s hp).2.1; omega
  h.same (fun i => by
    show (if i < n then M.sure d i else d.S i) = M.sure d i
    split
    · rfl
    · unfold M.sure; rw [hn i (by omega)]; rfl) (fun q => by
    show (if q < (n : Int) then none else d.P q) = none
    split
    · rfl
    · exact hn q (by omega)) rfl rfl
theorem RefAt.stepU {w : World} {k : Nat} {s : M.Sec} (h : RefAt w rB LB n (M.setS (M.sureU k d) k s)) (hp : d.P (k : Int) = some s) : RefAt w rB LB n (M.sureU (k + 1) d) :=
  h.same (fun i => by
    show (if i = k then s else if i < k then M.sure d i else d.S i) = if i < k + 1 then M.sure d i else d.S i
    by_cases e : i = k
    · subst e; rw [if_pos rfl, if_pos (by omega)]; unfold M.sure; rw [hp]; rfl
    · rw [if_neg e]
      by_cases e2 : i < k
      · rw [if_pos e2, if_pos (by omega)]
      · rw [if_neg e2, if_neg (by omega)]) (fun q => by
    show (if q = (k : Int) then none else if q < (k : Int) then none else d.P q) = if q < ((k + 1 : Nat) : Int) then none else d.P q
    by_cases e : q = (k : Int)
    · rw [if_pos e, if_pos (by omega)]
    · rw [if_neg e]
      by_cases e2 : q < (k : Int)
      · rw [if_pos e2, if_pos (by omega)]
      · rw [if_neg e2, if_neg (by omega)]) rfl rfl
theorem RefAt.skipU {w : World} {k : Nat} (h : RefAt w rB LB n (M.sureU k d)) (hp : d.P (k : Int) = none) : RefAt w rB LB n (M.sureU (k + 1) d) :=
  h.same (fun i => by
    show (if i < k then M.sure d i else d.S i) = if i < k + 1 then M.sure d i else d.S i
    by_cases e : i = k
    · subst e; rw [if_neg (by omega), if_pos (by omega)]; unfold M.sure; rw [hp]; rfl
    · by_cases e2 : i < k
      · rw [if_pos e2, if_pos (by omega)]
      · rw [if_neg e2, if_neg (by omega)]) (fun q => by
    show (if q < (k : Int) then none else d.P q) = if q < ((k + 1 : Nat) : Int) then none else d.P q
    by_cases e : q = (k : Int)
    · rw [e, if_neg (by omega), if_pos (by omega), hp]
    · by_cases e2 : q < (k : Int)
      · rw [if_pos e2, if_pos (by omega)]
      · rw [if_neg e2, if_neg (by omega)]) rfl rfl
theorem sureU_P (k : Nat) (d : M.Dv) : (M.sureU k d).P (k : Int) = d.P (k : Int) := by
  show (if (k : Int) < (k : Int) then none else d.P (k : Int)) = _
  rw [if_neg (by omega)]

set_option maxHeartbeats 2000000 in
theorem rbarrier_any (w : World) (h : RefAt w rB LB n d) :
    Calls Tryz.prog 80 #[.pointer (some ⟨rB, 0, none⟩)] w fun e w' => e = .returned (.int .i64 (M.barrierE d)) ∧ RefAt w' rB LB n (M.barrierD d) ∧ But [rB, LB] w w' := by
  have HD := Lib.hid h
  have hdead := h.dead
  have h512 := h.n512
  unfold M.barrierE M.barrierD
  cases hd : d.dead with
  | true =>
    rw [hd] at hdead
    simp only [if_true]
    clear hd h
    go_enter Tryz.func80, Tryz.ntmps80
    go_wp2
    go_ret
    exact ⟨rfl, HD.out, But.refl _ _⟩
  | false =>
    rw [hd] at hdead
    simp only [Bool.false_eq_true, if_false]
    have HA := Lib.hid (ract_any w h)
    unfold M.actE at HA ⊢
    by_cases c4 : d.fuse = 0
    · simp only [if_pos c4] at HA ⊢
      clear h c4 hd
      go_enter Tryz.func80, Tryz.ntmps80
      go_wp2_with (go_at_call 47; refine HA.out.mono ?_; rintro e w1 ⟨rfl, hd1, hb1⟩; have HD1 := Lib.hid hd1; have HB1 := Lib.hid hb1; clear hd1 hb1)
      go_ret
      exact ⟨rfl, HD1.out, HB1.out.mono (by simp)⟩
    · simp only [if_neg c4] at HA ⊢
      have HS : Hid ({ M.actD d with S := M.sure d, P := fun _ => none } = { M.actD d with S := M.sure (M.actD d), P := fun _ => none }) := Lib.hid (by unfold M.sure; rw [M.act_P, M.act_S])
      rw [HS.out]
      generalize M.actD d = d1 at HA ⊢
      clear h c4 hd HS
      go_enter Tryz.func80, Tryz.ntmps80
      go_wp2_with (go_at_call 47; refine HA.out.mono ?_; rintro e w1 ⟨rfl, hd1, hb1⟩; have HWf := Lib.hid hd1.wf; have HD1 := Lib.hid hd1.zeroU; have HB1 : Hid (But [rB, LB] w w1) := Lib.hid (hb1.mono (by simp)); clear hd1 hb1)
      go_loopw [4] (fun t wr => ∃ k : Nat, k ≤ n ∧ t = .int .i64 k ∧ RefAt wr rB LB n (M.sureU k d1) ∧ But [rB, LB] w wr) (fun t _ => n - (intOf t).toNat)
      case atStart => exact ⟨0, by omega, rfl, HD1.out, HB1.out⟩
      case round =>
        obtain ⟨k, hk, rfl, hdv, hbw⟩ := hrel
        have HDv := Lib.hid hdv
        have HBw := Lib.hid hbw
        have hsec3 := hdv.sec
        clear hdv hbw HD1 HB1
        have hk0 : (0 : Int) ≤ (k : Int) := by omega
        by_cases hke : k = n
        · subst hke
          go_wp2_with fail
          go_ret
          exact ⟨rfl, HDv.out.endU HWf.out, HBw.out⟩
        · have hlt : (k : Int) < (n : Int) := by omega
          have hkz : k < n := by omega
          have Hkz := Lib.hid hkz
          clear hke
          have his := (HDv.out.secs k hkz).is
          rw [sureU_P] at his
          cases hp : d1.P (k : Int) with
          | none =>
            rw [hp] at his
            have HDx := Lib.hid (HDv.out.skipU hp)
            simp only [Option.isSome_none] at his
            clear hp hkz
            go_wp2_with fail
            go_roundw
            case rel => exact ⟨k + 1, by omega, by go_num, HDx.out, HBw.out⟩
            case measure => simp [intOf]; omega
          | some s =>
            rw [hp] at his
            simp only [Option.isSome_some] at his
            obtain ⟨hsl, hrg⟩ : s.length = 144 ∧ wr.rangeAt LB (k * 289 + 144) (u8s s) := by
              obtain ⟨x, hx, hrx, he⟩ := (HDv.out.secs k hkz).p
              obtain rfl := he s (by rw [sureU_P]; exact hp)
              exact ⟨hx, hrx⟩
            have HRg := Lib.hid (And.intro hsl hrg)
            have HP := Lib.hid hp
            clear hp hkz hsl hrg
            go_wp2_with fail
            refine wp_region_still_tail 15 (by kernel_rfl) (by kernel_rfl) ?_
            simp only [List.take_succ_cons, List.take_zero, List.drop_succ_cons, List.drop_zero]
            iterate 12 still_step
            refine wpStill_load_67 rfl (.tmp 42) rfl LB (k * 289 + 144) rfl s HRg.out.1 (rangeAt_block HRg.out.2 rfl) ?_
            refine wpStill_build_70 rfl (.tmp 43) rfl s rfl HRg.out.1 ?_
            still_step
            refine wpStill_nil ?_
            change wpList _ _ _ _ _ wr.drew
            have HD4 := Lib.hid HDv.out.drew
            have HB4 := Lib.hid HBw.out.drew
            have hin : k * 289 + 289 ≤ n * 289 := by have : (k + 1) * 289 ≤ n * 289 := Nat.mul_le_mul_right _ Hkz.out; omega
            have Hnn := Lib.hid hin
            clear hin
            generalize wr.drew = w4 at *
            refine wpList_store_70 rfl (.tmp 45) (.tmp 44) rfl LB (k * 289) rfl s rfl HRg.out.1 (fun j hj => by
              have := HD4.out.there (k * 289 + j) (by have := Hnn.out; omega)
              rw [Nat.zero_add] at this
              exact this) ?_
            have HD5 := Lib.hid ((HD4.out.setS Hkz.out HRg.out.1).stepU HP.out)
            have HB5 : Hid (But [rB, LB] w (w4.setCells LB (k * 289) (sec3 s M.zero false))) := Lib.hid (HB4.out.sets _ _ _ (.inl (by simp)))
            generalize w4.setCells LB (k * 289) (sec3 s M.zero false) = w5 at *
            go_wp2
            go_roundw
            case rel => exact ⟨k + 1, by omega, by go_num, HD5.out, HB5.out⟩
            case measure => simp [intOf]; omega
end Go.Proofs.YtpoolpckabpnfaaGreat
