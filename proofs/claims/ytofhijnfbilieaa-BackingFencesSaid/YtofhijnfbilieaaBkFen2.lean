/-
  Is an act too large to be looked at? What a crash keeps, in a row of the call's own. A store that runs where the power may go.
-/
import Derived.Test.YtofhijnfbilieaaBkRun
import Derived.Test.YtofhijnfbilieaaBkFen
import Derived.BigRegion
namespace Go.Proofs.Ytofhijnfbilieaa.Bk
open Go.RowKit Go.Maps
open Ml (Mg may msgV)
set_option linter.unusedVariables false
set_option linter.unusedSimpArgs false
set_option maxRecDepth 20000

def Lrg (x : Ac) : Prop := 1000 < x.s.size ∨ 600 < x.nL ∨ 1000 < x.m.data.size ∨ 1000 < x.m.row.size
instance (x : Ac) : Decidable (Lrg x) := by unfold Lrg; infer_instance
set_option maxHeartbeats 4000000 in
theorem large_any (w : World) (x : Ac) : Calls Try.prog 10 #[actV x] w fun r w' => r = .returned (.bool (decide (Lrg x))) ∧ Below w.heap.size w w' := by
  obtain ⟨kind, n, ⟨mk, mep, msq, mn, mb, mc, me, m0, m1, m2, m3, data, row⟩, s, aL, nL, cL, l⟩ := x
  have HB := Lib.hid ((Below.refl w.heap.size w).alloc (Nat.le_refl _) (.cells #[.int .i64 kind, .int .i64 n, .int .i64 mk, .int .i64 mep, .int .i64 msq, .int .i64 mn, .int .i64 mb, .int .i64 mc, .int .i64 me, .int .i64 m0, .int .i64 m1, .int .i64 m2, .int .i64 m3, .string data, .string row, .string s, .slice aL nL cL] 34))
  unfold actV
  simp only
  by_cases h1 : 1000 < s.size
  · have e1 : decide (Lrg ⟨kind, n, ⟨mk, mep, msq, mn, mb, mc, me, m0, m1, m2, m3, data, row⟩, s, aL, nL, cL, l⟩) = true := decide_eq_true (by unfold Lrg; simp only; omega)
    rw [e1]
    have i1 : (1000 : Int) < (s.size : Int) := by omega
    clear e1
    go_enter Try.func10, Try.ntmps10
    go_wp2_with fail
    go_ret
    exact ⟨rfl, HB.out⟩
  have i1 : ¬ (1000 : Int) < (s.size : Int) := by omega
  by_cases h2 : 600 < nL
  · have e1 : decide (Lrg ⟨kind, n, ⟨mk, mep, msq, mn, mb, mc, me, m0, m1, m2, m3, data, row⟩, s, aL, nL, cL, l⟩) = true := decide_eq_true (by unfold Lrg; simp only; omega)
    rw [e1]
    have i2 : (600 : Int) < (nL : Int) := by omega
    clear e1
    go_enter Try.func10, Try.ntmps10
    go_wp2_with fail
    go_ret
    exact ⟨rfl, HB.out⟩
  have i2 : ¬ (600 : Int) < (nL : Int) := by omega
  by_cases h3 : 1000 < data.size
  · have e1 : decide (Lrg ⟨kind, n, ⟨mk, mep, msq, mn, mb, mc, me, m0, m1, m2, m3, data, row⟩, s, aL, nL, cL, l⟩) = true := decide_eq_true (by unfold Lrg; simp only; omega)
    rw [e1]
    have i3 : (1000 : Int) < (data.size : Int) := by omega
    clear e1
    go_enter Try.func10, Try.ntmps10
    go_wp2_with fail
    go_ret
    exact ⟨rfl, HB.out⟩
  have i3 : ¬ (1000 : Int) < (data.size : Int) := by omega
  by_cases h4 : 1000 < row.size
  · have e1 : decide (Lrg ⟨kind, n, ⟨mk, mep, msq, mn, mb, mc, me, m0, m1, m2, m3, data, row⟩, s, aL, nL, cL, l⟩) = true := decide_eq_true (by unfold Lrg; simp only; omega)
    rw [e1]
    have i4 : (1000 : Int) < (row.size : Int) := by omega
    clear e1
    go_enter Try.func10, Try.ntmps10
    go_wp2_with fail
    go_ret
    exact ⟨rfl, HB.out⟩
  have i4 : ¬ (1000 : Int) < (row.size : Int) := by omega
  have e1 : decide (Lrg ⟨kind, n, ⟨mk, mep, msq, mn, mb, mc, me, m0, m1, m2, m3, data, row⟩, s, aL, nL, cL, l⟩) = false := decide_eq_false (by unfold Lrg; simp only; omega)
  rw [e1]
  clear e1
  go_enter Try.func10, Try.ntmps10
  go_wp2_with fail
  go_ret
  exact ⟨rfl, HB.out⟩

/-! ## what a crash keeps, in a row of the call's own -/
def kls : List (Int × Int) → List Value
  | [] => []
  | x :: xs => .int .i64 x.1 :: .int .i64 x.2 :: kls xs
theorem kls_length : ∀ l : List (Int × Int), (kls l).length = l.length * 2
  | [] => rfl
  | x :: xs => by simp [kls, kls_length xs]; omega
theorem kls_get : ∀ {l : List (Int × Int)} {j : Nat} {v : Value}, (kls l)[j]? = some v → ∃ i x, l[i]? = some x ∧ ((j = i * 2 ∧ v = .int .i64 x.1) ∨ (j = i * 2 + 1 ∧ v = .int .i64 x.2))
  | [], j, v, h => by simp [kls] at h
  | x :: xs, 0, v, h => by simp [kls] at h; exact ⟨0, x, rfl, .inl ⟨rfl, h.symm⟩⟩
  | x :: xs, 1, v, h => by simp [kls] at h; exact ⟨0, x, rfl, .inr ⟨rfl, h.symm⟩⟩
  | x :: xs, j + 2, v, h => by
    obtain ⟨i, y, h1, h2⟩ := kls_get (l := xs) (j := j) (v := v) (by simpa [kls] using h)
    refine ⟨i + 1, y, by simpa using h1, ?_⟩
    rcases h2 with ⟨h2, h3⟩ | ⟨h2, h3⟩
    · exact .inl ⟨by omega, h3⟩
    · exact .inr ⟨by omega, h3⟩
theorem kls_at : ∀ {l : List (Int × Int)} {i : Nat} {x : Int × Int}, l[i]? = some x → (kls l)[i * 2]? = some (.int .i64 x.1) ∧ (kls l)[i * 2 + 1]? = some (.int .i64 x.2)
  | [], i, x, h => by simp at h
  | y :: ys, 0, x, h => by simp at h; subst h; exact ⟨rfl, rfl⟩
  | y :: ys, i + 1, x, h => by
    have := kls_at (l := ys) (i := i) (x := x) (by simpa using h)
    rw [show (i + 1) * 2 = i * 2 + 2 by omega, show i * 2 + 2 + 1 = (i * 2 + 1) + 2 by omega]
    simpa [kls] using this

structure KOwn (base : Nat) (w : World) (g n c : Nat) (l : List (Int × Int)) : Prop where
  bs : base ≤ g
  lt : g < w.heap.size
  ln : l.length = n
  le : n ≤ c
  mx : c ≤ maxLen
  cl : ∀ i x, l[i]? = some x → w.cell? ⟨g, i * 2, none⟩ = some (.int .i64 x.1) ∧ w.cell? ⟨g, i * 2 + 1, none⟩ = some (.int .i64 x.2)
  fz : ∀ o, w.frozen? ⟨g, o, none⟩ = false
theorem KOwn.row {base : Nat} {w : World} {g n c : Nat} {l : List (Int × Int)} (h : KOwn base w g n c l) : KRow w (some ⟨g, 0, none⟩) n c l :=
  ⟨h.ln, h.le, h.mx, .inr ⟨g, 0, rfl, h.lt, fun i x hx => by rw [Nat.zero_add]; exact h.cl i x hx⟩⟩
theorem KOwn.set {base : Nat} {w : World} {g n c : Nat} {l : List (Int × Int)} (h : KOwn base w g n c l) {i : Nat} {x : Int × Int} (hx : l[i]? = some x) (v : Int) : KOwn base (w.setCell ⟨g, i * 2, none⟩ (.int .i64 v)) g n c (l.set i (v, x.2)) := by
  have hi : i < l.length := (List.getElem?_eq_some_iff.1 hx).1
  refine ⟨h.bs, by simpa [World.setCell] using h.lt, by simpa using h.ln, h.le, h.mx, fun j y hy => ?_, fun o => by rw [World.frozen?_setCell]; exact h.fz o⟩
  by_cases e : j = i
  · subst e
    rw [List.getElem?_set_self hi] at hy
    injection hy with hy
    subst hy
    exact ⟨World.cell?_setCell_same _ _ _ (h.cl j x hx).1, by rw [World.cell?_setCell_other _ _ _ _ (by simp)]; exact (h.cl j x hx).2⟩
  · rw [List.getElem?_set_ne (by omega)] at hy
    exact ⟨by rw [World.cell?_setCell_other _ _ _ _ (by intro z; injection z with _ z; omega)]; exact (h.cl j y hy).1, by rw [World.cell?_setCell_other _ _ _ _ (by intro z; injection z with _ z; omega)]; exact (h.cl j y hy).2⟩

theorem keep_info : (Try.prog.info? 44).map (fun i => (i.zero, i.size, i.bytes)) = some (some (.agg #[.int .i64 0, .int .i64 0]), 2, 16) := by kernel_rfl
theorem run_append_keeps (w : World) (ty : TypeId) {base g0 : Nat} (hb : base ≤ g0) (hg : w.heap[g0]? = some (.cells #[] 44 (0, 0))) (aL : Option Addr) (nL cL : Nat) (ks : List (Int × Int)) (h : KRow w aL nL cL ks) (hn : nL ≤ 600) :
    ∃ g' c' w', (Builtin.append_ #[32, 32] ty #[.slice (some ⟨g0, 0, none⟩) 0 0, .slice aL nL cL]).run Try.prog w = .ok (.slice (some ⟨g', 0, none⟩) nL c') w' ∧ KOwn base w' g' nL c' ks ∧ But [] w w' := by
  obtain ⟨i0, hi0, hz0, hz1, hz2⟩ := info_parts keep_info
  have hlt := Ml.lt_of_heap hg
  obtain ⟨h1, h2, h3, h4⟩ := h
  have hfz : ∀ o, w.frozen? ⟨g0, o, none⟩ = false := fun o => by simp [World.frozen?, hg]
  by_cases h0 : nL = 0
  · subst h0
    have hks : ks = [] := List.eq_nil_of_length_eq_zero h1
    subst hks
    refine ⟨g0, 0, w, ?_, ⟨hb, hlt, rfl, Nat.le_refl _, by simp [maxLen], fun i x hx => by simp at hx, hfz⟩, But.refl _ _⟩
    cases aL with
    | none => simp [Builtin.append_, run_underlying Try.underlying32, sizeOf, typeInfo, hi0, Builtin.lenOf, Builtin.firstCells, storeCells]
    | some a => simp [Builtin.append_, run_underlying Try.underlying32, sizeOf, typeInfo, hi0, Builtin.lenOf, Builtin.firstCells, loadCells, loadCellsFrom, storeCells]
  · rcases h4 with h4 | ⟨b, off, rfl, hbl, hc⟩
    · subst h4; simp at h1; omega
    · have hnew : ∀ j v, (kls ks)[j]? = some v → w.cell? ((⟨b, off, none⟩ : Addr).add j) = some v := fun j v hj => by
        rw [Addr.add_lit]
        obtain ⟨i, x, e1, e2⟩ := kls_get hj
        rcases e2 with ⟨rfl, rfl⟩ | ⟨rfl, rfl⟩
        · exact (hc i x e1).1
        · rw [← Nat.add_assoc]; exact (hc i x e1).2
      have hr2 := run_append_grow (P := Try.prog) w (ty := ty) 32 44 i0 _ Try.underlying32 hi0 hz0 ⟨g0, 0, none⟩ 0 0 [] (by simp) (by simp) ⟨b, off, none⟩ nL cL (kls ks) (by rw [kls_length, hz1, h1]) hnew (by omega) (by omega) (by rw [hz2]; exact growslice_fits (by omega) (by omega))
      obtain ⟨cs, hr3, hcs⟩ : ∃ cs : Array Value, (Builtin.append_ #[32, 32] ty #[.slice (some ⟨g0, 0, none⟩) 0 0, .slice (some ⟨b, off, none⟩) nL cL]).run Try.prog w = .ok (.slice (some ⟨w.heap.size, 0, none⟩) nL (grownCap w nL 0 44)) (w.drew.alloc (.cells cs 44)) ∧ (∀ j v, (kls ks)[j]? = some v → cs[j]? = some v) := by
        rw [Nat.zero_add] at hr2
        refine ⟨_, hr2, fun j v hj => ?_⟩
        have hjl : j < (kls ks).length := (List.getElem?_eq_some_iff.1 hj).1
        rw [Array.getElem?_append_left (by rw [Array.size_append, List.size_toArray, List.size_toArray]; simp only [List.length_nil]; omega), Array.getElem?_append_right (by simp)]
        simpa using hj
      clear hr2
      have hge := grownCap_ge w nL 0 44
      have hle := grownCap_le_maxLen w nL 0 44 (by simp only [maxLen]; omega)
      generalize grownCap w nL 0 44 = gc at *
      have hh : (w.drew.alloc (.cells cs 44)).heap[w.heap.size]? = some (.cells cs 44 (0, 0)) := heap_alloc_new w.drew _
      refine ⟨w.heap.size, gc, _, hr3, ⟨by omega, by simp, h1, hge, hle, fun i x hx => ?_, fun o => ?_⟩, ⟨rfl, rfl, rfl, by simp, fun k hk _ => heap_alloc_old w.drew _ hk⟩⟩
      · have hk := kls_at hx
        have key : ∀ j v, (kls ks)[j]? = some v → (w.drew.alloc (.cells cs 44)).cell? ⟨w.heap.size, j, none⟩ = some v := fun j v hj => by
          simp only [World.cell?, hh]
          simpa using hcs j v hj
        exact ⟨key _ _ hk.1, key _ _ hk.2⟩
      · unfold World.frozen?
        simp only [hh]
        simp

theorem wpList_append_keeps (w : World) {ops : Array Oper} {rest : List Oper} {o : Oper} {act : Act} {Q : Exit → Act → World → Prop} (hgd : o.guard = none) (s x : Operand)
    (ho : o.op = .call { callee := .builtin .append, args := #[s, x], argTypes := #[32, 32] })
    {base g0 : Nat} (hs : act.eval s = .slice (some ⟨g0, 0, none⟩) 0 0) (hb : base ≤ g0) (hg : w.heap[g0]? = some (.cells #[] 44 (0, 0))) (aL : Option Addr) (nL cL : Nat) (ks : List (Int × Int)) (hx : act.eval x = .slice aL nL cL) (hk : KRow w aL nL cL ks) (hn : nL ≤ 600)
    (h : ∀ g' c' w', KOwn base w' g' nL c' ks → But [] w w' → wpList Try.prog ops Q rest (act.put o.dst (.slice (some ⟨g', 0, none⟩) nL c')) w') : wpList Try.prog ops Q (o :: rest) act w := by
  refine wpList_plain hgd fun K hK => ?_
  obtain ⟨g', c', w', hrun, h5, h6⟩ := run_append_keeps w o.type hb hg aL nL cL ks hk hn
  unfold Oper.wp execOp
  simp only [ho, resolve, invoke, builtin, Sem.run_bind, Sem.run_pure, Result.andThen_ok, List.map_toArray, List.map_cons, List.map_nil, hs, hx, hrun]
  exact hK _ _ (h g' c' w' h5 h6)
theorem and1 (x : Int) : ∃ m : Int, (m = 0 ∨ m = 1) ∧ bits .and .i64 x 1 = m := by
  have h1 : bits .and .i64 x 1 = IntKind.i64.wrap (((BitVec.ofInt 64 x) &&& (BitVec.ofInt 64 1)).toNat : Int) := rfl
  have h2 : ((BitVec.ofInt 64 x) &&& (BitVec.ofInt 64 1)).toNat = (BitVec.ofInt 64 x).toNat % 2 := by
    rw [BitVec.toNat_and]
    have : (BitVec.ofInt 64 1).toNat = 2 ^ 1 - 1 := by decide
    rw [this, Nat.and_two_pow_sub_one_eq_mod]
  refine ⟨_, ?_, rfl⟩
  rw [h1, h2]
  have h3 : (BitVec.ofInt 64 x).toNat % 2 < 2 := Nat.mod_lt _ (by decide)
  generalize (BitVec.ofInt 64 x).toNat % 2 = m at *
  have : m = 0 ∨ m = 1 := by omega
  rcases this with rfl | rfl
  · left; rfl
  · right; rfl

/-- an act in a row that came in -/
theorem acts_at {w w' : World} {a : Option Addr} {n c : Nat} {l : List Ac} (h : Acts w a n c l) (hb : Below w.heap.size w w') {k : Nat} (hk : k < n) :
    ∃ b off x, a = some ⟨b, off, none⟩ ∧ l[k]? = some x ∧ x.Ok w' ∧ b < w.heap.size ∧ ∀ i v, x.cells[i]? = some v → w'.cell? ⟨b, off + (k * 17 + i), none⟩ = some v := by
  obtain ⟨h1, h2, h3, h4, h5⟩ := h
  have hkl : k < l.length := by omega
  obtain ⟨x, hx⟩ : ∃ x, l[k]? = some x := ⟨_, List.getElem?_eq_getElem hkl⟩
  have hm : x ∈ l := List.mem_of_getElem? hx
  rcases h5 with rfl | ⟨b, off, rfl, hbl, hc⟩
  · simp at hm
  · refine ⟨b, off, x, rfl, hx, ⟨krow_but (h4 x hm).1 (But.of_below hb) (.inr (by simp)), (h4 x hm).2⟩, hbl, fun i v hv => ?_⟩
    rw [hb.cell (p := ⟨b, off + (k * 17 + i), none⟩) hbl]
    exact hc k x hx i v hv
theorem act17 {w : World} {b off k : Nat} {x : Ac} (h : ∀ i v, x.cells[i]? = some v → w.cell? ⟨b, off + (k * 17 + i), none⟩ = some v) :
    w.cell? ⟨b, off + k * 17, none⟩ = some (.int .i64 x.kind) ∧ w.cell? ⟨b, off + k * 17 + 1, none⟩ = some (.int .i64 x.n) ∧ w.cell? ⟨b, off + k * 17 + 2, none⟩ = some (.int .i64 x.m.kind) ∧ w.cell? ⟨b, off + k * 17 + 3, none⟩ = some (.int .i64 x.m.epoch) ∧ w.cell? ⟨b, off + k * 17 + 4, none⟩ = some (.int .i64 x.m.seq) ∧ w.cell? ⟨b, off + k * 17 + 5, none⟩ = some (.int .i64 x.m.n) ∧ w.cell? ⟨b, off + k * 17 + 6, none⟩ = some (.int .i64 x.m.block) ∧ w.cell? ⟨b, off + k * 17 + 7, none⟩ = some (.int .i64 x.m.client) ∧ w.cell? ⟨b, off + k * 17 + 8, none⟩ = some (.int .i64 x.m.e) ∧ w.cell? ⟨b, off + k * 17 + 9, none⟩ = some (.int .i64 x.m.t0) ∧ w.cell? ⟨b, off + k * 17 + 10, none⟩ = some (.int .i64 x.m.t1) ∧ w.cell? ⟨b, off + k * 17 + 11, none⟩ = some (.int .i64 x.m.t2) ∧ w.cell? ⟨b, off + k * 17 + 12, none⟩ = some (.int .i64 x.m.t3) ∧ w.cell? ⟨b, off + k * 17 + 13, none⟩ = some (.string x.m.data) ∧ w.cell? ⟨b, off + k * 17 + 14, none⟩ = some (.string x.m.row) ∧ w.cell? ⟨b, off + k * 17 + 15, none⟩ = some (.string x.s) ∧ w.cell? ⟨b, off + k * 17 + 16, none⟩ = some (.slice x.aL x.nL x.cL) :=
  ⟨h 0 _ rfl, h 1 _ rfl, h 2 _ rfl, h 3 _ rfl, h 4 _ rfl, h 5 _ rfl, h 6 _ rfl, h 7 _ rfl, h 8 _ rfl, h 9 _ rfl, h 10 _ rfl, h 11 _ rfl, h 12 _ rfl, h 13 _ rfl, h 14 _ rfl, h 15 _ rfl, h 16 _ rfl⟩
theorem Ac.Ok.below {w w' : World} {x : Ac} (h : x.Ok w) (hb : Below w.heap.size w w') : x.Ok w' := ⟨krow_but h.1 (But.of_below hb) (.inr (by simp)), h.2⟩

/-- the store that a statement runs where the power may go -/
structure FS (w0 w : World) (dB sB mB n bl : Nat) (d : M.Dv) (tB : Nat) (K : Nat → Nat) (C : Cs) : Prop where
  st : ST w dB sB mB n d tB bl 0 K C
  fi : FI n 0 bl d C
  be : Below w0.heap.size w0 w
  ge : ∀ b ∈ ours dB sB mB bl K, w0.heap.size ≤ b
theorem FS.below {w0 w w' : World} {dB sB mB n bl : Nat} {d : M.Dv} {tB : Nat} {K : Nat → Nat} {C : Cs} (h : FS w0 w dB sB mB n bl d tB K C) (hb : Below w.heap.size w w') : FS w0 w' dB sB mB n bl d tB K C :=
  ⟨h.st.below hb, h.fi, h.be.trans (hb.mono h.be.size), h.ge⟩
theorem FS.take {w0 w : World} {dB sB mB n bl : Nat} {d : M.Dv} {tB : Nat} {K : Nat → Nat} {C : Cs} (h : FS w0 w dB sB mB n bl d tB K C) (m : Ml.Mg) :
    Calls Try.prog 12 #[.pointer (some ⟨tB, 0, none⟩), Ml.msgV m] w fun e w' => e = .returned (.tuple #[Ml.msgV (takA n 0 bl d C m), .bool (takI n 0 bl d C m)]) ∧ FS w0 w' dB sB mB n bl (takD n 0 bl d C m) tB K (takC n 0 bl d C m) ∧ But (ours dB sB mB bl K) w w' := by
  refine (take_any w h.st m).mono ?_
  rintro e w' ⟨rfl, hs, hb⟩
  exact ⟨rfl, ⟨hs, (h.fi.take m).1, h.be.trans (hb.to_below h.ge h.be.size), h.ge⟩, hb⟩
theorem FS.fuse {w0 w : World} {dB sB mB n bl : Nat} {d : M.Dv} {tB : Nat} {K : Nat → Nat} {C : Cs} (h : FS w0 w dB sB mB n bl d tB K C) (k : Int) (hk : -9223372036854775808 ≤ k ∧ k ≤ 9223372036854775807) :
    Calls Try.prog 16 #[.pointer (some ⟨dB, 0, none⟩), .int .i64 k] w fun e w' => e = .returned (.tuple #[]) ∧ FS w0 w' dB sB mB n bl (M.fuseD d k) tB K C ∧ But [dB] w w' := by
  refine (fuse_any w h.st.dev k hk.1 hk.2).mono ?_
  rintro e w' ⟨rfl, hd, hb⟩
  have hdo : dB ∈ ours dB sB mB bl K := mem_ours.2 (.inl rfl)
  refine ⟨rfl, ⟨⟨hd, h.st.at_.but hb (by simpa using h.st.td.1), fun j hj => (h.st.cel j hj).but hb (by simpa using (h.st.kd j hj).1), h.st.kd, h.st.ka, h.st.td, h.st.tk, h.st.o1, h.st.gn, h.st.tx, h.st.bl1, h.st.fit⟩, h.fi.fuse hk, h.be.trans (hb.to_below (by simpa using h.ge _ hdo) h.be.size), h.ge⟩, hb⟩
/-- what is left when the power has gone -/
structure FD (w0 w : World) (dB sB mB n bl : Nat) (d : M.Dv) (t : Int) : Prop where
  dev : DevAt w dB sB mB n d
  fi : FI n 0 bl d (there d 0)
  al : d.dead = false
  tk : t ≤ token (there d 0)
  be : Below w0.heap.size w0 w
  ge : ∀ b ∈ [dB, sB, mB], w0.heap.size ≤ b
  bl1 : 1 ≤ bl ∧ bl ≤ 32
theorem FS.crash {w0 w : World} {dB sB mB n bl : Nat} {d : M.Dv} {tB : Nat} {K : Nat → Nat} {C : Cs} (h : FS w0 w dB sB mB n bl d tB K C) (g m c : Nat) (ks : List (Int × Int)) (hk : KRow w (some ⟨g, 0, none⟩) m c ks) (hg : g ∉ ours dB sB mB bl K) (hl : ∀ x ∈ ks, x.1 = 0 ∨ x.1 = 1) :
    Calls Try.prog 14 #[.pointer (some ⟨dB, 0, none⟩), .slice (some ⟨g, 0, none⟩) m c] w fun e w' => e = .returned (.tuple #[]) ∧ FD w0 w' dB sB mB n bl (M.crashD n d ks) (token C) ∧ But [dB, sB, mB] w w' := by
  have hsub : ∀ b ∈ [dB, sB, mB], b ∈ ours dB sB mB bl K := fun b hb => by
    simp only [List.mem_cons, List.not_mem_nil, or_false] at hb
    exact mem_ours.2 (by rcases hb with h | h | h <;> simp [h])
  refine (crash_any w h.st.dev (some ⟨g, 0, none⟩) m c ks hk (.inr (fun b off e => by injection e with e; injection e with e; subst e; exact fun z => hg (hsub _ z)))).mono ?_
  rintro e w' ⟨rfl, hd, hb⟩
  obtain ⟨f1, f2, f3⟩ := h.fi.crash hl
  exact ⟨rfl, ⟨hd, f1, f3, f2, h.be.trans (hb.to_below (fun b hx => h.ge b (hsub b hx)) h.be.size), fun b hx => h.ge b (hsub b hx), h.st.bl1⟩, hb⟩
theorem FD.open {w0 w : World} {dB sB mB n bl : Nat} {d : M.Dv} {t : Int} (h : FD w0 w dB sB mB n bl d t) :
    Calls Try.prog 15 #[.pointer (some ⟨dB, 0, none⟩), .int .i64 0, .int .i64 (bl : Int)] w fun e w' => ∃ tB K, e = .returned (.tuple #[.pointer (some ⟨tB, 0, none⟩), .int .i64 0]) ∧ FS w0 w' dB sB mB n bl d tB K (there d 0) ∧ Below w.heap.size w w' := by
  refine (bopen_yes w h.dev h.al 0 bl h.bl1 h.fi.fit).mono ?_
  rintro e w' ⟨tB, K, rfl, h1, h2, h3, h4⟩
  have hs := h.be.size
  refine ⟨tB, K, rfl, ⟨h3, h.fi, h.be.trans (h4.mono hs), fun b hb => ?_⟩, h4⟩
  rcases mem_ours.1 hb with rfl | rfl | rfl | ⟨k, hk, rfl⟩
  · exact h.ge _ (by simp)
  · exact h.ge _ (by simp)
  · exact h.ge _ (by simp)
  · have := h2 k hk; omega
theorem FS.tok {w0 w : World} {dB sB mB n bl : Nat} {d : M.Dv} {tB : Nat} {K : Nat → Nat} {C : Cs} (h : FS w0 w dB sB mB n bl d tB K C) :
    Calls Try.prog 13 #[.pointer (some ⟨tB, 0, none⟩)] w fun e w' => e = .returned (.int .i64 (token C)) ∧ Below w.heap.size w w' := tok_any w h.st
theorem lopen_fs (w0 : World) {x0 : Int} (hx : 0 ≤ x0 ∧ x0 < 256) {bl : Nat} (hbl : bl = (x0 % 32).toNat + 1) (w' : World) (hb : Below w0.heap.size w0 w') : Calls Try.prog 9 #[.int .u8 x0] w' fun e w'' => ∃ dB sB mB tB K, e = .returned (.tuple #[.pointer (some ⟨dB, 0, none⟩), .pointer (some ⟨tB, 0, none⟩), .int .i64 (bl : Int)]) ∧ FS w0 w'' dB sB mB (2 + 2 * bl) bl M.fresh tB K (there M.fresh 0) := by
  refine (lopen_run w0 hx hbl w' hb).mono ?_
  rintro e w'' ⟨dB, sB, mB, tB, K, rfl, h⟩
  exact ⟨dB, sB, mB, tB, K, rfl, ⟨h.st, fi_fresh _ _ _ (by omega), h.be, h.ge.2⟩⟩
end Go.Proofs.Ytofhijnfbilieaa.Bk
