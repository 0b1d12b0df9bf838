/-
  PROVED: however bytes are cut into rows, the sum gone on with from row to row is that of all. CONDITIONS: none (any rows; the bound on how many bytes a slice can take is the form's own).
-/
import Derived.Test.YtoaebaglahhpbaaRows
import Derived.Test.YtoaebaglahhpbaaBytes
import Derived.WalkKit
import Derived.ProofKit
import Derived.OpenShut
import Derived.ShutString
import Derived.ChangeOld
import Derived.Below
import Derived.SizedLaws
import Derived.Deep.Matrix
namespace Go.Proofs.Ytoaebaglahhpbaa.crcParts
open Go.ChangeShapes Go.WideShapes Go.ChangeAt Go.RowKit Go.Deep
set_option linter.unusedVariables false

theorem own : ownKnob Try.prog.godebug = none := by kernel_rfl
theorem laidOut : laidOutB Try.prog = true := by kernel_rfl
theorem bytes5 : Try.prog.bytesOf 5 = 1 := by kernel_rfl
theorem reach_is : reachBytes = 140737488351232 := rfl

/-- rows of bytes that came in: each row is a slice of its own, nil or not -/
def Table (w : World) (a : Option Addr) (len : Nat) : Prop :=
  len = 0 ∨ ∃ (b off : Nat) (A : Nat → Option Addr) (L C : Nat → Nat) (Z : Nat → List Int), a = some ⟨b, off, none⟩ ∧
    ∀ r, r < len → b < w.heap.size ∧ w.cell? ⟨b, off + r, none⟩ = some (.slice (A r) (L r) (C r)) ∧ Part w (A r) (L r) (C r) (Z r) ∧ L r ≤ 140737488355328

set_option maxHeartbeats 1000000 in
theorem walk (a0 : Option Addr) (len0 cap0 : Nat) (w : World) (h : Table w a0 len0) :
    Calls Try.prog 8 #[.slice a0 len0 cap0] w fun e w' => e = .returned (.bool true) ∧ Below w.heap.size w w' := by
  have H := Lib.hid h
  clear h
  go_enter Try.func8, Try.ntmps8
  go_wp2_with (first
        | (go_at_call 11
           refine (awake_any _).mono ?_
           rintro e w1 ⟨rfl, hb⟩
           have hs1 := hb.size
           have Hown := Lib.hid (own_empty w1 w.heap.size hs1)
           have Hb1 := Lib.hid (hb.alloc hs1 (.cells #[] 5))
           clear hb)
        | (go_at_call 12
           refine (sum_any none 0 0 [] _ (row_nil _)).mono ?_
           rintro e w' ⟨rfl, rfl⟩))
  go_loopw [3, 4, 5] (fun d s i wr => ∃ (k n cap : Nat) (a : Option Addr) (l : List Int), k ≤ 100 ∧ k ≤ len0 ∧ i = .int .i64 k ∧ d = .slice a n cap ∧ s = .int .u32 ((M.more 0#32 l).toNat : Int) ∧ n ≤ 16384 ∧ Below w.heap.size w wr ∧ Own wr w.heap.size a n cap l) (fun _ _ i _ => 100 - (intOf i).toNat)
  case atStart => exact ⟨0, 0, 0, _, [], by omega, by omega, rfl, rfl, rfl, by omega, Hb1.out, Hown.out⟩
  case round =>
    obtain ⟨k, n, cap, a, l, hk, hkl, rfl, rfl, rfl, hn, hbw, hown⟩ := hrel
    have Hbw := Lib.hid hbw
    have Ho := Lib.hid hown
    clear hbw hown
    have hk0 : (0 : Int) ≤ (k : Int) := by omega
    have hnI : (n : Int) ≤ 16384 := by omega
    by_cases hend : k = len0
    · have hge : (len0 : Int) ≤ (k : Int) := by omega
      go_wp2_with fail
      go_ret
      exact ⟨rfl, Hbw.out⟩
    · have hlt : (k : Int) < (len0 : Int) := by omega
      by_cases h100 : k = 100
      · have hge : (100 : Int) ≤ (k : Int) := by omega
        go_wp2_with fail
        go_ret
        exact ⟨rfl, Hbw.out⟩
      · have hlt1 : (k : Int) < 100 := by omega
        rcases H.out with h0 | ⟨b, off, A, L, C, Z, rfl, hrows⟩
        · omega
        obtain ⟨hb0, hcell0, hpart, hL⟩ := hrows k (by omega)
        have hcell : wr.cell? ⟨b, off + k, none⟩ = some (.slice (A k) (L k) (C k)) := by rw [Hbw.out.cell (p := ⟨b, off + k, none⟩) hb0]; exact hcell0
        have Hrow := Lib.hid (row_below (part_row hpart (Nat.le_refl _) hL) (Nat.le_refl _) Hbw.out)
        have Hkeep := Lib.hid (row_lies (part_row hpart (Nat.le_refl _) hL))
        clear hcell0 hpart hrows
        generalize A k = Ak at *
        generalize L k = Lk at *
        generalize C k = Ck at *
        generalize (Z k).take Lk = y at *
        have hL0 : (Lk : Int) ≤ 140737488355328 := by omega
        by_cases hbig : 16384 < n + Lk
        · have hbig1 : (16384 : Int) < (n : Int) + (Lk : Int) := by omega
          go_wp2_with fail
          go_ret
          exact ⟨rfl, Hbw.out⟩
        · have hbig1 : (n : Int) + (Lk : Int) ≤ 16384 := by omega
          have Ha := Lib.hid (M.more_append 0#32 l y)
          have Hb0 := Lib.hid hb0
          clear hb0
          go_wp2_with (at_builtin
                       refine wpList_append_bytes _ rfl (.tmp 29) (.tmp 33) rfl w.heap.size a n cap l rfl Ho.out Ak Lk Ck y rfl Hrow.out (n + Lk) rfl (l ++ y) rfl (by omega) Hbw.out.size ?_
                       intro a2 c2 w2 hown2 hb2
                       have hcell2 : w2.cell? ⟨b, off + k, none⟩ = some (.slice Ak Lk Ck) := by rw [hb2.cell (p := ⟨b, off + k, none⟩) Hb0.out]; exact hcell
                       have Ho2 := Lib.hid hown2
                       have Hr2 := Lib.hid (own_row hown2)
                       have Hy2 := Lib.hid (row_keep Hrow.out Hkeep.out hb2)
                       have Hb2 := Lib.hid (Hbw.out.trans hb2)
                       clear hown2 hb2 hcell)
          refine (more_any _ _ _ _ y _ Hy2.out).mono ?_; rintro e w' ⟨rfl, rfl⟩
          rw [← Ha.out]
          go_wp2_with fail
          refine (sum_any _ _ _ (l ++ y) _ Hr2.out).mono ?_; rintro e w' ⟨rfl, rfl⟩
          go_wp2_with fail
          refine (check_yes _ _ _ _ (l ++ y) _ Hr2.out rfl).mono ?_; rintro e w' ⟨rfl, rfl⟩
          go_wp2_with fail
          go_roundw
          case rel => exact ⟨k + 1, n + Lk, c2, a2, l ++ y, by omega, by omega, by go_num, rfl, rfl, by omega, Hb2.out, Ho2.out⟩
          case measure => simp [intOf]; omega

theorem weight_in {H : Type} {P : Program} {e : TypeId} : ∀ {l : List (DataW H)} {d : DataW H}, d ∈ l → ∀ n ∈ d.weights P e, n ∈ DataW.weightsAll P e l
  | d' :: r, d, hd, n, hn => by
    simp only [DataW.weightsAll, List.mem_append]
    rcases List.mem_cons.1 hd with rfl | h
    · exact Or.inl hn
    · exact Or.inr (weight_in h n hn)

/-- the form's own bound on what a row inside the table takes -/
theorem inner_small {H : Type} {P : Program} {ts : List TypeId} {ds : List (DataW H)} (h : (DataW.weightsEach P ts ds).all (· ≤ reachBytes) = true) {j : Nat} {t e q : TypeId} {elems spare e' sp' : List (DataW H)}
    (ht : ts[j]? = some t) (hd : ds[j]? = some (.slice elems spare)) (hu : P.underlying t = some (.slice e)) (hu2 : P.underlying e = some (.slice q)) (hx : DataW.slice e' sp' ∈ elems) :
    (e'.length + sp'.length) * P.bytesOf q ≤ reachBytes := by
  refine of_decide_eq_true (List.all_eq_true.1 h _ (DataW.weights_mem_each ht hd _ ?_))
  simp only [DataW.weights, hu, List.mem_cons, List.mem_append]
  exact Or.inr (Or.inl (weight_in hx _ (by simp [DataW.weights, hu2])))

set_option maxRecDepth 100000 in
theorem lifted (os : Os) (started : os.Started) (H : Type) (enc : TypeId × Value → H) :
    ReturnsInHanded {} Try.checked os 8 .any (Rows.crcPartsSpec.pre6 enc Try.prog Try.f8 Rows.crcPartsRow.domain false) (Rows.crcPartsSpec.post enc Try.prog Try.f8 false true false false) := by
  refine returnsInHanded_of_change_sized (C := Try.checked) own started (by kernel_rfl) Try.func8
    (ChangeSpec.witness6 (enc := enc) (C := Try.checked) false ⟨#[], #[.slice none 0 0], []⟩ 8 (by kernel_rfl) (by kernel_rfl) (by kernel_rfl) (by kernel_rfl)) ?_
  intro W base args ds gs before hval0 hW hcnd hsz0 _
  have hsz : (DataW.weightsEach Try.prog (Try.f8.params.toList ++ Rows.crcPartsSpec.plain.varTypes Try.prog) (ds ++ gs)).all (· ≤ reachBytes) = true := hsz0
  clear hsz0
  have hval : ∀ (j : Nat) t v, Try.f8.params[j]? = some t → args[j]? = some v → Value.okWide Try.prog W .any base t v := hval0
  have hW' := hW
  obtain ⟨p, q, hA0, hV, rfl, hfz, hnd⟩ := hW
  have hA : DataW.TrodAll enc Try.prog W 0 (fun _ => true) true Try.f8.params.toList args.toList ds p := hA0
  rw [Try.params8] at hA hval hsz
  obtain ⟨v0, vs0, d0, ds0, p0, q0, hargs, rfl, rfl, h0, r0⟩ := trodAll_cons hA
  obtain ⟨rfl, rfl, rfl⟩ := trodAll_nil r0
  obtain rfl : args = #[v0] := by cases args; simp_all
  obtain ⟨rfl, rfl⟩ := trodVars_none hV
  obtain ⟨a0, len0, cap0, rfl⟩ := okWide_slice Try.underlying34 (hval 0 34 v0 rfl rfl)
  have k0 := h0
  have lt0 : ∀ x ∈ p0, x.block < W.heap.size := by obtain ⟨m, hm⟩ := k0; exact DataW.trod_lt m _ _ _ hm
  have htab : Table W a0 len0 := by
    obtain ⟨fuel, hf⟩ := h0
    rcases open_int_rows Try.underlying34 Try.underlying22 Try.underlying5 (by kernel_rfl) (by kernel_rfl) hf with ⟨hcs, _⟩ | ⟨a, len, cap, A, L, C, Z, hcs, _, hl, hm, hx, hrows⟩
    · simp [Value.cells] at hcs
      obtain ⟨rfl, rfl, rfl⟩ := hcs
      exact .inl rfl
    · simp [Value.cells] at hcs
      obtain ⟨rfl, rfl, rfl⟩ := hcs
      simp only [Prod.mk.injEq] at hx
      obtain ⟨rfl, _⟩ := hx
      by_cases hl0 : len0 = 0
      · exact .inl hl0
      · obtain ⟨b, off, spot⟩ := a
        have hc0 := (hrows 0 (by omega)).1
        have hspot : spot = none := by simpa [Addr.add] using World.cell?_spot hc0
        subst hspot
        refine .inr ⟨b, off, A, L, C, fun r => (Z r).take (L r), rfl, fun r hr => ?_⟩
        obtain ⟨e1, e2, e3, e4, e5, e6, e7⟩ := hrows r (by omega)
        have hat : (⟨b, off + r, none⟩ : Addr) = (⟨b, off, none⟩ : Addr).add r := by by_cases g : r = 0 <;> simp [Addr.add, g]
        refine ⟨by simpa [Addr.add] using World.block_lt_of_cell? W _ hc0, by rw [hat]; exact e1, ?_, ?_⟩
        · refine part_of ?_
          cases hA : A r with
          | none =>
            have hC := e6 hA
            exact .inl ⟨rfl, by omega, hC, List.eq_nil_of_length_eq_zero (by omega)⟩
          | some x => exact .inr ⟨x, rfl, e2, e3, e4, fun i hi => (e7 x hA).2 i (by omega), e5⟩
        · cases hA : A r with
          | none =>
            have hC := e6 hA
            omega
          | some x =>
            have hin := inner_small hsz (j := 0) (t := 34) (e := 22) (q := 5) rfl rfl Try.underlying34 Try.underlying22
              (e' := lits .u8 ((Z r).take (L r))) (sp' := lits .u8 ((Z r).drop (L r))) (List.mem_map.2 ⟨r, List.mem_range.2 hr, by simp [intRow, hA]⟩)
            simp only [lits, List.length_map, List.length_take, List.length_drop, bytes5, reach_is] at hin
            omega
  clear hA0 hval0
  refine (walk a0 len0 cap0 W htab).mono fun e W' ⟨he, bel⟩ => ?_
  subst he
  exact ⟨_, rfl, _, _, _, [], _, [], hW', trodAll_mk1 (shut_bool Try.underlying4 _), (trodAll_cons_mk (Below.trod laidOut (by kernel_rfl) (of_decide_eq_true (by kernel_rfl)) k0 bel lt0) trodAll_mk0), rfl, bel.frame _, fun h => by cases h⟩

theorem over : Rows.crcPartsRow.holds Try.pinned (OpenSpec.ofChange Rows.crcPartsSpec) :=
  OpenClaim.holds_of_wide 8 Try.f8 rfl rfl rfl rfl rfl rfl rfl ⟨rfl, rfl, rfl, rfl, rfl⟩ rfl rfl rfl rfl rfl (by kernel_rfl) Try.func8 (by kernel_rfl)
    (of_decide_eq_true (by kernel_rfl)) (by unfold Func.isWrapper; first | (rw [if_pos (by decide +kernel)]; kernel_rfl) | (rw [if_neg (by decide +kernel)]; exact ⟨rfl, rfl⟩))
    (fun os started H enc _ => lifted os started H enc)

/-- the statement -/
theorem proved : Rows.CrcPartsSaid := over
#print axioms proved
end Go.Proofs.Ytoaebaglahhpbaa.crcParts
