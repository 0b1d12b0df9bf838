/-
  PROVED: bytes of one length that differ within 32 bits next to each other have unlike sums. CONDITIONS: none (any bytes, any place, whatever is turned).
-/
import Derived.Test.YtoaebaglahhpbaaRows
import Derived.Test.YtoaebaglahhpbaaBytes
import Derived.WalkKit
import Derived.RegionTactic
import Derived.ChangeAlike
import Derived.ProofKit
import Derived.OpenShut
import Derived.ShutString
import Derived.ChangeOld
import Derived.Below
namespace Go.Proofs.Ytoaebaglahhpbaa.crcTells
open Go.ChangeShapes Go.WideShapes Go.ChangeAt Go.RowKit
open Go.ChangeMaps (open_string shut_string)
set_option linter.unusedVariables false

theorem own : ownKnob Try.prog.godebug = none := by kernel_rfl
theorem laidOut : laidOutB Try.prog = true := by kernel_rfl

/-- WHAT THE WALK IS TOLD OF A SLICE OF INTEGERS THAT CAME IN: it is nil; or it leads to a row of 'cap' cells, the numbers 'zs' (the first 'len' are its elements, the rest its spare room), each fitting its kind. -/
def IsRow (k : IntKind) (w : World) (a : Option Addr) (len cap : Nat) (zs : List Int) : Prop :=
  (a = none ∧ len = 0 ∧ cap = 0 ∧ zs = []) ∨
  ∃ x, a = some x ∧ len ≤ cap ∧ cap ≤ maxLen ∧ zs.length = cap ∧ (∀ i, i < zs.length → w.cell? (x.add i) = some (.int k (zs.getD i 0))) ∧ ∀ n ∈ zs, (Lit.int k n).wf = true

/-! ### STEP 1: THE WALK: the Go text returns true, AND WRITES NOTHING THAT WAS THERE: 'Below w.heap.size w w'' (Derived/Below.lean: '.refl', '.alloc', '.drew', '.setCell' at a new block, '.trans'). Open each 'IsRow' by 'rcases' AHEAD of 'go_enter'; part every test ahead of the walk. -/
theorem walk (a0 : Option Addr) (len0 cap0 : Nat) (z0 : List Int) (a1 : Int) (a2 : Int) (w : World) (w0 : IsRow .u8 w a0 len0 cap0 z0) (w1 : (Lit.int .i64 a1).wf = true) (w2 : (Lit.int .u32 a2).wf = true) :
    Calls Try.prog 5 #[.slice a0 len0 cap0, .int .i64 a1, .int .u32 a2] w fun e w' => e = .returned (.bool true) ∧ Below w.heap.size w w' := by
  have hwf : -9223372036854775808 ≤ a1 ∧ a1 ≤ 9223372036854775807 := i64_range w1
  obtain ⟨hlo, hhi⟩ := hwf
  obtain ⟨t, rfl⟩ := u32_of w2
  have ht32 : t.toNat < 4294967296 := t.isLt
  by_cases hbig : 16384 < len0
  · have hb1 : (16384 : Int) < (len0 : Int) := by omega
    clear w0 w1 w2
    go_enter Try.func5, Try.ntmps5
    go_wp2_with (go_at_call 11; refine (awake_any _).mono ?_; rintro e w1 ⟨rfl, hb⟩)
    go_ret
    exact ⟨rfl, by assumption⟩
  by_cases hneg : a1 < 0
  · clear w0 w1 w2
    go_enter Try.func5, Try.ntmps5
    go_wp2_with (go_at_call 11; refine (awake_any _).mono ?_; rintro e w1 ⟨rfl, hb⟩)
    go_ret
    exact ⟨rfl, by assumption⟩
  obtain ⟨p, rfl⟩ := Int.eq_ofNat_of_zero_le (show 0 ≤ a1 by omega)
  by_cases hout : len0 ≤ p / 8
  · have hb2 : (len0 : Int) ≤ (p : Int) / 8 := by omega
    clear w0 w1 w2
    go_enter Try.func5, Try.ntmps5
    go_wp2_with (go_at_call 11; refine (awake_any _).mono ?_; rintro e w1 ⟨rfl, hb⟩)
    go_ret
    exact ⟨rfl, by assumption⟩
  by_cases ht0 : ((t.toNat : Int) == 0) = true
  · have hb2 : (p : Int) / 8 < (len0 : Int) := by omega
    clear w0 w1 w2
    go_enter Try.func5, Try.ntmps5
    go_wp2_with (go_at_call 11; refine (awake_any _).mono ?_; rintro e w1 ⟨rfl, hb⟩)
    go_ret
    exact ⟨rfl, by assumption⟩
  rw [Bool.not_eq_true] at ht0
  have hr0 := row_of (by omega) w0
  have hb2 : (p : Int) / 8 < (len0 : Int) := by omega
  have hb3 : (p : Int) ≤ 131072 := by omega
  clear w0 w1 w2 hlo hhi hneg
  generalize z0.take len0 = l at *
  have Hr0 := Lib.hid hr0
  clear hr0
  go_enter Try.func5, Try.ntmps5
  go_wp2_with (first
        | (go_at_call 11
           refine (awake_any _).mono ?_
           rintro e w1 ⟨rfl, hb⟩
           have hs1 := hb.size
           have Hown := Lib.hid (own_empty w1 w.heap.size hs1)
           have Hb1 := Lib.hid (hb.alloc hs1 (.cells #[] 5))
           clear hb)
        | (at_builtin
           refine wpList_append_bytes _ rfl (.tmp 30) (.tmp 31) rfl w.heap.size _ 0 0 [] rfl Hown.out a0 len0 cap0 l rfl (row_below Hr0.out (Nat.le_refl _) Hb1.out) len0 (by omega) l rfl (by omega) Hb1.out.size ?_
           intro a2 c2 w2 hown2 hb2
           obtain ⟨g, rfl, hg1, hg2, hg3, hg4, hg5⟩ := own_at hown2 (by omega)
           have Hown2 := Lib.hid hown2
           have Hb2 := Lib.hid (Hb1.out.trans hb2)
           clear hown2 hb2 hg4 hg5))
  clear ht0
  go_loopw [8, 9] (fun s i wr => ∃ k : Nat, ∃ b : Bool, k ≤ 32 ∧ i = .int .i64 k ∧ s = .bool b ∧ Below w.heap.size w wr ∧ Turning wr w.heap.size g len0 c2 l p k b) (fun _ i _ => 32 - (intOf i).toNat)
  case atStart => exact ⟨0, false, by omega, rfl, rfl, Hb2.out, turning_start Hown2.out⟩
  case round =>
    obtain ⟨k, b, hk, rfl, rfl, hbw, hT⟩ := hrel
    have Hbw := Lib.hid hbw
    have HT := Lib.hid hT
    clear hbw hT Hb2
    by_cases hlt : k < 32
    · cases hbit : t.getLsbD k
      · have hb1 := bit_up t k
        rw [hbit] at hb1
        have Hbit := Lib.hid hbit
        clear hbit
        go_wp2_with fail
        go_roundw
        case rel => exact ⟨k + 1, b, by omega, by go_num, rfl, Hbw.out, turning_on HT.out⟩
        case measure => simp [intOf]; omega
      · by_cases hin : (p + k) / 8 < len0
        · have hb1 := bit_up t k
          rw [hbit] at hb1
          have Hbit := Lib.hid hbit
          clear hbit
          have hin2 : ((p : Int) + (k : Int)) / 8 < (len0 : Int) := by omega
          have hsum0 : 0 ≤ (p : Int) + (k : Int) := by omega
          obtain ⟨q, l', h1, h2, h3, h4⟩ := HT.out
          obtain ⟨hload, hfree⟩ := own_cell h1 ((p + k) / 8) hin
          have hf := own_flip (p + k) _ h1 hin rfl
          have H2 := Lib.hid h2
          have H4 := Lib.hid h4
          have H1 := Lib.hid h1
          clear h1 h2 h3 h4
          have Hf := Lib.hid hf
          clear hf
          generalize hcv : l'.getD ((p + k) / 8) 0 = c at *
          have Hcv := Lib.hid hcv
          clear hcv
          go_wp2_with fail
          go_region
          go_wp2_with fail
          go_roundw
          case rel => exact ⟨k + 1, true, by omega, by go_num, rfl, Hbw.out.trans Hf.out.2.2.2.1, turning_flip hlt hin H1.out H2.out H4.out _ (by rw [Hcv.out]; exact Hf.out.1)⟩
          case measure => simp [intOf]; omega
        · have hb1 := bit_up t k
          rw [hbit] at hb1
          have Hbit := Lib.hid hbit
          clear hbit
          have hin2 : (len0 : Int) ≤ ((p : Int) + (k : Int)) / 8 := by omega
          go_wp2_with fail
          go_roundw
          case rel => exact ⟨k + 1, b, by omega, by go_num, rfl, Hbw.out, turning_on HT.out⟩
          case measure => simp [intOf]; omega
    · obtain rfl : k = 32 := by omega
      cases b
      · go_wp2_with fail
        go_ret
        exact ⟨rfl, Hbw.out⟩
      · obtain ⟨l', hrow', hne⟩ := turning_ne HT.out rfl
        have Hrow' := Lib.hid hrow'
        have Hq0 := Lib.hid (row_below Hr0.out (Nat.le_refl _) Hbw.out)
        have hbne := toNat_bne hne
        have Hne := Lib.hid hne
        clear hrow' hne
        go_wp2_with fail
        refine (sum_any _ _ _ l' _ Hrow'.out).mono ?_; rintro e w' ⟨rfl, rfl⟩
        go_wp2_with fail
        refine (sum_any _ _ _ l _ Hq0.out).mono ?_; rintro e w' ⟨rfl, rfl⟩
        go_wp2_with fail
        refine (sum_any _ _ _ l _ Hq0.out).mono ?_; rintro e w' ⟨rfl, rfl⟩
        go_wp2_with fail
        refine (check_no _ _ _ _ l' _ Hrow'.out Hne.out).mono ?_; rintro e w' ⟨rfl, rfl⟩
        go_wp2_with fail
        go_ret
        exact ⟨rfl, Hbw.out⟩

/-! ### THE ROW's STEP: WRITTEN OUT: LEAVE IT -/
set_option maxRecDepth 100000 in
theorem lifted (os : Os) (started : os.Started) (H : Type) (enc : TypeId × Value → H) :
    ReturnsInHanded {} Try.checked os 5 .any (Rows.crcTellsSpec.pre6 enc Try.prog Try.f5 Rows.crcTellsRow.domain false) (Rows.crcTellsSpec.post enc Try.prog Try.f5 false true false false) := by
  refine returnsInHanded_of_change (C := Try.checked) own started (by kernel_rfl) Try.func5
    (ChangeSpec.witness6 (enc := enc) (C := Try.checked) false ⟨#[], #[.slice none 0 0, .int .i64 0, .int .u32 0], []⟩ 8 (by kernel_rfl) (by kernel_rfl) (by kernel_rfl) (by kernel_rfl)) ?_
  intro W base args ds gs before hval0 hW hcnd _
  have hval : ∀ (j : Nat) t v, Try.f5.params[j]? = some t → args[j]? = some v → Value.okWide Try.prog W .any base t v := hval0
  have hW' := hW
  obtain ⟨p, q, hA0, hV, rfl, hfz, hnd⟩ := hW
  have hA : DataW.TrodAll enc Try.prog W 0 (fun _ => true) true Try.f5.params.toList args.toList ds p := hA0
  rw [Try.params5] at hA hval
  obtain ⟨v0, vs0, d0, ds0, p0, q0, hargs, rfl, rfl, h0, r0⟩ := trodAll_cons hA
  obtain ⟨v1, vs1, d1, ds1, p1, q1, rfl, rfl, rfl, h1, r1⟩ := trodAll_cons r0
  obtain ⟨v2, vs2, d2, ds2, p2, q2, rfl, rfl, rfl, h2, r2⟩ := trodAll_cons r1
  obtain ⟨rfl, rfl, rfl⟩ := trodAll_nil r2
  obtain rfl : args = #[v0, v1, v2] := by cases args; simp_all
  obtain ⟨rfl, rfl⟩ := trodVars_none hV
  obtain ⟨a0, len0, cap0, rfl⟩ := okWide_slice Try.underlying22 (hval 0 22 v0 rfl rfl)
  have k0 := h0
  have lt0 : ∀ x ∈ p0, x.block < W.heap.size := by obtain ⟨m, hm⟩ := k0; exact DataW.trod_lt m _ _ _ hm
  obtain ⟨z0, w0⟩ : ∃ zs, IsRow .u8 W a0 len0 cap0 zs := by
    obtain ⟨fuel, hf⟩ := h0
    rcases open_ints Try.underlying22 Try.underlying5 (by kernel_rfl) hf with ⟨hcs, _⟩ | ⟨x, l, c, zs, hcs, _, hl, hm, hz, _, hcell, hwz⟩
    · simp [Value.cells] at hcs
      obtain ⟨rfl, rfl, rfl⟩ := hcs
      exact ⟨[], .inl ⟨rfl, rfl, rfl, rfl⟩⟩
    · simp [Value.cells] at hcs
      obtain ⟨rfl, rfl, rfl⟩ := hcs
      exact ⟨zs, .inr ⟨_, rfl, hl, hm, by simpa using hz, hcell, hwz⟩⟩
  obtain ⟨a1, rfl, rfl, rfl, w1⟩ := open_int Try.underlying3 (hval 1 3 v1 rfl rfl) h1
  obtain ⟨a2, rfl, rfl, rfl, w2⟩ := open_int Try.underlying24 (hval 2 24 v2 rfl rfl) h2
  clear hA0 hval0
  refine (walk a0 len0 cap0 z0 a1 a2 W w0 w1 w2).mono fun e W' ⟨he, bel⟩ => ?_
  subst he
  exact ⟨_, rfl, _, _, _, [], _, [], hW', trodAll_mk1 (shut_bool Try.underlying4 _), (trodAll_cons_mk (Below.trod laidOut (by kernel_rfl) (of_decide_eq_true (by kernel_rfl)) k0 bel lt0) (trodAll_cons_mk (shut_int Try.underlying3 w1) (trodAll_cons_mk (shut_int Try.underlying24 w2) trodAll_mk0))), rfl, bel.frame _, fun h => by cases h⟩

theorem over : Rows.crcTellsRow.holds Try.pinned (OpenSpec.ofChange Rows.crcTellsSpec) :=
  OpenClaim.holds_of_wide 5 Try.f5 rfl rfl rfl rfl rfl rfl rfl ⟨rfl, rfl, rfl, rfl, rfl⟩ rfl rfl rfl rfl rfl (by kernel_rfl) Try.func5 (by kernel_rfl)
    (of_decide_eq_true (by kernel_rfl)) (by unfold Func.isWrapper; first | (rw [if_pos (by decide +kernel)]; kernel_rfl) | (rw [if_neg (by decide +kernel)]; exact ⟨rfl, rfl⟩))
    (fun os started H enc _ => lifted os started H enc)

/-- ████ THE STATEMENT ████ -/
theorem proved : Rows.CrcTellsSaid := over
#print axioms proved
end Go.Proofs.Ytoaebaglahhpbaa.crcTells
