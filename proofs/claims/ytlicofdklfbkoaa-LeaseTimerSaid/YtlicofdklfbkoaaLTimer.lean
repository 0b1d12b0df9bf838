/-
  PROVED: a timer is on for as many ticks as it was set to, and no longer. CONDITIONS: none (any number; any ticks and settings, of which up to 200 are done).
-/
import Derived.Test.YtlicofdklfbkoaaLeOpen
namespace Go.Proofs.Ytlicofdklfbkoaa.leaseTimer
open Go.ChangeShapes Go.WideShapes Go.ChangeAt Go.RowKit Go.Joins
open Go.ChangeMaps (open_string shut_string)
set_option linter.unusedVariables false
set_option linter.unusedSimpArgs false
set_option maxRecDepth 20000

open Le
theorem num_tick {x : Int} (h : 0 ≤ x) (h2 : x ≤ 9223372036854775807) : IntKind.i64.wrap (x - 1) = x - 1 := IntWalk.i64_in _ (by omega)

set_option maxHeartbeats 4000000 in
theorem walk (x0 : Int) (a1 : Option Addr) (n1 c1 : Nat) (l1 : List Int) (w : World) (w0 : (Lit.int .i64 x0).wf = true) (w1 : Le.NRow w a1 n1 c1 l1) :
    Calls Try.prog 6 #[.int .i64 x0, .slice a1 n1 c1] w fun e w' => e = .returned (.bool true) ∧ Below w.heap.size w w' := by
  obtain ⟨hrow, hwide⟩ := w1
  have HN := Lib.hid hrow
  have HWd := Lib.hid hwide
  have HLen : Hid (l1.length = n1) := Lib.hid (by have := hrow.1; rwa [i64s_length] at this)
  have hx0 := wf_i64 w0
  have hcap : n1 ≤ 9223372036854775807 := by have := hrow.2.1; have := hrow.2.2.1; simp only [maxLen] at this; omega
  clear hrow hwide w0
  have HA := Lib.hid (fun w' => awake_any w')
  have HO0 : Hid (∀ w' g, TAt w' g 0 → Calls Try.prog 13 #[.pointer (some ⟨g, 0, none⟩)] w' fun e w'' => e = .returned (.bool false) ∧ w' = w'') := Lib.hid fun w' g h => on_any h
  have HL0 : Hid (∀ w' g, TAt w' g 0 → Calls Try.prog 14 #[.pointer (some ⟨g, 0, none⟩)] w' fun e w'' => e = .returned (.int .i64 0) ∧ w' = w'') := Lib.hid fun w' g h => left_any h
  have HS : Hid (∀ w' g x n, TAt w' g x → w.heap.size ≤ g → Calls Try.prog 15 #[.pointer (some ⟨g, 0, none⟩), .int .i64 n] w' fun e w'' => e = .returned (.tuple #[]) ∧ TAt w'' g (left n) ∧ Below w.heap.size w' w'') := Lib.hid fun w' g x n h hg => by
    refine (set_any h n).mono ?_
    rintro e w'' ⟨rfl, h1, h2⟩
    exact ⟨rfl, h1, by rw [h2]; exact (Below.refl w.heap.size w').setCell (p := ⟨g, 0, none⟩) hg _⟩
  have HT : Hid (∀ w' g x, TAt w' g x → w.heap.size ≤ g → 0 ≤ x → x ≤ 9223372036854775807 → Calls Try.prog 16 #[.pointer (some ⟨g, 0, none⟩)] w' fun e w'' => e = .returned (.tuple #[]) ∧ TAt w'' g (left (x - 1)) ∧ Below w.heap.size w' w'') := Lib.hid fun w' g x h hg h0 h9 => by
    refine (tick_any h h0 h9).mono ?_
    rintro e w'' ⟨rfl, h1, h2⟩
    refine ⟨rfl, h1, ?_⟩
    rcases h2 with rfl | rfl
    · exact Below.refl _ _
    · exact (Below.refl w.heap.size w').setCell (p := ⟨g, 0, none⟩) hg _
  by_cases hneg : x0 < 0
  case' pos => obtain ⟨X, hX, hX1, hX2⟩ : ∃ X : Int, left x0 = X ∧ X = 0 ∧ X = 0 := ⟨_, rfl, by unfold left; omega, by unfold left; omega⟩
               have hX3 : 0 ≤ X ∧ X ≤ 9223372036854775807 := by omega
               subst hX2
  case' neg => obtain ⟨X, hX, hX1, hX2⟩ : ∃ X : Int, left x0 = X ∧ X = x0 ∧ X = x0 := ⟨_, rfl, by unfold left; omega, by unfold left; omega⟩
               have hX3 : 0 ≤ X ∧ X ≤ 9223372036854775807 := by omega
               subst hX2
  all_goals
    have HX3 := Lib.hid hX3
    have HX := Lib.hid hX
    clear hX hX1 hX3 hx0
    go_enter Try.func6, Try.ntmps6
    go_wp2_with (first
      | (go_at_call 9; with_reducible refine (HA.out _).mono ?_; rintro e w1 ⟨rfl, hb1⟩
         have HB := Lib.hid hb1
         have HT0 := Lib.hid (TAt.new w1 0)
         have HB1 := Lib.hid (hb1.alloc hb1.size (.cells #[.int .i64 0] 34))
         clear hb1)
      | (go_at_call 13; with_reducible refine (HO0.out _ _ HT0.out).mono ?_; rintro e w2 ⟨rfl, rfl⟩)
      | (go_at_call 14; with_reducible refine (HL0.out _ _ HT0.out).mono ?_; rintro e w3 ⟨rfl, rfl⟩)
      | (go_at_call 15; with_reducible refine (HS.out _ _ _ _ HT0.out HB.out.size).mono ?_; rintro e w4 ⟨rfl, h4, b4⟩
         rw [HX.out] at h4
         have HT4 := Lib.hid h4
         have HB4 := Lib.hid (HB1.out.trans b4)
         clear h4 b4))
    have hG := HB.out.size
    clear HB1 HT0 HA HO0 HL0 HX
    generalize w1.heap.size = G at *
    go_loopw [6, 7] (fun lf i wr => ∃ (k : Nat) (x : Int), k ≤ n1 ∧ k ≤ 200 ∧ lf = .int .i64 x ∧ i = .int .i64 (k : Int) ∧ 0 ≤ x ∧ x ≤ 9223372036854775807 ∧ TAt wr G x ∧ Below w.heap.size w wr) (fun _ i _ => 200 - (intOf i).toNat)
    case atStart => exact ⟨0, _, by omega, by omega, rfl, rfl, HX3.out.1, HX3.out.2, HT4.out, HB4.out⟩
    case round =>
      obtain ⟨k, x, hk1, hk2, rfl, rfl, hx1, hx2, hTr, hBr⟩ := hrel
      have HBr := Lib.hid hBr
      clear hBr
      by_cases hlt : k < n1 ∧ k < 200
      · have hltI : (k : Int) < (n1 : Int) := by omega
        have hltJ : (k : Int) < 200 := by omega
        obtain ⟨z, hz⟩ : ∃ z, l1[k]? = some z := ⟨_, List.getElem?_eq_getElem (by have := HLen.out; omega)⟩
        have hzw := HWd.out z (List.mem_of_getElem? hz)
        obtain ⟨b, off, rfl, hb, hc⟩ := HN.out.num hz
        have hc' : wr.cell? ⟨b, off + k, none⟩ = some (.int .i64 z) := by rw [HBr.out.cell (p := ⟨b, off + k, none⟩) hb]; exact hc
        have HCz : Hid (∀ w', Below w.heap.size w w' → w'.cell? ⟨b, off + k, none⟩ = some (.int .i64 z)) := Lib.hid fun w' hb' => by rw [hb'.cell (p := ⟨b, off + k, none⟩) hb]; exact hc
        clear hc hz
        by_cases hz0 : z = 0
        · subst hz0
          have hw1 : IntKind.i64.wrap (x - 1) = x - 1 := num_tick hx1 hx2
          by_cases hx : 0 < x
          · have hxn : ¬ x - 1 < 0 := by omega
            have hlv : left (x - 1) = x - 1 := by unfold left; omega
            have hC := HT.out _ _ _ hTr hG hx1 hx2
            rw [hlv] at hC
            have HC := Lib.hid hC
            have HLn : Hid (∀ w', TAt w' G (x - 1) → Calls Try.prog 14 #[.pointer (some ⟨G, 0, none⟩)] w' fun e w'' => e = .returned (.int .i64 (x - 1)) ∧ w' = w'') := Lib.hid fun w' h => left_any h
            have HOn : Hid (∀ w', TAt w' G (x - 1) → Calls Try.prog 13 #[.pointer (some ⟨G, 0, none⟩)] w' fun e w'' => e = .returned (.bool (decide (0 < x - 1))) ∧ w' = w'') := Lib.hid fun w' h => on_any h
            clear hlv hC hTr
            go_wp2_with (first
              | (go_at_call 16; with_reducible refine HC.out.mono ?_; rintro e w5 ⟨rfl, h5, b5⟩
                 have HTy := Lib.hid h5
                 have HBy := Lib.hid (HBr.out.trans b5)
                 have hcy := HCz.out _ HBy.out
                 clear h5 b5)
              | (go_at_call 14; with_reducible refine (HLn.out _ HTy.out).mono ?_; rintro e w6 ⟨rfl, rfl⟩)
              | (go_at_call 13; with_reducible refine (HOn.out _ HTy.out).mono ?_; rintro e w7 ⟨rfl, rfl⟩))
            go_roundw
            case rel => exact ⟨k + 1, x - 1, by omega, by omega, rfl, by go_num, by omega, by omega, HTy.out, HBy.out⟩
            case measure => simp [intOf]; omega
          · obtain rfl : x = 0 := by omega
            clear hw1
            have hlv : left (0 - 1) = 0 := by unfold left; omega
            have hC := HT.out _ _ _ hTr hG hx1 hx2
            rw [hlv] at hC
            have HC := Lib.hid hC
            have HLn : Hid (∀ w', TAt w' G (0) → Calls Try.prog 14 #[.pointer (some ⟨G, 0, none⟩)] w' fun e w'' => e = .returned (.int .i64 (0)) ∧ w' = w'') := Lib.hid fun w' h => left_any h
            have HOn : Hid (∀ w', TAt w' G (0) → Calls Try.prog 13 #[.pointer (some ⟨G, 0, none⟩)] w' fun e w'' => e = .returned (.bool (decide (0 < 0))) ∧ w' = w'') := Lib.hid fun w' h => on_any h
            clear hlv hC hTr
            go_wp2_with (first
              | (go_at_call 16; with_reducible refine HC.out.mono ?_; rintro e w5 ⟨rfl, h5, b5⟩
                 have HTy := Lib.hid h5
                 have HBy := Lib.hid (HBr.out.trans b5)
                 have hcy := HCz.out _ HBy.out
                 clear h5 b5)
              | (go_at_call 14; with_reducible refine (HLn.out _ HTy.out).mono ?_; rintro e w6 ⟨rfl, rfl⟩)
              | (go_at_call 13; with_reducible refine (HOn.out _ HTy.out).mono ?_; rintro e w7 ⟨rfl, rfl⟩))
            go_roundw
            case rel => exact ⟨k + 1, 0, by omega, by omega, rfl, by go_num, by omega, by omega, HTy.out, HBy.out⟩
            case measure => simp [intOf]; omega
        · have hzb : (z == 0) = false := by simpa using hz0
          by_cases hzn : z < 0
          · have hlv : left z = 0 := by unfold left; omega
            have hC := HS.out _ _ _ z hTr hG
            rw [hlv] at hC
            have HC := Lib.hid hC
            have HLn : Hid (∀ w', TAt w' G (0) → Calls Try.prog 14 #[.pointer (some ⟨G, 0, none⟩)] w' fun e w'' => e = .returned (.int .i64 (0)) ∧ w' = w'') := Lib.hid fun w' h => left_any h
            have HOn : Hid (∀ w', TAt w' G (0) → Calls Try.prog 13 #[.pointer (some ⟨G, 0, none⟩)] w' fun e w'' => e = .returned (.bool (decide (0 < 0))) ∧ w' = w'') := Lib.hid fun w' h => on_any h
            clear hlv hC hTr
            go_wp2_with (first
              | (go_at_call 15; with_reducible refine HC.out.mono ?_; rintro e w5 ⟨rfl, h5, b5⟩
                 have HTy := Lib.hid h5
                 have HBy := Lib.hid (HBr.out.trans b5)
                 have hcy := HCz.out _ HBy.out
                 clear h5 b5)
              | (go_at_call 14; with_reducible refine (HLn.out _ HTy.out).mono ?_; rintro e w6 ⟨rfl, rfl⟩)
              | (go_at_call 13; with_reducible refine (HOn.out _ HTy.out).mono ?_; rintro e w7 ⟨rfl, rfl⟩))
            go_roundw
            case rel => exact ⟨k + 1, 0, by omega, by omega, rfl, by go_num, by omega, by omega, HTy.out, HBy.out⟩
            case measure => simp [intOf]; omega
          · have hlv : left z = z := by unfold left; omega
            have hC := HS.out _ _ _ z hTr hG
            rw [hlv] at hC
            have HC := Lib.hid hC
            have HLn : Hid (∀ w', TAt w' G (z) → Calls Try.prog 14 #[.pointer (some ⟨G, 0, none⟩)] w' fun e w'' => e = .returned (.int .i64 (z)) ∧ w' = w'') := Lib.hid fun w' h => left_any h
            have HOn : Hid (∀ w', TAt w' G (z) → Calls Try.prog 13 #[.pointer (some ⟨G, 0, none⟩)] w' fun e w'' => e = .returned (.bool (decide (0 < z))) ∧ w' = w'') := Lib.hid fun w' h => on_any h
            clear hlv hC hTr
            go_wp2_with (first
              | (go_at_call 15; with_reducible refine HC.out.mono ?_; rintro e w5 ⟨rfl, h5, b5⟩
                 have HTy := Lib.hid h5
                 have HBy := Lib.hid (HBr.out.trans b5)
                 have hcy := HCz.out _ HBy.out
                 clear h5 b5)
              | (go_at_call 14; with_reducible refine (HLn.out _ HTy.out).mono ?_; rintro e w6 ⟨rfl, rfl⟩)
              | (go_at_call 13; with_reducible refine (HOn.out _ HTy.out).mono ?_; rintro e w7 ⟨rfl, rfl⟩))
            go_roundw
            case rel => exact ⟨k + 1, z, by omega, by omega, rfl, by go_num, by omega, by omega, HTy.out, HBy.out⟩
            case measure => simp [intOf]; omega
      · have hnot : (¬ k < n1) ∨ (k < n1 ∧ ¬ k < 200) := by omega
        rcases hnot with h9 | ⟨h8, h9⟩
        · have g1 : decide ((k : Int) < (n1 : Int)) = false := by simpa using h9
          go_wp2
          go_ret
          exact ⟨rfl, HBr.out⟩
        · have g1 : (k : Int) < (n1 : Int) := by omega
          have g2 : decide ((k : Int) < 200) = false := by simp; omega
          go_wp2
          go_ret
          exact ⟨rfl, HBr.out⟩

set_option maxRecDepth 100000 in
theorem lifted (os : Os) (started : os.Started) (H : Type) (enc : TypeId × Value → H) :
    ReturnsInHanded {} Try.checked os 6 .any (Rows.leaseTimerSpec.pre6 enc Try.prog Try.f6 Rows.leaseTimerRow.domain false) (Rows.leaseTimerSpec.post enc Try.prog Try.f6 false true false false) := by
  refine returnsInHanded_of_change (C := Try.checked) Le.own started (by kernel_rfl) Try.func6
    (ChangeSpec.witness6 (enc := enc) (C := Try.checked) false ⟨#[], #[.int .i64 0, .slice none 0 0], []⟩ 8 (by kernel_rfl) (by kernel_rfl) (by kernel_rfl) (by kernel_rfl)) ?_
  intro W base args ds gs before hval0 hW hcnd _
  have hval : ∀ (j : Nat) t v, Try.f6.params[j]? = some t → args[j]? = some v → Value.okWide Try.prog W .any base t v := hval0
  have hW' := hW
  obtain ⟨p, q, hA0, hV, rfl, hfz, hnd⟩ := hW
  have hA : DataW.TrodAll enc Try.prog W 0 (fun _ => true) true Try.f6.params.toList args.toList ds p := hA0
  rw [Try.params6] at hA hval
  obtain ⟨v0, vs0, d0, ds0, p0, q0, hargs, rfl, rfl, h0, r0'⟩ := trodAll_cons hA
  obtain ⟨v1, vs1, d1, ds1, p1, q1, rfl, rfl, rfl, h1, r1'⟩ := trodAll_cons r0'
  obtain ⟨rfl, rfl, rfl⟩ := trodAll_nil r1'
  obtain rfl : args = #[v0, v1] := by cases args; simp_all
  obtain ⟨rfl, rfl⟩ := trodVars_none hV
  obtain ⟨x0, rfl, rfl, rfl, w0⟩ := open_int Try.underlying2 (hval 0 2 v0 rfl rfl) h0
  have k1 := h1
  have lt1 : ∀ x ∈ p1, x.block < W.heap.size := by obtain ⟨m, hm⟩ := k1; exact DataW.trod_lt m _ _ _ hm
  obtain ⟨a1, n1, c1, l1, rfl, w1⟩ := Le.open_i64s h1 (okWide_slice Try.underlying31 (hval 1 31 v1 rfl rfl))
  clear hA0 hval0
  refine (walk x0 a1 n1 c1 l1 W w0 w1).mono fun e W' ⟨he, bel⟩ => ?_
  subst he
  exact ⟨_, rfl, _, _, _, [], _, [], hW', trodAll_mk1 (shut_bool Try.underlying4 _), (trodAll_cons_mk (shut_int Try.underlying2 w0) (trodAll_cons_mk (Below.trod Le.laidOut (by kernel_rfl) (of_decide_eq_true (by kernel_rfl)) k1 bel lt1) trodAll_mk0)), rfl, bel.frame _, fun h => by cases h⟩

theorem over : Rows.leaseTimerRow.holds Try.pinned (OpenSpec.ofChange Rows.leaseTimerSpec) :=
  OpenClaim.holds_of_wide 6 Try.f6 rfl rfl rfl rfl rfl rfl rfl ⟨rfl, rfl, rfl, rfl, rfl⟩ rfl rfl rfl rfl rfl (by kernel_rfl) Try.func6 (by kernel_rfl)
    (of_decide_eq_true (by kernel_rfl)) (by unfold Func.isWrapper; first | (rw [if_pos (by decide +kernel)]; kernel_rfl) | (rw [if_neg (by decide +kernel)]; exact ⟨rfl, rfl⟩))
    (fun os started H enc _ => lifted os started H enc)

/-- the statement -/
theorem proved : Rows.LeaseTimerSaid := over
#print axioms proved
end Go.Proofs.Ytlicofdklfbkoaa.leaseTimer
