/-
  PROVED: who has waited long enough by its clock knows that the other one's lease is over: of clocks that go together by d, from any time on, when the first one has ticked Wait(n, d) times, the second one has ticked n times at least. CONDITIONS: none (any ticks, of which up to 200 are looked at; from any of them on; any numbers).
-/
import Derived.Test.YtlicofdklfbkoaaLeRef
namespace Go.Proofs.Ytlicofdklfbkoaa.leaseSafe
open Go.ChangeShapes Go.WideShapes Go.ChangeAt Go.RowKit Go.Joins
open Go.ChangeMaps (open_string shut_string)
set_option linter.unusedVariables false
set_option linter.unusedSimpArgs false
set_option maxRecDepth 20000

open Le

set_option maxHeartbeats 4000000 in
theorem walk (a0 : Option Addr) (n0 c0 : Nat) (l0 : List Bool) (x1 : Int) (x2 : Int) (x3 : Int) (w : World) (w0 : Le.Row w a0 n0 c0 (Le.bits l0)) (w1 : (Lit.int .u8 x1).wf = true) (w2 : (Lit.int .i64 x2).wf = true) (w3 : (Lit.int .i64 x3).wf = true) :
    Calls Try.prog 3 #[.slice a0 n0 c0, .int .u8 x1, .int .i64 x2, .int .i64 x3] w fun e w' => e = .returned (.bool true) ∧ Below w.heap.size w w' := by
  have HA := Lib.hid (fun w' => awake_any w')
  have HR := Lib.hid w0
  have HLen : Hid (l0.length = n0) := Lib.hid w0.len
  have hcap : n0 ≤ 9223372036854775807 := by have := w0.2.1; have := w0.2.2.1; simp only [maxLen] at this; omega
  obtain ⟨hF0, hF9⟩ := u8_range w1
  obtain ⟨F, rfl⟩ := Int.eq_ofNat_of_zero_le hF0
  clear w0 w1 hF0
  by_cases hbig : 200 < n0
  · have g1 : decide ((200 : Int) < (n0 : Int)) = true := by simp; omega
    have g1' : (200 : Int) < (n0 : Int) := by omega
    go_enter Try.func3, Try.ntmps3
    go_wp2_with (go_at_call 9; with_reducible refine (HA.out _).mono ?_; rintro e w1 ⟨rfl, hb1⟩
                 have HB := Lib.hid hb1
                 clear hb1)
    go_ret
    exact ⟨rfl, HB.out⟩
  have g1 : decide ((200 : Int) < (n0 : Int)) = false := by simp; omega
  have g1' : ¬ (200 : Int) < (n0 : Int) := by omega
  have HRf : Hid (∀ w', Below w.heap.size w w' → Calls Try.prog 10 #[.slice a0 n0 c0, .int .i64 x3] w' fun e w'' => ∃ b, e = .returned (.bool b) ∧ (b = true → Go l0 x3) ∧ w' = w'') := Lib.hid fun w' hb => ref_any (row_below HR.out hb (Nat.le_refl _)) (by omega) x3
  have HW := Lib.hid (fun w' => wait_any x2 x3 w')
  by_cases hk : waitOk x2 x3 = true
  · obtain ⟨k1, k2, k3, k4⟩ := waitOk_iff.1 hk
    rw [show waitV x2 x3 = wq x2 x3 + 1 by unfold waitV; rw [if_pos hk], show waitE x2 x3 = 0 by unfold waitE; rw [if_pos hk]] at HW
    have HS : Hid (∀ a b : Int, a * (1000 - x3) ≤ (b + 1) * (1000 + x3) → wq x2 x3 + 1 ≤ a → x2 ≤ b) := Lib.hid fun a b h h' => safe k1 k3 k4 h h'
    have f2 := wq_max k1 k2 k3 k4
    have f4 := wq_nonneg k1 k3 k4
    generalize wq x2 x3 = W at *
    clear hk
    go_enter Try.func3, Try.ntmps3
    go_wp2_with (first
      | (go_at_call 9; with_reducible refine (HA.out _).mono ?_; rintro e w1 ⟨rfl, hb1⟩
         have HB := Lib.hid hb1
         clear hb1)
      | (go_at_call 10; with_reducible refine (HRf.out _ HB.out).mono ?_; rintro e w2 ⟨B, rfl, hgo, rfl⟩
         have HG := Lib.hid hgo
         clear hgo)
      | (go_at_call 11; with_reducible refine (HW.out _).mono ?_; rintro e w3 ⟨rfl, rfl⟩))
    · go_ret
      exact ⟨rfl, HB.out⟩
    · have hBf : (!B) = false := by assumption
      have HGo : Hid (Go l0 x3) := Lib.hid (HG.out (by simpa using hBf))
      clear hBf
      clear HG
      go_loopw [11, 12, 13] (fun av bv iv wr => ∃ k : Nat, F ≤ k ∧ (k ≤ n0 ∨ k = F) ∧ av = .int .i64 (cn l0 F k true : Int) ∧ bv = .int .i64 (cn l0 F k false : Int) ∧ iv = .int .i64 (k : Int) ∧ Hid (Below w.heap.size w wr)) (fun _ _ iv _ => n0 - (intOf iv).toNat)
      case atStart => exact ⟨F, by omega, .inr rfl, by rw [cn_self]; rfl, by rw [cn_self]; rfl, rfl, HB⟩
      case round =>
        obtain ⟨k, hk1, hk2, rfl, rfl, rfl, HBr⟩ := hrel
        by_cases hlk : k < n0
        · have hlkI : (k : Int) < (n0 : Int) := by omega
          obtain ⟨t, ht⟩ : ∃ t, l0[k]? = some t := ⟨_, List.getElem?_eq_getElem (by have := HLen.out; omega)⟩
          obtain ⟨b, off, rfl, hb, hc⟩ := HR.out.tick ht
          have hc' : wr.cell? ⟨b, off + k, none⟩ = some (.bool t) := by rw [HBr.out.cell (p := ⟨b, off + k, none⟩) hb]; exact hc
          have s1 := cn_step ht hk1 true
          have s2 := cn_step ht hk1 false
          have u1 := cn_le l0 F k true
          have u2 := cn_le l0 F k false
          have hok := HGo.out.2 F (k + 1) (by omega) (by have := HLen.out; omega)
          unfold Ok at hok
          clear ht hc
          generalize cn l0 F k true = X at *
          generalize cn l0 F k false = Y at *
          cases t
          · have HX' : Hid ((cn l0 F (k + 1) true : Int) = (X : Int)) := Lib.hid (by rw [s1]; simp)
            have HY' : Hid ((cn l0 F (k + 1) false : Int) = (Y : Int) + 1) := Lib.hid (by rw [s2]; simp)
            rw [HX'.out, HY'.out] at hok
            have hno : decide (W + 1 ≤ (X : Int)) = false ∨ (decide (W + 1 ≤ (X : Int)) = true ∧ decide ((Y : Int) + 1 < x2) = false) := by
              by_cases g : W + 1 ≤ (X : Int)
              · exact .inr ⟨by simpa using g, by have := HS.out _ _ hok (by omega); simp; omega⟩
              · exact .inl (by simpa using g)
            clear s1 s2 hok
            rcases hno with g1 | ⟨g1, g2⟩
            all_goals
              go_wp2
              go_roundw
              case rel => exact ⟨k + 1, by omega, by omega, by rw [HX'.out], by rw [HY'.out], by go_num, HBr⟩
              case measure => simp [intOf]; omega
          · have HX' : Hid ((cn l0 F (k + 1) true : Int) = (X : Int) + 1) := Lib.hid (by rw [s1]; simp)
            have HY' : Hid ((cn l0 F (k + 1) false : Int) = (Y : Int)) := Lib.hid (by rw [s2]; simp)
            rw [HX'.out, HY'.out] at hok
            have hno : decide (W ≤ (X : Int)) = false ∨ (decide (W ≤ (X : Int)) = true ∧ decide ((Y : Int) < x2) = false) := by
              by_cases g : W ≤ (X : Int)
              · exact .inr ⟨by simpa using g, by have := HS.out _ _ hok (by omega); simp; omega⟩
              · exact .inl (by simpa using g)
            clear s1 s2 hok
            rcases hno with g1 | ⟨g1, g2⟩
            all_goals
              go_wp2
              go_roundw
              case rel => exact ⟨k + 1, by omega, by omega, by rw [HX'.out], by rw [HY'.out], by go_num, HBr⟩
              case measure => simp [intOf]; omega
        · generalize cn l0 F k true = X at *
          generalize cn l0 F k false = Y at *
          have hlkI : ¬ (k : Int) < (n0 : Int) := by omega
          go_wp2
          go_ret
          exact ⟨rfl, HBr.out⟩
  · rw [show waitV x2 x3 = 0 by unfold waitV; rw [if_neg hk], show waitE x2 x3 = 1 by unfold waitE; rw [if_neg hk]] at HW
    go_enter Try.func3, Try.ntmps3
    go_wp2_with (first
      | (go_at_call 9; with_reducible refine (HA.out _).mono ?_; rintro e w1 ⟨rfl, hb1⟩
         have HB := Lib.hid hb1
         clear hb1)
      | (go_at_call 10; with_reducible refine (HRf.out _ HB.out).mono ?_; rintro e w2 ⟨B, rfl, hgo, rfl⟩
         have HG := Lib.hid hgo
         clear hgo)
      | (go_at_call 11; with_reducible refine (HW.out _).mono ?_; rintro e w3 ⟨rfl, rfl⟩))
    all_goals
      go_ret
      exact ⟨rfl, HB.out⟩

set_option maxRecDepth 100000 in
theorem lifted (os : Os) (started : os.Started) (H : Type) (enc : TypeId × Value → H) :
    ReturnsInHanded {} Try.checked os 3 .any (Rows.leaseSafeSpec.pre6 enc Try.prog Try.f3 Rows.leaseSafeRow.domain false) (Rows.leaseSafeSpec.post enc Try.prog Try.f3 false true false false) := by
  refine returnsInHanded_of_change (C := Try.checked) Le.own started (by kernel_rfl) Try.func3
    (ChangeSpec.witness6 (enc := enc) (C := Try.checked) false ⟨#[], #[.slice none 0 0, .int .u8 0, .int .i64 0, .int .i64 0], []⟩ 8 (by kernel_rfl) (by kernel_rfl) (by kernel_rfl) (by kernel_rfl)) ?_
  intro W base args ds gs before hval0 hW hcnd _
  have hval : ∀ (j : Nat) t v, Try.f3.params[j]? = some t → args[j]? = some v → Value.okWide Try.prog W .any base t v := hval0
  have hW' := hW
  obtain ⟨p, q, hA0, hV, rfl, hfz, hnd⟩ := hW
  have hA : DataW.TrodAll enc Try.prog W 0 (fun _ => true) true Try.f3.params.toList args.toList ds p := hA0
  rw [Try.params3] at hA hval
  obtain ⟨v0, vs0, d0, ds0, p0, q0, hargs, rfl, rfl, h0, r0'⟩ := trodAll_cons hA
  obtain ⟨v1, vs1, d1, ds1, p1, q1, rfl, rfl, rfl, h1, r1'⟩ := trodAll_cons r0'
  obtain ⟨v2, vs2, d2, ds2, p2, q2, rfl, rfl, rfl, h2, r2'⟩ := trodAll_cons r1'
  obtain ⟨v3, vs3, d3, ds3, p3, q3, rfl, rfl, rfl, h3, r3'⟩ := trodAll_cons r2'
  obtain ⟨rfl, rfl, rfl⟩ := trodAll_nil r3'
  obtain rfl : args = #[v0, v1, v2, v3] := by cases args; simp_all
  obtain ⟨rfl, rfl⟩ := trodVars_none hV
  have k0 := h0
  have lt0 : ∀ x ∈ p0, x.block < W.heap.size := by obtain ⟨m, hm⟩ := k0; exact DataW.trod_lt m _ _ _ hm
  obtain ⟨a0, n0, c0, l0, rfl, w0⟩ := Le.open_bits h0 (okWide_slice Try.underlying22 (hval 0 22 v0 rfl rfl))
  obtain ⟨x1, rfl, rfl, rfl, w1⟩ := open_int Try.underlying5 (hval 1 5 v1 rfl rfl) h1
  obtain ⟨x2, rfl, rfl, rfl, w2⟩ := open_int Try.underlying2 (hval 2 2 v2 rfl rfl) h2
  obtain ⟨x3, rfl, rfl, rfl, w3⟩ := open_int Try.underlying2 (hval 3 2 v3 rfl rfl) h3
  clear hA0 hval0
  refine (walk a0 n0 c0 l0 x1 x2 x3 W w0 w1 w2 w3).mono fun e W' ⟨he, bel⟩ => ?_
  subst he
  exact ⟨_, rfl, _, _, _, [], _, [], hW', trodAll_mk1 (shut_bool Try.underlying4 _), (trodAll_cons_mk (Below.trod Le.laidOut (by kernel_rfl) (of_decide_eq_true (by kernel_rfl)) k0 bel lt0) (trodAll_cons_mk (shut_int Try.underlying5 w1) (trodAll_cons_mk (shut_int Try.underlying2 w2) (trodAll_cons_mk (shut_int Try.underlying2 w3) trodAll_mk0)))), rfl, bel.frame _, fun h => by cases h⟩

theorem over : Rows.leaseSafeRow.holds Try.pinned (OpenSpec.ofChange Rows.leaseSafeSpec) :=
  OpenClaim.holds_of_wide 3 Try.f3 rfl rfl rfl rfl rfl rfl rfl ⟨rfl, rfl, rfl, rfl, rfl⟩ rfl rfl rfl rfl rfl (by kernel_rfl) Try.func3 (by kernel_rfl)
    (of_decide_eq_true (by kernel_rfl)) (by unfold Func.isWrapper; first | (rw [if_pos (by decide +kernel)]; kernel_rfl) | (rw [if_neg (by decide +kernel)]; exact ⟨rfl, rfl⟩))
    (fun os started H enc _ => lifted os started H enc)

/-- the statement -/
theorem proved : Rows.LeaseSafeSaid := over
#print axioms proved
end Go.Proofs.Ytlicofdklfbkoaa.leaseSafe
