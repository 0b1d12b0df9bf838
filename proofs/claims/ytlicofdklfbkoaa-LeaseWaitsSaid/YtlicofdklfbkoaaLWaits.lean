/-
  PROVED: waiting for more takes no less, with more drift too; it is never shorter than what is waited for, and with no drift one tick longer. CONDITIONS: none (any numbers).
-/
import Derived.Test.YtlicofdklfbkoaaLeOpen
namespace Go.Proofs.Ytlicofdklfbkoaa.leaseWaits
open Go.ChangeShapes Go.WideShapes Go.ChangeAt Go.RowKit Go.Joins
open Go.ChangeMaps (open_string shut_string)
set_option linter.unusedVariables false
set_option linter.unusedSimpArgs false
set_option maxRecDepth 20000

open Le

set_option maxHeartbeats 4000000 in
theorem walk (x0 : Int) (x1 : Int) (x2 : Int) (x3 : Int) (w : World) (w0 : (Lit.int .i64 x0).wf = true) (w1 : (Lit.int .i64 x1).wf = true) (w2 : (Lit.int .i64 x2).wf = true) (w3 : (Lit.int .i64 x3).wf = true) :
    Calls Try.prog 4 #[.int .i64 x0, .int .i64 x1, .int .i64 x2, .int .i64 x3] w fun e w' => e = .returned (.bool true) ∧ Below w.heap.size w w' := by
  have HA := Lib.hid (fun w' => awake_any w')
  have HW1 := Lib.hid (fun w' => wait_any x0 x2 w')
  have HW2 := Lib.hid (fun w' => wait_any x1 x3 w')
  by_cases hk : waitOk x0 x2 = true
  · obtain ⟨k1, k2, k3, k4⟩ := waitOk_iff.1 hk
    rw [show waitV x0 x2 = wq x0 x2 + 1 by unfold waitV; rw [if_pos hk], show waitE x0 x2 = 0 by unfold waitE; rw [if_pos hk]] at HW1
    by_cases hm : waitOk x1 x3 = true
    · obtain ⟨m1, m2, m3, m4⟩ := waitOk_iff.1 hm
      rw [show waitV x1 x3 = wq x1 x3 + 1 by unfold waitV; rw [if_pos hm], show waitE x1 x3 = 0 by unfold waitE; rw [if_pos hm]] at HW2
      have f1 := wq_ge k1 k3 k4
      have f2 := wq_max k1 k2 k3 k4
      have f3 : x2 = 0 → wq x0 x2 = x0 := fun h => by rw [h]; exact wq_zero k1
      have f4 : x0 ≤ x1 → x2 ≤ x3 → wq x0 x2 ≤ wq x1 x3 := fun h h' => wq_mono k1 k3 m4 h h'
      generalize wq x0 x2 = A at *
      generalize wq x1 x3 = B at *
      have g1 : decide (A + 1 ≤ x0) = false := by simp; omega
      have g1' : ¬ A + 1 ≤ x0 := by omega
      have g0 : ((x2 == 0) = true ∧ (A + 1 != x0 + 1) = false) ∨ (x2 == 0) = false := by
        by_cases h : x2 = 0
        · exact .inl ⟨by simpa using h, by simp [f3 h]⟩
        · exact .inr (by simpa using h)
      have g2 : decide (x1 < x0) = true ∨ (decide (x1 < x0) = false ∧ decide (x3 < x2) = true) ∨ (decide (x1 < x0) = false ∧ decide (x3 < x2) = false ∧ decide (A ≤ B) = true) := by
        by_cases h : x1 < x0
        · exact .inl (by simpa using h)
        · by_cases h' : x3 < x2
          · exact .inr (.inl ⟨by simpa using h, by simpa using h'⟩)
          · exact .inr (.inr ⟨by simpa using h, by simpa using h', by have := f4 (by omega) (by omega); simp; omega⟩)
      clear f3 f4 hk hm
      rcases g0 with ⟨d1, d2⟩ | d1 <;> rcases g2 with e1 | ⟨e1, e2⟩ | ⟨e1, e2, e3⟩
      all_goals
        go_enter Try.func4, Try.ntmps4
        go_wp2_with (first
          | (go_at_call 9; with_reducible refine (HA.out _).mono ?_; rintro e w1 ⟨rfl, hb1⟩
             have HB := Lib.hid hb1
             clear hb1)
          | (go_at_call 11; with_reducible refine (HW1.out _).mono ?_; rintro e w2 ⟨rfl, rfl⟩)
          | (go_at_call 11; with_reducible refine (HW2.out _).mono ?_; rintro e w3 ⟨rfl, rfl⟩))
        go_ret
        exact ⟨rfl, HB.out⟩
    · rw [show waitV x1 x3 = 0 by unfold waitV; rw [if_neg hm], show waitE x1 x3 = 1 by unfold waitE; rw [if_neg hm]] at HW2
      generalize wq x0 x2 = A at *
      clear hk hm
      go_enter Try.func4, Try.ntmps4
      go_wp2_with (first
        | (go_at_call 9; with_reducible refine (HA.out _).mono ?_; rintro e w1 ⟨rfl, hb1⟩
           have HB := Lib.hid hb1
           clear hb1)
        | (go_at_call 11; with_reducible refine (HW1.out _).mono ?_; rintro e w2 ⟨rfl, rfl⟩)
        | (go_at_call 11; with_reducible refine (HW2.out _).mono ?_; rintro e w3 ⟨rfl, rfl⟩))
      go_ret
      exact ⟨rfl, HB.out⟩
  · rw [show waitV x0 x2 = 0 by unfold waitV; rw [if_neg hk], show waitE x0 x2 = 1 by unfold waitE; rw [if_neg hk]] at HW1
    generalize waitV x1 x3 = B at *
    generalize waitE x1 x3 = E at *
    clear hk
    go_enter Try.func4, Try.ntmps4
    go_wp2_with (first
      | (go_at_call 9; with_reducible refine (HA.out _).mono ?_; rintro e w1 ⟨rfl, hb1⟩
         have HB := Lib.hid hb1
         clear hb1)
      | (go_at_call 11; with_reducible refine (HW1.out _).mono ?_; rintro e w2 ⟨rfl, rfl⟩)
      | (go_at_call 11; with_reducible refine (HW2.out _).mono ?_; rintro e w3 ⟨rfl, rfl⟩))
    go_ret
    exact ⟨rfl, HB.out⟩

set_option maxRecDepth 100000 in
theorem lifted (os : Os) (started : os.Started) (H : Type) (enc : TypeId × Value → H) :
    ReturnsInHanded {} Try.checked os 4 .any (Rows.leaseWaitsSpec.pre6 enc Try.prog Try.f4 Rows.leaseWaitsRow.domain false) (Rows.leaseWaitsSpec.post enc Try.prog Try.f4 false true false false) := by
  refine returnsInHanded_of_change (C := Try.checked) Le.own started (by kernel_rfl) Try.func4
    (ChangeSpec.witness6 (enc := enc) (C := Try.checked) false ⟨#[], #[.int .i64 0, .int .i64 0, .int .i64 0, .int .i64 0], []⟩ 8 (by kernel_rfl) (by kernel_rfl) (by kernel_rfl) (by kernel_rfl)) ?_
  intro W base args ds gs before hval0 hW hcnd _
  have hval : ∀ (j : Nat) t v, Try.f4.params[j]? = some t → args[j]? = some v → Value.okWide Try.prog W .any base t v := hval0
  have hW' := hW
  obtain ⟨p, q, hA0, hV, rfl, hfz, hnd⟩ := hW
  have hA : DataW.TrodAll enc Try.prog W 0 (fun _ => true) true Try.f4.params.toList args.toList ds p := hA0
  rw [Try.params4] at hA hval
  obtain ⟨v0, vs0, d0, ds0, p0, q0, hargs, rfl, rfl, h0, r0'⟩ := trodAll_cons hA
  obtain ⟨v1, vs1, d1, ds1, p1, q1, rfl, rfl, rfl, h1, r1'⟩ := trodAll_cons r0'
  obtain ⟨v2, vs2, d2, ds2, p2, q2, rfl, rfl, rfl, h2, r2'⟩ := trodAll_cons r1'
  obtain ⟨v3, vs3, d3, ds3, p3, q3, rfl, rfl, rfl, h3, r3'⟩ := trodAll_cons r2'
  obtain ⟨rfl, rfl, rfl⟩ := trodAll_nil r3'
  obtain rfl : args = #[v0, v1, v2, v3] := by cases args; simp_all
  obtain ⟨rfl, rfl⟩ := trodVars_none hV
  obtain ⟨x0, rfl, rfl, rfl, w0⟩ := open_int Try.underlying2 (hval 0 2 v0 rfl rfl) h0
  obtain ⟨x1, rfl, rfl, rfl, w1⟩ := open_int Try.underlying2 (hval 1 2 v1 rfl rfl) h1
  obtain ⟨x2, rfl, rfl, rfl, w2⟩ := open_int Try.underlying2 (hval 2 2 v2 rfl rfl) h2
  obtain ⟨x3, rfl, rfl, rfl, w3⟩ := open_int Try.underlying2 (hval 3 2 v3 rfl rfl) h3
  clear hA0 hval0
  refine (walk x0 x1 x2 x3 W w0 w1 w2 w3).mono fun e W' ⟨he, bel⟩ => ?_
  subst he
  exact ⟨_, rfl, _, _, _, [], _, [], hW', trodAll_mk1 (shut_bool Try.underlying4 _), (trodAll_cons_mk (shut_int Try.underlying2 w0) (trodAll_cons_mk (shut_int Try.underlying2 w1) (trodAll_cons_mk (shut_int Try.underlying2 w2) (trodAll_cons_mk (shut_int Try.underlying2 w3) trodAll_mk0)))), rfl, bel.frame _, fun h => by cases h⟩

theorem over : Rows.leaseWaitsRow.holds Try.pinned (OpenSpec.ofChange Rows.leaseWaitsSpec) :=
  OpenClaim.holds_of_wide 4 Try.f4 rfl rfl rfl rfl rfl rfl rfl ⟨rfl, rfl, rfl, rfl, rfl⟩ rfl rfl rfl rfl rfl (by kernel_rfl) Try.func4 (by kernel_rfl)
    (of_decide_eq_true (by kernel_rfl)) (by unfold Func.isWrapper; first | (rw [if_pos (by decide +kernel)]; kernel_rfl) | (rw [if_neg (by decide +kernel)]; exact ⟨rfl, rfl⟩))
    (fun os started H enc _ => lifted os started H enc)

/-- the statement -/
theorem proved : Rows.LeaseWaitsSaid := over
#print axioms proved
end Go.Proofs.Ytlicofdklfbkoaa.leaseWaits
