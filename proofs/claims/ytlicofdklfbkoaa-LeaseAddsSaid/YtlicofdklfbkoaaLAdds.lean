/-
  PROVED: waiting for two lots together takes no longer than for one behind the other, and at most one tick less. CONDITIONS: none (any numbers).
-/
import Derived.Test.YtlicofdklfbkoaaLeOpen
namespace Go.Proofs.Ytlicofdklfbkoaa.leaseAdds
open Go.ChangeShapes Go.WideShapes Go.ChangeAt Go.RowKit Go.Joins
open Go.ChangeMaps (open_string shut_string)
set_option linter.unusedVariables false
set_option linter.unusedSimpArgs false
set_option maxRecDepth 20000

open Le

set_option maxHeartbeats 4000000 in
theorem walk (x0 : Int) (x1 : Int) (x2 : Int) (w : World) (w0 : (Lit.int .i64 x0).wf = true) (w1 : (Lit.int .i64 x1).wf = true) (w2 : (Lit.int .i64 x2).wf = true) :
    Calls Try.prog 7 #[.int .i64 x0, .int .i64 x1, .int .i64 x2] w fun e w' => e = .returned (.bool true) ∧ Below w.heap.size w w' := by
  have HA := Lib.hid (fun w' => awake_any w')
  have HW1 := Lib.hid (fun w' => wait_any x0 x2 w')
  have HW2 := Lib.hid (fun w' => wait_any x1 x2 w')
  by_cases hk : waitOk x0 x2 = true
  · obtain ⟨k1, k2, k3, k4⟩ := waitOk_iff.1 hk
    rw [show waitV x0 x2 = wq x0 x2 + 1 by unfold waitV; rw [if_pos hk], show waitE x0 x2 = 0 by unfold waitE; rw [if_pos hk]] at HW1
    by_cases hm : waitOk x1 x2 = true
    · obtain ⟨m1, m2, m3, m4⟩ := waitOk_iff.1 hm
      rw [show waitV x1 x2 = wq x1 x2 + 1 by unfold waitV; rw [if_pos hm], show waitE x1 x2 = 0 by unfold waitE; rw [if_pos hm]] at HW2
      have f2 := wq_max k1 k2 k3 k4
      have f3 := wq_max m1 m2 m3 m4
      have f4 := wq_nonneg k1 k3 k4
      have f5 := wq_nonneg m1 m3 m4
      by_cases hs : 1099511627776 < x0 + x1
      · have g1 : decide (1099511627776 < x0 + x1) = true := by simpa using hs
        generalize wq x0 x2 = A at *
        generalize wq x1 x2 = B at *
        clear hk hm
        go_enter Try.func7, Try.ntmps7
        go_wp2_with (first
          | (go_at_call 9; with_reducible refine (HA.out _).mono ?_; rintro e w1 ⟨rfl, hb1⟩
             have HB := Lib.hid hb1
             clear hb1)
          | (go_at_call 11; with_reducible refine (HW1.out _).mono ?_; rintro e w2 ⟨rfl, rfl⟩)
          | (go_at_call 11; with_reducible refine (HW2.out _).mono ?_; rintro e w3 ⟨rfl, rfl⟩))
        go_ret
        exact ⟨rfl, HB.out⟩
      · have g1 : decide (1099511627776 < x0 + x1) = false := by simpa using hs
        have hj : waitOk (x0 + x1) x2 = true := waitOk_iff.2 ⟨by omega, by omega, k3, k4⟩
        have HW3 := Lib.hid (fun w' => wait_any (x0 + x1) x2 w')
        rw [show waitV (x0 + x1) x2 = wq (x0 + x1) x2 + 1 by unfold waitV; rw [if_pos hj], show waitE (x0 + x1) x2 = 0 by unfold waitE; rw [if_pos hj]] at HW3
        obtain ⟨a1, a2⟩ := wq_add k1 m1 k3 k4
        generalize wq x0 x2 = A at *
        generalize wq x1 x2 = B at *
        generalize wq (x0 + x1) x2 = C at *
        have g2 : decide (C + 1 ≤ A + 1 + (B + 1)) = true := by simp; omega
        have g3 : decide (A + 1 + (B + 1) - 1 ≤ C + 1) = true := by simp; omega
        clear hk hm hj
        go_enter Try.func7, Try.ntmps7
        go_wp2_with (first
          | (go_at_call 9; with_reducible refine (HA.out _).mono ?_; rintro e w1 ⟨rfl, hb1⟩
             have HB := Lib.hid hb1
             clear hb1)
          | (go_at_call 11; with_reducible refine (HW1.out _).mono ?_; rintro e w2 ⟨rfl, rfl⟩)
          | (go_at_call 11; with_reducible refine (HW2.out _).mono ?_; rintro e w3 ⟨rfl, rfl⟩)
          | (go_at_call 11; with_reducible refine (HW3.out _).mono ?_; rintro e w4 ⟨rfl, rfl⟩))
        go_ret
        exact ⟨rfl, HB.out⟩
    · rw [show waitV x1 x2 = 0 by unfold waitV; rw [if_neg hm], show waitE x1 x2 = 1 by unfold waitE; rw [if_neg hm]] at HW2
      generalize wq x0 x2 = A at *
      clear hk hm
      go_enter Try.func7, Try.ntmps7
      go_wp2_with (first
        | (go_at_call 9; with_reducible refine (HA.out _).mono ?_; rintro e w1 ⟨rfl, hb1⟩
           have HB := Lib.hid hb1
           clear hb1)
        | (go_at_call 11; with_reducible refine (HW1.out _).mono ?_; rintro e w2 ⟨rfl, rfl⟩)
        | (go_at_call 11; with_reducible refine (HW2.out _).mono ?_; rintro e w3 ⟨rfl, rfl⟩))
      go_ret
      exact ⟨rfl, HB.out⟩
  · rw [show waitV x0 x2 = 0 by unfold waitV; rw [if_neg hk], show waitE x0 x2 = 1 by unfold waitE; rw [if_neg hk]] at HW1
    generalize waitV x1 x2 = B at *
    generalize waitE x1 x2 = E at *
    clear hk
    go_enter Try.func7, Try.ntmps7
    go_wp2_with (first
      | (go_at_call 9; with_reducible refine (HA.out _).mono ?_; rintro e w1 ⟨rfl, hb1⟩
         have HB := Lib.hid hb1
         clear hb1)
      | (go_at_call 11; with_reducible refine (HW1.out _).mono ?_; rintro e w2 ⟨rfl, rfl⟩)
      | (go_at_call 11; with_reducible refine (HW2.out _).mono ?_; rintro e w3 ⟨rfl, rfl⟩))
    go_ret
    exact ⟨rfl, HB.out⟩

set_option maxRecDepth 100000 in
theorem lifted (os : Os) (started : os.Started) (H : Type) (enc : TypeId × Value → H) :
    ReturnsInHanded {} Try.checked os 7 .any (Rows.leaseAddsSpec.pre6 enc Try.prog Try.f7 Rows.leaseAddsRow.domain false) (Rows.leaseAddsSpec.post enc Try.prog Try.f7 false true false false) := by
  refine returnsInHanded_of_change (C := Try.checked) Le.own started (by kernel_rfl) Try.func7
    (ChangeSpec.witness6 (enc := enc) (C := Try.checked) false ⟨#[], #[.int .i64 0, .int .i64 0, .int .i64 0], []⟩ 8 (by kernel_rfl) (by kernel_rfl) (by kernel_rfl) (by kernel_rfl)) ?_
  intro W base args ds gs before hval0 hW hcnd _
  have hval : ∀ (j : Nat) t v, Try.f7.params[j]? = some t → args[j]? = some v → Value.okWide Try.prog W .any base t v := hval0
  have hW' := hW
  obtain ⟨p, q, hA0, hV, rfl, hfz, hnd⟩ := hW
  have hA : DataW.TrodAll enc Try.prog W 0 (fun _ => true) true Try.f7.params.toList args.toList ds p := hA0
  rw [Try.params7] at hA hval
  obtain ⟨v0, vs0, d0, ds0, p0, q0, hargs, rfl, rfl, h0, r0'⟩ := trodAll_cons hA
  obtain ⟨v1, vs1, d1, ds1, p1, q1, rfl, rfl, rfl, h1, r1'⟩ := trodAll_cons r0'
  obtain ⟨v2, vs2, d2, ds2, p2, q2, rfl, rfl, rfl, h2, r2'⟩ := trodAll_cons r1'
  obtain ⟨rfl, rfl, rfl⟩ := trodAll_nil r2'
  obtain rfl : args = #[v0, v1, v2] := by cases args; simp_all
  obtain ⟨rfl, rfl⟩ := trodVars_none hV
  obtain ⟨x0, rfl, rfl, rfl, w0⟩ := open_int Try.underlying2 (hval 0 2 v0 rfl rfl) h0
  obtain ⟨x1, rfl, rfl, rfl, w1⟩ := open_int Try.underlying2 (hval 1 2 v1 rfl rfl) h1
  obtain ⟨x2, rfl, rfl, rfl, w2⟩ := open_int Try.underlying2 (hval 2 2 v2 rfl rfl) h2
  clear hA0 hval0
  refine (walk x0 x1 x2 W w0 w1 w2).mono fun e W' ⟨he, bel⟩ => ?_
  subst he
  exact ⟨_, rfl, _, _, _, [], _, [], hW', trodAll_mk1 (shut_bool Try.underlying4 _), (trodAll_cons_mk (shut_int Try.underlying2 w0) (trodAll_cons_mk (shut_int Try.underlying2 w1) (trodAll_cons_mk (shut_int Try.underlying2 w2) trodAll_mk0))), rfl, bel.frame _, fun h => by cases h⟩

theorem over : Rows.leaseAddsRow.holds Try.pinned (OpenSpec.ofChange Rows.leaseAddsSpec) :=
  OpenClaim.holds_of_wide 7 Try.f7 rfl rfl rfl rfl rfl rfl rfl ⟨rfl, rfl, rfl, rfl, rfl⟩ rfl rfl rfl rfl rfl (by kernel_rfl) Try.func7 (by kernel_rfl)
    (of_decide_eq_true (by kernel_rfl)) (by unfold Func.isWrapper; first | (rw [if_pos (by decide +kernel)]; kernel_rfl) | (rw [if_neg (by decide +kernel)]; exact ⟨rfl, rfl⟩))
    (fun os started H enc _ => lifted os started H enc)

/-- the statement -/
theorem proved : Rows.LeaseAddsSaid := over
#print axioms proved
end Go.Proofs.Ytlicofdklfbkoaa.leaseAdds
