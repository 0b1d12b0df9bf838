/-
  What isDrift and Wait answer; how far one clock comes ahead.
-/
import Derived.Test.YtlicofdklfbkoaaLeMem
namespace Go.Proofs.Ytlicofdklfbkoaa.Le
open Go.RowKit
set_option linter.unusedVariables false
set_option linter.unusedSimpArgs false
set_option maxRecDepth 20000

theorem drift_any (d : Int) (w : World) : Calls Try.prog 17 #[.int .i64 d] w fun e w' => e = .returned (.bool (isD d)) ∧ w = w' := by
  by_cases h1 : 0 ≤ d
  · go_enter Try.func17, Try.ntmps17
    go_wp2
    go_ret
    exact ⟨by simp [isD, h1], rfl⟩
  · go_enter Try.func17, Try.ntmps17
    go_wp2
    go_ret
    exact ⟨by have : decide (0 ≤ d) = false := by simp; omega
              simp [isD, this], rfl⟩

theorem wait_any (n d : Int) (w : World) : Calls Try.prog 11 #[.int .i64 n, .int .i64 d] w fun e w' => e = .returned (.tuple #[.int .i64 (waitV n d), .int .i64 (waitE n d)]) ∧ w = w' := by
  have HD := Lib.hid (fun w' => drift_any d w')
  by_cases hok : waitOk n d = true
  · obtain ⟨h1, h2, h3, h4⟩ := waitOk_iff.1 hok
    have hD : isD d = true := isD_iff.2 ⟨h3, h4⟩
    rw [hD] at HD
    obtain ⟨p1, p2⟩ := prod_le h1 h2 h3 h4
    have q1 := wq_nonneg h1 h3 h4
    have q2 := wq_max h1 h2 h3 h4
    unfold wq at q1 q2
    have hnz : ¬ 1000 - d = 0 := by omega
    have n1 : ¬ n < 0 := by omega
    have n2 : decide (1099511627776 < n) = false := by simp; omega
    have Hv : Hid (waitV n d = (n * (1000 + d)).tdiv (1000 - d) + 1) := Lib.hid (by unfold waitV wq; rw [if_pos hok])
    have He : Hid (waitE n d = 0) := Lib.hid (by unfold waitE; rw [if_pos hok])
    clear hok hD
    go_enter Try.func11, Try.ntmps11
    go_wp2_with (go_at_call 17; with_reducible refine (HD.out _).mono ?_; rintro e w1 ⟨rfl, rfl⟩)
    rw [Hv.out, He.out]
    exact bodyPost_ret (v := .tuple #[.int .i64 ((n * (1000 + d)).tdiv (1000 - d) + 1), .int .i64 0]) (by simp [results, Try.results11, go_sem]) rfl ⟨rfl, rfl⟩
  · have Hv : Hid (waitV n d = 0) := Lib.hid (by unfold waitV; rw [if_neg hok])
    have He : Hid (waitE n d = 1) := Lib.hid (by unfold waitE; rw [if_neg hok])
    rw [waitOk_iff] at hok
    by_cases h1 : n < 0
    · clear hok
      go_enter Try.func11, Try.ntmps11
      go_wp2_with (go_at_call 17; with_reducible refine (HD.out _).mono ?_; rintro e w1 ⟨rfl, rfl⟩)
      rw [Hv.out, He.out]
      exact bodyPost_ret (v := .tuple #[.int .i64 0, .int .i64 1]) (by simp [results, Try.results11, go_sem]) rfl ⟨rfl, rfl⟩
    · by_cases h2 : 1099511627776 < n
      · clear hok
        go_enter Try.func11, Try.ntmps11
        go_wp2_with (go_at_call 17; with_reducible refine (HD.out _).mono ?_; rintro e w1 ⟨rfl, rfl⟩)
        rw [Hv.out, He.out]
        exact bodyPost_ret (v := .tuple #[.int .i64 0, .int .i64 1]) (by simp [results, Try.results11, go_sem]) rfl ⟨rfl, rfl⟩
      · have hD : isD d = false := by
          cases h : isD d
          · rfl
          · exact absurd ⟨by omega, by omega, (isD_iff.1 h).1, (isD_iff.1 h).2⟩ hok
        rw [hD] at HD
        have n2 : decide (1099511627776 < n) = false := by simp; omega
        clear hok hD
        go_enter Try.func11, Try.ntmps11
        go_wp2_with (go_at_call 17; with_reducible refine (HD.out _).mono ?_; rintro e w1 ⟨rfl, rfl⟩)
        rw [Hv.out, He.out]
        exact bodyPost_ret (v := .tuple #[.int .i64 0, .int .i64 1]) (by simp [results, Try.results11, go_sem]) rfl ⟨rfl, rfl⟩
end Go.Proofs.Ytlicofdklfbkoaa.Le
