/-
  The document's own Next.
-/
import Derived.Test.YtcnmkojlledipaaMrOpen
namespace Go.Proofs.Ytcnmkojlledipaa.Mr
open Go.RowKit
set_option linter.unusedVariables false
set_option linter.unusedSimpArgs false
set_option maxRecDepth 20000

theorem rnext_any (w : World) (le ls e s : Int) (hls : In64 ls) (hs : In64 s) :
    Calls Try.prog 23 #[.agg #[.int .i64 le, .int .i64 ls], .int .i64 e, .int .i64 s] w fun x w' => x = .returned (.int .i64 (next le ls e s)) ∧ Below w.heap.size w w' := by
  have HB := Lib.hid ((Below.refl w.heap.size w).alloc (Nat.le_refl _) (.cells #[.int .i64 le, .int .i64 ls] 44))
  obtain ⟨l1, l2⟩ := hls
  obtain ⟨s1, s2⟩ := hs
  by_cases he : e = le
  · subst he
    by_cases h1 : s ≤ ls
    · rw [next_had ⟨rfl, h1⟩]
      go_enter Try.func23, Try.ntmps23
      go_wp2
      go_ret
      exact ⟨rfl, HB.out⟩
    · have h1' : decide (s ≤ ls) = false := by simpa using h1
      by_cases h2 : s = ls + 1
      · rw [next_take (fun h => h1 h.2) (.inl ⟨rfl, h2⟩)]
        have hw : IntKind.i64.wrap (s - ls) = 1 := by rw [h2, show ls + 1 - ls = 1 by omega]; decide
        clear h2 h1
        go_enter Try.func23, Try.ntmps23
        go_wp2
        go_ret
        exact ⟨rfl, HB.out⟩
      · rw [next_no (fun h => h1 h.2) (by omega)]
        obtain ⟨z, hz⟩ : ∃ z, IntKind.i64.wrap (s - ls) = z := ⟨_, rfl⟩
        have hz1 : (z == 1) = false := by
          rw [beq_eq_false_iff_ne]
          rintro rfl
          simp [IntKind.wrap, IntKind.bits, IntKind.signed] at hz
          omega
        have h3 : decide (e < e) = false := by simp
        clear h2 h1
        go_enter Try.func23, Try.ntmps23
        go_wp2
        go_ret
        exact ⟨rfl, HB.out⟩
  · have he' : (e == le) = false := by simpa using he
    by_cases h1 : le < e
    · by_cases h2 : s = 1
      · rw [next_take (fun h => he h.1) (.inr ⟨h1, h2⟩)]
        subst h2
        clear he
        go_enter Try.func23, Try.ntmps23
        go_wp2
        go_ret
        exact ⟨rfl, HB.out⟩
      · rw [next_no (fun h => he h.1) (by omega)]
        have h2' : (s == 1) = false := by simpa using h2
        clear he h2
        go_enter Try.func23, Try.ntmps23
        go_wp2
        go_ret
        exact ⟨rfl, HB.out⟩
    · rw [next_no (fun h => he h.1) (by omega)]
      have h1' : decide (le < e) = false := by simpa using h1
      clear he h1
      go_enter Try.func23, Try.ntmps23
      go_wp2
      go_ret
      exact ⟨rfl, HB.out⟩
end Go.Proofs.Ytcnmkojlledipaa.Mr
