/-
  What the three tests on runes answer. CONDITIONS: the rune is one that a text can have.
-/
import Derived.Test.YtaldkdiijflmdaaDoorMem
import Derived.Test.YtaldkdiijflmdaaDoorQuot
import Derived.Test.YtaldkdiijflmdaaDoorChecked
namespace Go.Proofs.YtaldkdiijflmdaaDoor
open Go.RowKit
set_option linter.unusedVariables false
set_option linter.unusedSimpArgs false
set_option maxRecDepth 20000

theorem int_ne {r k : Nat} (h : r ≠ k) : ((r : Int) != (k : Int)) = true := by simp [bne]; omega
theorem int_neq {r k : Nat} (h : r ≠ k) : ((r : Int) == (k : Int)) = false := by simp; omega

theorem ret_bool {a b : Bool} (h : a = b) : Ending.returned (.bool a) = .returned (.bool b) := by rw [h]

theorem shown_any (r : Nat) (w : World) : Calls Tryd.prog 17 #[.int .i32 (r : Int)] w fun e w' => e = .returned (.bool (M.shownB r)) ∧ w = w' := by
  by_cases h1 : 32 ≤ r
  · by_cases h2 : r = 127
    · subst h2
      go_enter Tryd.func17, Tryd.ntmps17
      go_wp2
      go_ret
      exact ⟨rfl, rfl⟩
    · by_cases h3 : r = 65533
      · subst h3
        go_enter Tryd.func17, Tryd.ntmps17
        go_wp2
        go_ret
        exact ⟨rfl, rfl⟩
      · have e : M.shownB r = true := by simp [M.shownB]; omega
        have a1 : (32 : Int) ≤ (r : Int) := by omega
        have d1 : ((r : Int) != 127) = true := int_ne h2
        have d2 : ((r : Int) != 65533) = true := int_ne h3
        have E := Lib.hid e
        clear e h1 h2 h3
        go_enter Tryd.func17, Tryd.ntmps17
        go_wp2
        go_ret
        exact ⟨ret_bool E.out.symm, rfl⟩
  · have e : M.shownB r = false := by simp [M.shownB]; omega
    have a1 : ¬ ((32 : Int) ≤ (r : Int)) := by omega
    have E := Lib.hid e
    clear e h1
    go_enter Tryd.func17, Tryd.ntmps17
    go_wp2
    go_ret
    exact ⟨ret_bool E.out.symm, rfl⟩

theorem blank_any (r : Nat) (w : World) : Calls Tryd.prog 33 #[.int .i32 (r : Int)] w fun e w' => e = .returned (.bool (M.blankB r)) ∧ w = w' := by
  by_cases h1 : r = 32
  · subst h1
    go_enter Tryd.func33, Tryd.ntmps33
    go_wp2
    go_ret
    exact ⟨rfl, rfl⟩
  · by_cases h2 : r = 9
    · subst h2
      go_enter Tryd.func33, Tryd.ntmps33
      go_wp2
      go_ret
      exact ⟨rfl, rfl⟩
    · have e : M.blankB r = false := by simp [M.blankB]; omega
      have d1 : ((r : Int) == 32) = false := int_neq h1
      have d2 : ((r : Int) == 9) = false := int_neq h2
      have E := Lib.hid e
      clear e h1 h2
      go_enter Tryd.func33, Tryd.ntmps33
      go_wp2
      go_ret
      exact ⟨ret_bool E.out.symm, rfl⟩

theorem shown_yes (r : Nat) (w : World) (h : M.shownB r = true) : Calls Tryd.prog 17 #[.int .i32 (r : Int)] w fun e w' => e = .returned (.bool true) ∧ w = w' := h ▸ shown_any r w
theorem shown_no (r : Nat) (w : World) (h : M.shownB r = false) : Calls Tryd.prog 17 #[.int .i32 (r : Int)] w fun e w' => e = .returned (.bool false) ∧ w = w' := h ▸ shown_any r w
theorem blank_yes (r : Nat) (w : World) (h : M.blankB r = true) : Calls Tryd.prog 33 #[.int .i32 (r : Int)] w fun e w' => e = .returned (.bool true) ∧ w = w' := h ▸ blank_any r w
theorem blank_no (r : Nat) (w : World) (h : M.blankB r = false) : Calls Tryd.prog 33 #[.int .i32 (r : Int)] w fun e w' => e = .returned (.bool false) ∧ w = w' := h ▸ blank_any r w

theorem plain_any (r : Nat) (w : World) : Calls Tryd.prog 22 #[.int .i32 (r : Int)] w fun e w' => e = .returned (.bool (M.plainB r)) ∧ w = w' := by
  cases hs : M.shownB r with
  | false =>
    have e : M.plainB r = false := by simp [M.plainB, M.shownB] at hs ⊢; omega
    have C := Lib.hid (shown_no r w hs)
    have E := Lib.hid e
    clear e hs
    go_enter Tryd.func22, Tryd.ntmps22
    go_wp2_with (go_at_call 17; refine C.out.mono ?_; rintro e w' ⟨rfl, rfl⟩)
    go_ret
    exact ⟨ret_bool E.out.symm, rfl⟩
  | true =>
    have C := Lib.hid (shown_yes r w hs)
    cases hb : M.blankB r with
    | true =>
      have e : M.plainB r = false := by simp [M.plainB, M.blankB] at hb ⊢; omega
      have D := Lib.hid (blank_yes r w hb)
      have E := Lib.hid e
      clear e hs hb
      go_enter Tryd.func22, Tryd.ntmps22
      go_wp2_with (first | (go_at_call 17; refine C.out.mono ?_; rintro e w' ⟨rfl, rfl⟩) | (go_at_call 33; refine D.out.mono ?_; rintro e w' ⟨rfl, rfl⟩))
      go_ret
      exact ⟨ret_bool E.out.symm, rfl⟩
    | false =>
      have D := Lib.hid (blank_no r w hb)
      by_cases h1 : r = 34
      · subst h1
        clear hs hb
        go_enter Tryd.func22, Tryd.ntmps22
        go_wp2_with (first | (go_at_call 17; refine C.out.mono ?_; rintro e w' ⟨rfl, rfl⟩) | (go_at_call 33; refine D.out.mono ?_; rintro e w' ⟨rfl, rfl⟩))
        go_ret
        exact ⟨rfl, rfl⟩
      · by_cases h2 : r = 35
        · subst h2
          clear hs hb
          go_enter Tryd.func22, Tryd.ntmps22
          go_wp2_with (first | (go_at_call 17; refine C.out.mono ?_; rintro e w' ⟨rfl, rfl⟩) | (go_at_call 33; refine D.out.mono ?_; rintro e w' ⟨rfl, rfl⟩))
          go_ret
          exact ⟨rfl, rfl⟩
        · have e : M.plainB r = true := by simp [M.plainB, M.blankB, M.shownB] at hs hb ⊢; omega
          have d1 : ((r : Int) != 34) = true := int_ne h1
          have d2 : ((r : Int) != 35) = true := int_ne h2
          have E := Lib.hid e
          clear e hs hb h1 h2
          go_enter Tryd.func22, Tryd.ntmps22
          go_wp2_with (first | (go_at_call 17; refine C.out.mono ?_; rintro e w' ⟨rfl, rfl⟩) | (go_at_call 33; refine D.out.mono ?_; rintro e w' ⟨rfl, rfl⟩))
          go_ret
          exact ⟨ret_bool E.out.symm, rfl⟩

theorem plain_yes (r : Nat) (w : World) (h : M.plainB r = true) : Calls Tryd.prog 22 #[.int .i32 (r : Int)] w fun e w' => e = .returned (.bool true) ∧ w = w' := h ▸ plain_any r w
theorem plain_no (r : Nat) (w : World) (h : M.plainB r = false) : Calls Tryd.prog 22 #[.int .i32 (r : Int)] w fun e w' => e = .returned (.bool false) ∧ w = w' := h ▸ plain_any r w
end Go.Proofs.YtaldkdiijflmdaaDoor
