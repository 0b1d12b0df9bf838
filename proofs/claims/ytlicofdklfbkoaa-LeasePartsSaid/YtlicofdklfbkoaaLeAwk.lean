/-
  The calls whose answers the document fixes.
-/
import Derived.Test.YtlicofdklfbkoaaLeTime
namespace Go.Proofs.Ytlicofdklfbkoaa.Le
open Go.RowKit
set_option linter.unusedVariables false
set_option linter.unusedSimpArgs false
set_option maxRecDepth 20000

theorem lit_row (w : World) (x y z : Bool) : Row (w.alloc (.cells #[.bool x, .bool y, .bool z] 4)) (some ⟨w.heap.size, 0, none⟩) 3 3 (bits [x, y, z]) :=
  (own_row (own_lit 4 w w.heap.size (bits [x, y, z]) (Nat.le_refl _) (by simp [bits]))).1
theorem lit_tog (w : World) (x y z : Bool) (b : Bool) (h : tog [x, y, z] 0 = b) : Calls Try.prog 12 #[.slice (some ⟨w.heap.size, 0, none⟩) 3 3, .int .i64 0] (w.alloc (.cells #[.bool x, .bool y, .bool z] 4)) fun e w' => e = .returned (.bool b) ∧ Below w.heap.size w w' := by
  refine (tog_any (lit_row w x y z) (by omega) 0).mono ?_
  rintro e w' ⟨rfl, hb⟩
  exact ⟨by rw [h], (bel1 w _).trans (hb.mono (by simp))⟩

set_option maxHeartbeats 4000000 in
theorem awake_any (w : World) : Calls Try.prog 9 #[] w fun e w' => e = .returned (.bool true) ∧ Below w.heap.size w w' := by
  have hW1 := wait_any 10 100
  have hW2 := wait_any 10 1000
  rw [show waitV 10 100 = 13 by decide +kernel, show waitE 10 100 = 0 by decide +kernel] at hW1
  rw [show waitV 10 1000 = 0 by decide +kernel, show waitE 10 1000 = 1 by decide +kernel] at hW2
  have HW1 := Lib.hid hW1
  have HW2 := Lib.hid hW2
  have HS := Lib.hid (set_any (TAt.new w 0) 2)
  rw [show left 2 = 2 by decide +kernel] at HS
  have HT : Hid (∀ w', TAt w' w.heap.size 2 → Calls Try.prog 16 #[.pointer (some ⟨w.heap.size, 0, none⟩)] w' fun e w'' => e = .returned (.tuple #[]) ∧ TAt w'' w.heap.size 1 ∧ Below w.heap.size w' w'') := Lib.hid fun w' h => by
    have := tick_any h (by omega) (by omega)
    rw [show left (2 - 1) = 1 by decide +kernel] at this
    refine this.mono ?_
    rintro e w'' ⟨rfl, h1, h2⟩
    refine ⟨rfl, h1, ?_⟩
    rcases h2 with rfl | rfl
    · exact Below.refl _ _
    · exact (Below.refl w.heap.size w').setCell (p := ⟨w.heap.size, 0, none⟩) (Nat.le_refl _) _
  have HL : Hid (∀ w', TAt w' w.heap.size 1 → Calls Try.prog 14 #[.pointer (some ⟨w.heap.size, 0, none⟩)] w' fun e w'' => e = .returned (.int .i64 1) ∧ w' = w'') := Lib.hid fun w' h => left_any h
  have HO : Hid (∀ w', TAt w' w.heap.size 1 → Calls Try.prog 13 #[.pointer (some ⟨w.heap.size, 0, none⟩)] w' fun e w'' => e = .returned (.bool true) ∧ w' = w'') := Lib.hid fun w' h => on_any h
  have HG1 := Lib.hid (fun w' => lit_tog w' true false true true (by decide +kernel))
  have HG2 := Lib.hid (fun w' => lit_tog w' true true true false (by decide +kernel))
  clear hW1 hW2
  go_enter Try.func9, Try.ntmps9
  go_wp2_with (first
    | (go_at_call 11; with_reducible refine (HW1.out _).mono ?_; rintro e w1 ⟨rfl, rfl⟩)
    | (go_at_call 11; with_reducible refine (HW2.out _).mono ?_; rintro e w2 ⟨rfl, rfl⟩)
    | (go_at_call 15; with_reducible refine HS.out.mono ?_; rintro e w3 ⟨rfl, h3, e3⟩
       have K3 := Lib.hid h3
       have B3 : Hid (Below w.heap.size w w3) := Lib.hid (by rw [e3]; exact (bel1 w _).setCell (Nat.le_refl _) _)
       clear h3 e3)
    | (go_at_call 16; with_reducible refine (HT.out _ K3.out).mono ?_; rintro e w4 ⟨rfl, h4, b4⟩
       have K4 := Lib.hid h4
       have B4 := Lib.hid (B3.out.trans b4)
       clear h4 b4)
    | (go_at_call 14; with_reducible refine (HL.out _ K4.out).mono ?_; rintro e w5 ⟨rfl, rfl⟩)
    | (go_at_call 13; with_reducible refine (HO.out _ K4.out).mono ?_; rintro e w6 ⟨rfl, rfl⟩)
    | (go_at_call 12; with_reducible refine (HG1.out _).mono ?_; rintro e w7 ⟨rfl, b7⟩
       have B7 := Lib.hid (B4.out.trans (Below.mono b7 B4.out.size))
       clear b7)
    | (go_at_call 12; with_reducible refine (HG2.out _).mono ?_; rintro e w8 ⟨rfl, b8⟩
       have B8 := Lib.hid (B7.out.trans (Below.mono b8 B7.out.size))
       clear b8))
  go_ret
  exact ⟨rfl, B8.out⟩
end Go.Proofs.Ytlicofdklfbkoaa.Le
