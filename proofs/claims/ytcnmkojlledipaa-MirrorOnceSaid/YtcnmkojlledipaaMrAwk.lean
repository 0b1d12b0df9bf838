/-
  The calls whose answers the document fixes.
-/
import Derived.Test.YtcnmkojlledipaaMrRun
namespace Go.Proofs.Ytcnmkojlledipaa.Mr
open Go.RowKit
set_option linter.unusedVariables false
set_option linter.unusedSimpArgs false
set_option maxRecDepth 20000
def A1 : It := ⟨0, 2, ⟨#[]⟩, 0, 0⟩
def B1 : It := ⟨0, 3, ⟨#[]⟩, 0, 0⟩
def A5 : It := ⟨5, 2, ⟨#[]⟩, 0, 0⟩
def B6 : It := ⟨6, 3, ⟨#[]⟩, 0, 0⟩

set_option maxHeartbeats 4000000 in
theorem awake_any (w : World) : Calls Try.prog 9 #[] w fun e w' => e = .returned (.bool true) ∧ Below w.heap.size w w' := by
  have HN := Lib.hid (new_run w w 4 (Below.refl _ _))
  have HS1 : Hid (∀ w' p, Rx w w' p 4 [] → Calls Try.prog 12 #[.pointer (some ⟨p, 0, none⟩), .agg #[.int .i64 0, .int .i64 2, .string ⟨#[]⟩, .int .i64 0, .int .i64 0]] w' fun e w'' => e = .returned (.tuple #[.int .i64 5, .int .i64 0]) ∧ Rx w w'' p 4 [A5]) := Lib.hid fun w' p h => h.add A1 (by simp)
  have HS2 : Hid (∀ w' p, Rx w w' p 4 [A5] → Calls Try.prog 12 #[.pointer (some ⟨p, 0, none⟩), .agg #[.int .i64 0, .int .i64 3, .string ⟨#[]⟩, .int .i64 0, .int .i64 0]] w' fun e w'' => e = .returned (.tuple #[.int .i64 6, .int .i64 0]) ∧ Rx w w'' p 4 [A5, B6]) := Lib.hid fun w' p h => h.add B1 (by simp)
  have HK1 : Hid (∀ w' p, Rx w w' p 4 [A5, B6] → Calls Try.prog 14 #[.pointer (some ⟨p, 0, none⟩), .int .i64 7] w' fun e w'' => e = .returned (.bool false) ∧ Rx w w'' p 4 [A5, B6]) := Lib.hid fun w' p h => h.ack 7
  have HK2 : Hid (∀ w' p, Rx w w' p 4 [A5, B6] → Calls Try.prog 14 #[.pointer (some ⟨p, 0, none⟩), .int .i64 5] w' fun e w'' => e = .returned (.bool true) ∧ Rx w w'' p 5 [B6]) := Lib.hid fun w' p h => h.ack 5
  have HL : Hid (∀ w' p, Rx w w' p 5 [B6] → Calls Try.prog 16 #[.pointer (some ⟨p, 0, none⟩)] w' fun e w'' => ∃ a' cap', e = .returned (.slice a' 1 cap') ∧ Rx w w'' p 5 [B6] ∧ OwnI w'' a' cap' [B6] ∧ Fresh w'.heap.size a' ∧ Below w'.heap.size w' w'') := Lib.hid fun w' p h => h.left (by simp)
  have HLa : Hid (∀ w' p, Rx w w' p 5 [B6] → Calls Try.prog 19 #[.pointer (some ⟨p, 0, none⟩)] w' fun e w'' => e = .returned (.int .i64 6) ∧ ∃ q, w'' = w'.drewN q) := Lib.hid fun w' p h => h.last
  have HAc : Hid (∀ w' p, Rx w w' p 5 [B6] → Calls Try.prog 21 #[.pointer (some ⟨p, 0, none⟩)] w' fun e w'' => e = .returned (.int .i64 5) ∧ w' = w'') := Lib.hid fun w' p h => h.acked
  have HX1 : Hid (∀ w', Calls Try.prog 22 #[.agg #[.int .i64 2, .int .i64 5], .int .i64 2, .int .i64 5] w' fun e w'' => e = .returned (.int .i64 2) ∧ Below w'.heap.size w' w'') := Lib.hid fun w' => next_any w' 2 5 2 5 (by decide) (by decide)
  have HX2 : Hid (∀ w', Calls Try.prog 22 #[.agg #[.int .i64 2, .int .i64 5], .int .i64 2, .int .i64 6] w' fun e w'' => e = .returned (.int .i64 1) ∧ Below w'.heap.size w' w'') := Lib.hid fun w' => next_any w' 2 5 2 6 (by decide) (by decide)
  have HX3 : Hid (∀ w', Calls Try.prog 22 #[.agg #[.int .i64 2, .int .i64 5], .int .i64 3, .int .i64 2] w' fun e w'' => e = .returned (.int .i64 0) ∧ Below w'.heap.size w' w'') := Lib.hid fun w' => next_any w' 2 5 3 2 (by decide) (by decide)
  go_enter Try.func9, Try.ntmps9
  go_wp2_with (first
    | (go_at_call 10; with_reducible refine HN.out.mono ?_; rintro e w1 ⟨rfl, h1, _⟩
       have H := Lib.hid (show Rx w w1 w.heap.size 4 [] from ⟨_, h1⟩)
       clear h1)
    | (go_at_call 12; with_reducible refine (HS1.out _ _ H.out).mono ?_; rintro e w2 ⟨rfl, h2⟩
       have K2 := Lib.hid h2
       clear h2)
    | (go_at_call 12; with_reducible refine (HS2.out _ _ K2.out).mono ?_; rintro e w3 ⟨rfl, h3⟩
       have K3 := Lib.hid h3
       clear h3)
    | (go_at_call 14; with_reducible refine (HK1.out _ _ K3.out).mono ?_; rintro e w4 ⟨rfl, h4⟩
       have K4 := Lib.hid h4
       clear h4)
    | (go_at_call 14; with_reducible refine (HK2.out _ _ K4.out).mono ?_; rintro e w5 ⟨rfl, h5⟩
       have K5 := Lib.hid h5
       clear h5)
    | (go_at_call 16; with_reducible refine (HL.out _ _ K5.out).mono ?_; rintro e w6 ⟨a6, c6, rfl, h6, o6, _, _⟩
       have hd := o6.cap.1
       obtain ⟨g6, f6, rfl, i6, d0, d1, d2, d3, d4⟩ := o6.rd.at (i := 0) (x := B6) rfl
       have K6 := Lib.hid (h6.below ((Below.refl _ _).alloc (Nat.le_refl _) (.cells #[.int .i64 2, .int .i64 5] 44)))
       have V6 := Lib.hid (heap_alloc_new w6 (.cells #[.int .i64 2, .int .i64 5] 44))
       have e0 : w6.cell? ⟨g6, f6, none⟩ = some (.int .i64 6) := d0
       have e1 : w6.cell? ⟨g6, f6 + 1, none⟩ = some (.int .i64 3) := d1
       clear h6 o6 d0 d1 d2 d3 d4)
    | (go_at_call 19; with_reducible refine (HLa.out _ _ K6.out).mono ?_; rintro e w7 ⟨rfl, q7, rfl⟩
       have K7 := Lib.hid (K6.out.below (w' := (w6.alloc (.cells #[.int .i64 2, .int .i64 5] 44)).drewN q7) ⟨rfl, rfl, rfl, Nat.le_refl _, fun _ _ => rfl⟩)
       have V7 : Hid (((w6.alloc (.cells #[.int .i64 2, .int .i64 5] 44)).drewN q7).heap[w6.heap.size]? = some (.cells #[.int .i64 2, .int .i64 5] 44 (0, 0))) := V6
       generalize (w6.alloc (.cells #[.int .i64 2, .int .i64 5] 44)).drewN q7 = w7 at *
       have v0 : w7.cell? ⟨w6.heap.size, 0, none⟩ = some (.int .i64 2) := by simp [World.cell?, V7.out]
       have v1 : w7.cell? ⟨w6.heap.size, 1, none⟩ = some (.int .i64 5) := by simp [World.cell?, V7.out])
    | (go_at_call 21; with_reducible refine (HAc.out _ _ K7.out).mono ?_; rintro e w8 ⟨rfl, rfl⟩)
    | (go_at_call 22; with_reducible refine (HX1.out _).mono ?_; rintro e w9 ⟨rfl, b9⟩
       have B9 := Lib.hid b9
       have V9 := Lib.hid ((b9.block _ (lt_of_heap V7.out)).trans V7.out)
       have u0 : w9.cell? ⟨w6.heap.size, 0, none⟩ = some (.int .i64 2) := by simp [World.cell?, V9.out]
       have u1 : w9.cell? ⟨w6.heap.size, 1, none⟩ = some (.int .i64 5) := by simp [World.cell?, V9.out]
       clear b9)
    | (go_at_call 22; with_reducible refine (HX2.out _).mono ?_; rintro e wa ⟨rfl, ba⟩
       have Ba := Lib.hid ba
       have Va := Lib.hid ((ba.block _ (lt_of_heap V9.out)).trans V9.out)
       have t0 : wa.cell? ⟨w6.heap.size, 0, none⟩ = some (.int .i64 2) := by simp [World.cell?, Va.out]
       have t1 : wa.cell? ⟨w6.heap.size, 1, none⟩ = some (.int .i64 5) := by simp [World.cell?, Va.out]
       clear ba)
    | (go_at_call 22; with_reducible refine (HX3.out _).mono ?_; rintro e wb ⟨rfl, bb⟩
       have Bb := Lib.hid bb
       clear bb))
  go_ret
  exact ⟨rfl, (((K7.out.below B9.out).below Ba.out).below Bb.out).be⟩
end Go.Proofs.Ytcnmkojlledipaa.Mr
