/-
  A timer in memory, and its methods.
-/
import Derived.Test.YtlicofdklfbkoaaLeTog
namespace Go.Proofs.Ytlicofdklfbkoaa.Le
open Go.RowKit
set_option linter.unusedVariables false
set_option linter.unusedSimpArgs false
set_option maxRecDepth 20000

/-- a timer at block g that has x left -/
def TAt (w : World) (g : Nat) (x : Int) : Prop := w.heap[g]? = some (.cells #[.int .i64 x] 34 (0, 0))
theorem TAt.new (w : World) (x : Int) : TAt (w.alloc (.cells #[.int .i64 x] 34)) w.heap.size x := heap_alloc_new w _
theorem TAt.lt {w : World} {g : Nat} {x : Int} (h : TAt w g x) : g < w.heap.size := (Array.getElem?_eq_some_iff.1 h).1
theorem TAt.cell {w : World} {g : Nat} {x : Int} (h : TAt w g x) : w.cell? ⟨g, 0, none⟩ = some (.int .i64 x) := cell_of_row w g 0 _ _ (0, 0) h
theorem TAt.frozen {w : World} {g : Nat} {x : Int} (h : TAt w g x) : w.frozen? ⟨g, 0, none⟩ = false := by
  unfold TAt at h
  simp [World.frozen?, h]
theorem TAt.below {w w' : World} {g : Nat} {x : Int} (h : TAt w g x) (hb : Below w.heap.size w w') : TAt w' g x := (hb.block g h.lt).trans h
theorem TAt.set {w : World} {g : Nat} {x : Int} (h : TAt w g x) (y : Int) : TAt (w.setCell ⟨g, 0, none⟩ (.int .i64 y)) g y := by
  unfold TAt at h ⊢
  simp [World.setCell, Array.getElem?_modify, h]

def left (n : Int) : Int := max n 0
/-- one tick -/
def tick (x : Int) : Int := if 0 < x then x - 1 else x

theorem on_any {w : World} {g : Nat} {x : Int} (h : TAt w g x) : Calls Try.prog 13 #[.pointer (some ⟨g, 0, none⟩)] w fun e w' => e = .returned (.bool (decide (0 < x))) ∧ w = w' := by
  have h1 := h.cell
  go_enter Try.func13, Try.ntmps13
  go_wp2
  go_ret
  exact ⟨rfl, rfl⟩
theorem left_any {w : World} {g : Nat} {x : Int} (h : TAt w g x) : Calls Try.prog 14 #[.pointer (some ⟨g, 0, none⟩)] w fun e w' => e = .returned (.int .i64 x) ∧ w = w' := by
  have h1 := h.cell
  go_enter Try.func14, Try.ntmps14
  go_wp2
  go_ret
  exact ⟨rfl, rfl⟩
theorem set_any {w : World} {g : Nat} {x : Int} (h : TAt w g x) (n : Int) : Calls Try.prog 15 #[.pointer (some ⟨g, 0, none⟩), .int .i64 n] w fun e w' => e = .returned (.tuple #[]) ∧ TAt w' g (left n) ∧ w' = w.setCell ⟨g, 0, none⟩ (.int .i64 (left n)) := by
  have h1 := h.cell
  have h2 := h.frozen
  have HS := Lib.hid (h.set (left n))
  have HE : Hid ((if n < 0 then 0 else n) = left n) := Lib.hid (by unfold left; split <;> omega)
  clear h
  by_cases hn : n < 0
  · have hl : left n = 0 := by unfold left; omega
    rw [hl] at HS ⊢
    clear hl HE
    go_enter Try.func15, Try.ntmps15
    go_wp2
    go_end0
    exact ⟨rfl, HS.out, rfl⟩
  · have hl : left n = n := by unfold left; omega
    rw [hl] at HS ⊢
    clear hl HE
    go_enter Try.func15, Try.ntmps15
    go_wp2
    go_end0
    exact ⟨rfl, HS.out, rfl⟩
theorem tick_any {w : World} {g : Nat} {x : Int} (h : TAt w g x) (hx : 0 ≤ x) (hx2 : x ≤ 9223372036854775807) : Calls Try.prog 16 #[.pointer (some ⟨g, 0, none⟩)] w fun e w' => e = .returned (.tuple #[]) ∧ TAt w' g (left (x - 1)) ∧ (w' = w ∨ w' = w.setCell ⟨g, 0, none⟩ (.int .i64 (left (x - 1)))) := by
  have h1 := h.cell
  have h2 := h.frozen
  have HO := Lib.hid (on_any h)
  by_cases h0 : 0 < x
  · have hl : left (x - 1) = x - 1 := by unfold left; omega
    rw [hl]
    have HS := Lib.hid (h.set (x - 1))
    rw [decide_eq_true h0] at HO
    clear h hl
    go_enter Try.func16, Try.ntmps16
    go_wp2_with (go_at_call 13; with_reducible refine HO.out.mono ?_; rintro e w1 ⟨rfl, rfl⟩)
    go_end0
    exact ⟨rfl, HS.out, .inr rfl⟩
  · have hl : left (x - 1) = x := by unfold left; omega
    rw [hl]
    have HS := Lib.hid h
    rw [decide_eq_false h0] at HO
    clear h hl
    go_enter Try.func16, Try.ntmps16
    go_wp2_with (go_at_call 13; with_reducible refine HO.out.mono ?_; rintro e w1 ⟨rfl, rfl⟩)
    go_end0
    exact ⟨rfl, HS.out, .inl rfl⟩
end Go.Proofs.Ytlicofdklfbkoaa.Le
