/-
  What stays of a record that a statement was handed, whatever it calls: its box, and the rows it leads to.
-/
import Derived.Test.YtpoolpckabpnfaaGreatCAwake
namespace Go.Proofs.YtpoolpckabpnfaaGreat.C
open Go.RowKit
set_option linter.unusedVariables false
set_option linter.unusedSimpArgs false

theorem below_drewN (B : Nat) (w : World) (n : Nat) : Below B w (w.drewN n) := ⟨rfl, rfl, rfl, Nat.le_refl _, fun _ _ => rfl⟩

/-- behind the making of the box o nothing that was there, and not the box, has changed -/
def Bx (w : World) (o : Obj) (w' : World) : Prop := Below (w.heap.size + 1) (w.alloc o) w'

theorem Bx.refl (w : World) (o : Obj) : Bx w o (w.alloc o) := Below.refl _ _
theorem Bx.size {w : World} {o : Obj} {w' : World} (h : Bx w o w') : w.heap.size + 1 ≤ w'.heap.size := by
  have := Below.size h
  simpa using this
theorem Bx.next {w : World} {o : Obj} {w1 w2 : World} (h : Bx w o w1) {B : Nat} (hb : Below B w1 w2) (hB : w1.heap.size ≤ B) : Bx w o w2 := Below.trans h (hb.mono (Nat.le_trans h.size hB))
theorem Bx.alloc {w : World} {o : Obj} {w1 : World} (h : Bx w o w1) (o' : Obj) : Bx w o (w1.alloc o') := h.next ((Below.refl _ _).alloc (Nat.le_refl _) o') (Nat.le_refl _)
theorem Bx.drewN {w : World} {o : Obj} {w1 : World} (h : Bx w o w1) (n : Nat) : Bx w o (w1.drewN n) := h.next (below_drewN w1.heap.size w1 n) (Nat.le_refl _)
theorem Bx.drew {w : World} {o : Obj} {w1 : World} (h : Bx w o w1) : Bx w o w1.drew := h.next ((Below.refl w1.heap.size w1).drew) (Nat.le_refl _)
theorem Bx.set {w : World} {o : Obj} {w1 : World} (h : Bx w o w1) {p : Addr} (v : Value) (hp : w.heap.size < p.block) : Bx w o (w1.setCell p v) := Below.setCell h hp v
theorem Bx.old {w : World} {o : Obj} {w' : World} (h : Bx w o w') : Below w.heap.size w w' := ((Below.refl _ _).alloc (Nat.le_refl _) o).trans (Below.mono h (by omega))
theorem Bx.cells {w : World} {a b c : Value} {w' : World} (h : Bx w (.cells #[a, b, c] 80) w') :
    w'.cell? ⟨w.heap.size, 0, none⟩ = some a ∧ w'.cell? ⟨w.heap.size, 1, none⟩ = some b ∧ w'.cell? ⟨w.heap.size, 2, none⟩ = some c := by
  refine ⟨?_, ?_, ?_⟩ <;> (rw [Below.cell h (by simp)]; rw [World.cell?_alloc_mark]; rfl)
theorem Bx.rec {w : World} {o : Obj} {w' : World} (h : Bx w o w') {r : M.Rc} {aN : Option Addr} {nN cN : Nat} {aT : Option Addr} {nT cT : Nat} (hr : RecAt w r aN nN cN aT nT cT) : RecAt w' r aN nN cN aT nT cT := hr.below h.old (Nat.le_refl _)
theorem Bx.row {w : World} {o : Obj} {w' : World} (h : Bx w o w') {a : Option Addr} {n cap : Nat} {vs : List Value} (hr : Row w a n cap vs) : Row w' a n cap vs := row_below hr h.old (Nat.le_refl _)
end Go.Proofs.YtpoolpckabpnfaaGreat.C
