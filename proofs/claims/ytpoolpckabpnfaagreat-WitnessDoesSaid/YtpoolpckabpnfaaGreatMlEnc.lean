/-
  May, Encode, Decode of a message.
-/
import Derived.Test.YtpoolpckabpnfaaGreatMlMsg
namespace Go.Proofs.YtpoolpckabpnfaaGreat.Ml
open Go.RowKit
open C (Row Own i64s strs row_below own_below RecAt str)
set_option linter.unusedVariables false
set_option linter.unusedSimpArgs false
set_option maxRecDepth 20000

def Mg.Wf (m : Mg) : Prop := C.M.fits m.epoch ∧ C.M.fits m.seq ∧ C.M.fits m.n ∧ C.M.fits m.block ∧ C.M.fits m.client ∧ C.M.fits m.e ∧ C.M.fits m.t0 ∧ C.M.fits m.t1 ∧ C.M.fits m.t2 ∧ C.M.fits m.t3

set_option maxHeartbeats 1000000 in
theorem may_any (w : World) (m : Mg) : Calls Tryz.prog 34 #[msgV m] w fun e w' => e = .returned (.bool (may m)) ∧ Below w.heap.size w w' := by
  have HR := fun w' => record_any w' m
  have HI := fun w' aN cN aT cT h => is_any w' m.rc aN 10 cN aT 2 cT h (by omega) (by omega)
  have hm : isM m.rc = may m := rfl
  rw [hm] at HI
  generalize may m = z at *
  have hk : m.rc.kind = m.kind := rfl
  rw [hk] at HI
  generalize m.rc = r at *
  obtain ⟨kind, epoch, seq, n, block, client, e, t0, t1, t2, t3, data, row⟩ := m
  simp only [msgV, Mg.cells] at HR HI ⊢
  have HRh := Lib.hid HR
  have HIh := Lib.hid HI
  clear HR HI hm hk
  go_enter Tryz.func34, Tryz.ntmps34
  go_wp2_with (first
    | (go_at_call 58; with_reducible refine (HRh.out _).mono ?_; rintro e1 w1 ⟨aN, cN, aT, cT, rfl, hr, hb⟩
       have HA := Lib.hid hr
       have HB := Lib.hid (((Below.refl _ _).alloc (Nat.le_refl _) _).trans (Below.mono hb (by simp)))
       clear hr hb)
    | (go_at_call 57; with_reducible refine (HIh.out _ _ _ _ _ HA.out).mono ?_; rintro e2 w2 ⟨rfl, hb⟩
       have HB2 := Lib.hid (HB.out.trans (Below.mono hb HB.out.size))
       clear hb))
  go_ret
  exact ⟨rfl, HB2.out⟩

end Go.Proofs.YtpoolpckabpnfaaGreat.Ml
