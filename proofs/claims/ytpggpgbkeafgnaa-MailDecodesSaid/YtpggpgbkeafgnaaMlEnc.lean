/-
  May, Encode, Decode of a message.
-/
import Derived.Test.YtpggpgbkeafgnaaMlMsg
namespace Go.Proofs.Ytpggpgbkeafgnaa.Ml
open Go.RowKit
open C (Row Own i64s strs row_below own_below RecAt str)
set_option linter.unusedVariables false
set_option linter.unusedSimpArgs false
set_option maxRecDepth 20000

def Mg.Wf (m : Mg) : Prop := C.M.fits m.epoch ∧ C.M.fits m.seq ∧ C.M.fits m.n ∧ C.M.fits m.block ∧ C.M.fits m.client ∧ C.M.fits m.e ∧ C.M.fits m.t0 ∧ C.M.fits m.t1 ∧ C.M.fits m.t2 ∧ C.M.fits m.t3

set_option maxHeartbeats 1000000 in
theorem may_any (w : World) (m : Mg) : Calls Try.prog 11 #[msgV m] w fun e w' => e = .returned (.bool (may m)) ∧ Below w.heap.size w w' := by
  have HR := fun w' => record_any w' m
  have HI := fun w' aN cN aT cT h => is_any w' m.rc aN 10 cN aT 2 cT h (by omega) (by omega)
  have hm : isM m.rc = may m := rfl
  rw [hm] at HI
  generalize may m = z at *
  have hk : m.rc.kind = m.kind := rfl
  rw [hk] at HI
  generalize m.rc = r at *
  obtain ⟨kind, epoch, seq, n, block, client, e, t0, t1, t2, t3, data, row⟩ := m
  simp only [msgV, Mg.cells] at HR HI ⊢
  have HRh := Lib.hid HR
  have HIh := Lib.hid HI
  clear HR HI hm hk
  go_enter Try.func11, Try.ntmps11
  go_wp2_with (first
    | (go_at_call 15; with_reducible refine (HRh.out _).mono ?_; rintro e1 w1 ⟨aN, cN, aT, cT, rfl, hr, hb⟩
       have HA := Lib.hid hr
       have HB := Lib.hid (((Below.refl _ _).alloc (Nat.le_refl _) _).trans (Below.mono hb (by simp)))
       clear hr hb)
    | (go_at_call 16; with_reducible refine (HIh.out _ _ _ _ _ HA.out).mono ?_; rintro e2 w2 ⟨rfl, hb⟩
       have HB2 := Lib.hid (HB.out.trans (Below.mono hb HB.out.size))
       clear hb))
  go_ret
  exact ⟨rfl, HB2.out⟩

set_option maxHeartbeats 1000000 in
theorem encode_no (w : World) (m : Mg) (hmay : may m = false) : Calls Try.prog 9 #[msgV m] w fun e w' => e = .returned (.tuple #[.string ⟨#[]⟩, .int .i64 4]) ∧ Below w.heap.size w w' := by
  have HR := fun w' => record_any w' m
  have HI := fun w' aN cN aT cT h => is_any w' m.rc aN 10 cN aT 2 cT h (by omega) (by omega)
  have hm : isM m.rc = false := hmay
  have hk : m.rc.kind = m.kind := rfl
  rw [hm, hk] at HI
  generalize m.rc = r at *
  obtain ⟨kind, epoch, seq, n, block, client, e, t0, t1, t2, t3, data, row⟩ := m
  simp only [msgV, Mg.cells] at HR HI ⊢
  have HRh := Lib.hid HR
  have HIh := Lib.hid HI
  clear HR HI hm hk hmay
  go_enter Try.func9, Try.ntmps9
  go_wp2_with (first
    | (go_at_call 15; with_reducible refine (HRh.out _).mono ?_; rintro e1 w1 ⟨aN, cN, aT, cT, rfl, hr, hb⟩
       have HB := Lib.hid (((Below.refl _ _).alloc (Nat.le_refl _) _).trans (Below.mono hb (by simp)))
       have HA := Lib.hid (hr.below ((Below.refl w1.heap.size w1).alloc (Nat.le_refl _) (.cells #[.int .i64 kind, .slice aN 10 cN, .slice aT 2 cT] 39)) (Nat.le_refl _))
       clear hr hb)
    | (go_at_call 16; with_reducible refine (HIh.out _ _ _ _ _ HA.out).mono ?_; rintro e2 w2 ⟨rfl, hb⟩
       have HB2 := Lib.hid ((HB.out.alloc HB.out.size _).trans (Below.mono hb (by have := HB.out.size; simp; omega)))
       clear hb))
  go_ret2
  exact ⟨rfl, HB2.out⟩

set_option maxHeartbeats 1000000 in
theorem encode_yes (w : World) (m : Mg) (hmay : may m = true) : Calls Try.prog 9 #[msgV m] w fun e w' => e = .returned (.tuple #[.string (str (bytes m)), .int .i64 0]) ∧ Below w.heap.size w w' := by
  obtain ⟨hm1, hm2⟩ := may_rec hmay
  have HR := fun w' => record_any w' m
  have HI := fun w' aN cN aT cT h => is_any w' m.rc aN 10 cN aT 2 cT h (by omega) (by omega)
  have HE := fun w' aN cN aT cT h => C.encode_yes w' m.rc aN 10 cN aT 2 cT h hm1 hm2
  have hm : isM m.rc = true := hmay
  have hk : m.rc.kind = m.kind := rfl
  have he : C.M.enc m.rc = bytes m := rfl
  rw [hm, hk] at HI
  rw [hk, he] at HE
  generalize bytes m = l at *
  generalize m.rc = r at *
  obtain ⟨kind, epoch, seq, n, block, client, e, t0, t1, t2, t3, data, row⟩ := m
  simp only [msgV, Mg.cells] at HR HI HE ⊢
  have HRh := Lib.hid HR
  have HIh := Lib.hid HI
  have HEh := Lib.hid HE
  clear HR HI HE hm hk hmay he hm1 hm2
  go_enter Try.func9, Try.ntmps9
  go_wp2_with (first
    | (go_at_call 15; with_reducible refine (HRh.out _).mono ?_; rintro e1 w1 ⟨aN, cN, aT, cT, rfl, hr, hb⟩
       have HB := Lib.hid (((Below.refl _ _).alloc (Nat.le_refl _) _).trans (Below.mono hb (by simp)))
       have HA := Lib.hid (hr.below ((Below.refl w1.heap.size w1).alloc (Nat.le_refl _) (.cells #[.int .i64 kind, .slice aN 10 cN, .slice aT 2 cT] 39)) (Nat.le_refl _))
       clear hr hb)
    | (go_at_call 16; with_reducible refine (HIh.out _ _ _ _ _ HA.out).mono ?_; rintro e2 w2 ⟨rfl, hb⟩
       have HX : Hid (C.Bx w1 (.cells #[.int .i64 kind, .slice aN 10 cN, .slice aT 2 cT] 39) w2) := Lib.hid ((C.Bx.refl w1 _).next hb (Nat.le_refl _))
       have HA2 := Lib.hid (HA.out.below hb (Nat.le_refl _))
       obtain ⟨c0, c1, c2⟩ := HX.out.cells
       have HB2 := Lib.hid ((HB.out.alloc HB.out.size _).trans (Below.mono hb (by have := HB.out.size; simp; omega)))
       clear hb)
    | (go_at_call 17; with_reducible refine (HEh.out _ _ _ _ _ HA2.out).mono ?_; rintro e3 w3 ⟨aE, cE, rfl, ho, hb⟩
       have hc := C.run_string_bytes (C.own_row ho).1
       have HB3 := Lib.hid (HB2.out.trans (Below.mono hb HB2.out.size))
       clear hb ho))
  go_ret2
  exact ⟨rfl, HB3.out⟩
end Go.Proofs.Ytpggpgbkeafgnaa.Ml
