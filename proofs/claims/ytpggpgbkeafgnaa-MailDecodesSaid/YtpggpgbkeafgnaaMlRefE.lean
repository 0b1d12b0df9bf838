/-
  The document's own answer for a message's bytes.
-/
import Derived.Test.YtpggpgbkeafgnaaMlRefM
import Derived.Test.YtpggpgbkeafgnaaCRefw
namespace Go.Proofs.Ytpggpgbkeafgnaa.Ml
open Go.RowKit
open C (str RecAt i64s strs)
set_option linter.unusedVariables false
set_option linter.unusedSimpArgs false
set_option maxRecDepth 20000

theorem lit_rec (w : World) (m : Mg) : RecAt ((w.alloc (.cells (i64s m.nums).toArray 2)).alloc (.cells (strs m.texts).toArray 9)) m.rc (some ⟨w.heap.size, 0, none⟩) 10 10 (some ⟨w.heap.size + 1, 0, none⟩) 2 2 := by
  have h1 := (C.own_row (C.own_lit 2 w 0 (i64s m.nums) (Nat.zero_le _) (by simp [i64s, Mg.nums]))).1
  have h2 := (C.own_row (C.own_lit 9 (w.alloc (.cells (i64s m.nums).toArray 2)) 0 (strs m.texts) (Nat.zero_le _) (by simp [strs, Mg.texts]))).1
  rw [show (w.alloc (.cells (i64s m.nums).toArray 2)).heap.size = w.heap.size + 1 by simp] at h2
  exact ⟨C.row_below h1 ((Below.refl _ _).alloc (Nat.le_refl _) _) (Nat.le_refl _), h2⟩

set_option maxHeartbeats 1000000 in
theorem refencode_no (w : World) (m : Mg) (hm : may m = false) : Calls Try.prog 10 #[msgV m] w fun e w' => e = .returned (.tuple #[.string ⟨#[]⟩, .int .i64 4]) ∧ Below w.heap.size w w' := by
  have HMy := Lib.hid (fun w' => refmay_any w' m)
  rw [hm] at HMy
  clear hm
  obtain ⟨kind, epoch, seq, n, block, client, e, t0, t1, t2, t3, data, row⟩ := m
  simp only [msgV, Mg.cells] at HMy ⊢
  go_enter Try.func10, Try.ntmps10
  go_wp2_with (go_at_call 12; with_reducible refine (HMy.out _).mono ?_; rintro e1 w1 ⟨rfl, hb⟩
               have HB := Lib.hid (((Below.refl _ _).alloc (Nat.le_refl _) _).trans (Below.mono hb (by simp)))
               clear hb)
  go_ret2
  exact ⟨rfl, HB.out⟩

set_option maxHeartbeats 2000000 in
theorem refencode_yes (w : World) (m : Mg) (hm : may m = true) : Calls Try.prog 10 #[msgV m] w fun e w' => e = .returned (.tuple #[.string (str (bytes m)), .int .i64 0]) ∧ Below w.heap.size w w' := by
  obtain ⟨h1, h2⟩ := may_rec hm
  have HMy := Lib.hid (fun w' => refmay_any w' m)
  rw [hm] at HMy
  have hE := fun w' => C.refencode_yes ((w'.alloc (.cells (i64s m.nums).toArray 2)).alloc (.cells (strs m.texts).toArray 9)) m.rc _ _ _ _ _ _ (lit_rec w' m) h1 h2
  have hk : m.rc.kind = m.kind := rfl
  have he : C.M.enc m.rc = bytes m := rfl
  rw [hk, he] at hE
  generalize bytes m = l at *
  have HMB := Lib.hid (fun (w' : World) hb => one_box w m (w' := w') hb)
  clear hm h1 h2 hk he
  obtain ⟨kind, epoch, seq, n, block, client, e, t0, t1, t2, t3, data, row⟩ := m
  simp only [msgV, Mg.cells, Mg.nums, Mg.texts, i64s, strs, List.map] at HMy HMB hE ⊢
  have HE := Lib.hid hE
  clear hE
  go_enter Try.func10, Try.ntmps10
  go_wp2_with (first
    | (go_at_call 12; with_reducible refine (HMy.out _).mono ?_; rintro e1 w1 ⟨rfl, hb⟩
       have C1 := Lib.hid hb
       obtain ⟨z0, z1, z2, z3, z4, z5, z6, z7, z8, z9, z10, z11, z12⟩ := (HMB.out _ hb).1.cells
       have HM2 := ((HMB.out _ hb).1.below ((Below.refl w1.heap.size w1).alloc (Nat.le_refl _) (.cells #[.int .i64 epoch, .int .i64 seq, .int .i64 n, .int .i64 block, .int .i64 client, .int .i64 e, .int .i64 t0, .int .i64 t1, .int .i64 t2, .int .i64 t3] 2)) (HMB.out _ hb).1.lt).cells
       obtain ⟨y0, _, _, _, _, _, _, _, _, _, _, y11, y12⟩ := HM2
       simp only at y0 y11 y12
       clear hb)
    | (go_at_call 18; with_reducible refine (HE.out _).mono ?_; rintro e3 w3 ⟨aE, cE, rfl, ho, hb⟩
       have hc := C.run_string_bytes (C.own_row ho).1
       have C3 := Lib.hid (((C1.out.alloc C1.out.size _).alloc (C1.out.alloc C1.out.size _).size _).trans (Below.mono hb ((C1.out.alloc C1.out.size _).alloc (C1.out.alloc C1.out.size _).size _).size))
       clear hb ho))
  go_ret2
  exact ⟨rfl, (HMB.out _ C3.out).2⟩
theorem refencode_any (w : World) (m : Mg) : Calls Try.prog 10 #[msgV m] w fun e w' => e = .returned (.tuple #[.string (encV m), .int .i64 (encE m)]) ∧ Below w.heap.size w w' := by
  unfold encV encE
  cases h : may m with
  | true => simpa using refencode_yes w m h
  | false => simpa using refencode_no w m h
end Go.Proofs.Ytpggpgbkeafgnaa.Ml
