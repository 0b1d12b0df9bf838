/-
  The document's own ask, case by case.
  The document's own change, case by case.
  The document's own ask, its own change, in every case.
-/
import Derived.Test.YtpoolpckabpnfaaGreatJRA
namespace Go.Proofs.YtpoolpckabpnfaaGreat.Wt
open Go.RowKit
open Ml (Mg may msgV MB)
set_option linter.unusedVariables false
set_option linter.unusedSimpArgs false
set_option maxRecDepth 20000

variable {rB LB n : Nat} {d : M.Dv}


set_option maxHeartbeats 4000000 in
theorem rask_prim (w : World) {vB kB a b : Nat} {c : M.Cl} {L W : Int} (h : RW w rB LB n d vB kB a b c L W) (fr : Int) (hf : 0 ≤ fr ∧ fr ≤ 1) (m : Mg) (hA : inM (fx c.text).ma fr = false) :
    Calls Tryz.prog 37 #[.pointer (some ⟨vB, 0, none⟩), .int .i64 fr, msgV m] w fun e w' => e = .returned (.int .i64 20) ∧ RW w' rB LB n d vB kB a b c L W ∧ But (theirs rB LB kB vB) w w' := by

  unfold RW
  have hok := fx_ok c.text
  have S0 : Hid (RX (w.alloc (.cells m.cells 37)) rB LB n d vB kB a b c (fx c.text) L W) := Lib.hid (RX.below h ((Below.refl _ _).alloc (Nat.le_refl _) _))
  have B0 : Hid (But (theirs rB LB kB vB) w (w.alloc (.cells m.cells 37))) := Lib.hid ((But.of_below ((Below.refl w.heap.size w).alloc (Nat.le_refl _) _)).mono (by simp))
  have HM0 := Lib.hid (Bo.new w m.cells 37)
  have hww := h.wt
  have hlw := h.lf
  have HIn := Lib.hid (fun w' => rin_any w' (fr := fr) hok.2.2.1)
  rw [hA] at HIn
  clear hA
  clear h
  obtain ⟨ok1, ok2, ok3, ok4⟩ := hok
  generalize fx c.text = x at *
  obtain ⟨ep, ho, ma, ch⟩ := x
  obtain ⟨kind, epoch, seq, nn, block, client, e0, t0, t1, t2, t3, data, row⟩ := m
  simp only [msgV, Mg.cells, big] at *
  go_enter Tryz.func37, Tryz.ntmps37
  go_upto_region 1 with fail
  generalize w.alloc (.cells #[.int .i64 kind, .int .i64 epoch, .int .i64 seq, .int .i64 nn, .int .i64 block, .int .i64 client, .int .i64 e0, .int .i64 t0, .int .i64 t1, .int .i64 t2, .int .i64 t3, .string data, .string row] 37) = W1 at *
  generalize w.heap.size = GS at *
  have q1 := S0.out.q1
  have q2 := S0.out.q2
  have q3 := S0.out.q3
  have q4 := S0.out.q4
  have q5 := S0.out.q5
  have q6 := S0.out.q6
  simp only at q1 q2 q3 q4
  go_wp2_with (go_at_call 39; with_reducible refine (HIn.out _).mono ?_; rintro e wi ⟨rfl, rfl⟩)
  go_ret
  exact ⟨rfl, S0.out, B0.out⟩


set_option maxHeartbeats 4000000 in
theorem rask_long (w : World) {vB kB a b : Nat} {c : M.Cl} {L W : Int} (h : RW w rB LB n d vB kB a b c L W) (fr : Int) (hf : 0 ≤ fr ∧ fr ≤ 1) (m : Mg) (hA : inM (fx c.text).ma fr = true) (hl : longer (fx c.text) fr m = true) :
    Calls Tryz.prog 37 #[.pointer (some ⟨vB, 0, none⟩), .int .i64 fr, msgV m] w fun e w' => e = .returned (.int .i64 0) ∧ RW w' rB LB n d vB kB a b c W W ∧ But (theirs rB LB kB vB) w w' := by

  unfold RW
  have hok := fx_ok c.text
  have S0 : Hid (RX (w.alloc (.cells m.cells 37)) rB LB n d vB kB a b c (fx c.text) L W) := Lib.hid (RX.below h ((Below.refl _ _).alloc (Nat.le_refl _) _))
  have B0 : Hid (But (theirs rB LB kB vB) w (w.alloc (.cells m.cells 37))) := Lib.hid ((But.of_below ((Below.refl w.heap.size w).alloc (Nat.le_refl _) _)).mono (by simp))
  have HM0 := Lib.hid (Bo.new w m.cells 37)
  have hww := h.wt
  have hlw := h.lf
  have HIn := Lib.hid (fun w' => rin_any w' (fr := fr) hok.2.2.1)
  rw [hA] at HIn
  clear hA
  have hh : ((fx c.text).ho == fr) = true ∧ (m.seq == 0) = true ∧ (m.epoch == (fx c.text).ep) = true := by simpa [longer] using hl
  obtain ⟨hh1, hh2, hh3⟩ := hh
  clear hl
  clear h
  obtain ⟨ok1, ok2, ok3, ok4⟩ := hok
  generalize fx c.text = x at *
  obtain ⟨ep, ho, ma, ch⟩ := x
  obtain ⟨kind, epoch, seq, nn, block, client, e0, t0, t1, t2, t3, data, row⟩ := m
  simp only [msgV, Mg.cells, big] at *
  go_enter Tryz.func37, Tryz.ntmps37
  go_upto_region 1 with fail
  generalize w.alloc (.cells #[.int .i64 kind, .int .i64 epoch, .int .i64 seq, .int .i64 nn, .int .i64 block, .int .i64 client, .int .i64 e0, .int .i64 t0, .int .i64 t1, .int .i64 t2, .int .i64 t3, .string data, .string row] 37) = W1 at *
  generalize w.heap.size = GS at *
  have q1 := S0.out.q1
  have q2 := S0.out.q2
  have q3 := S0.out.q3
  have q4 := S0.out.q4
  have q5 := S0.out.q5
  have q6 := S0.out.q6
  have y1 := HM0.out.cell 1
  have y2 := HM0.out.cell 2
  simp only at q1 q2 q3 q4
  simp only [List.getElem?_toArray, List.getElem?_cons_zero, List.getElem?_cons_succ] at y1 y2
  go_upto_region 3 with (go_at_call 39; with_reducible refine (HIn.out _).mono ?_; rintro e wi ⟨rfl, rfl⟩)
  go_quiet (fail)
  generalize hWq : W1.drewN nq = W2 at *
  have hbq : Below W1.heap.size W1 W2 := by rw [← hWq]; exact below_drewN _ _ _
  clear hWq
  have S2 := Lib.hid (S0.out.below hbq)
  have B2 := Lib.hid (B0.out.trans ((But.of_below hbq).mono (by simp)))
  have HM2 := Lib.hid (HM0.out.below hbq HM0.out.lt)
  clear q1 q2 q3 q4 q5 q6 y1 y2 hbq
  have q1 := S2.out.q1
  have q2 := S2.out.q2
  have q3 := S2.out.q3
  have q4 := S2.out.q4
  have q5 := S2.out.q5
  have q6 := S2.out.q6
  have f5 := S2.out.fz 5
  simp only at q1 q2 q3 q4
  go_wp2
  go_ret
  exact ⟨rfl, S2.out.setL (by omega), B2.out.trans (S2.out.set_but 5 _)⟩


set_option maxHeartbeats 4000000 in
theorem rask_busy (w : World) {vB kB a b : Nat} {c : M.Cl} {L W : Int} (h : RW w rB LB n d vB kB a b c L W) (fr : Int) (hf : 0 ≤ fr ∧ fr ≤ 1) (m : Mg) (hA : inM (fx c.text).ma fr = true) (hn : (fx c.text).ho ≠ fr) (hL : 0 < L) :
    Calls Tryz.prog 37 #[.pointer (some ⟨vB, 0, none⟩), .int .i64 fr, msgV m] w fun e w' => e = .returned (.int .i64 25) ∧ RW w' rB LB n d vB kB a b c L W ∧ But (theirs rB LB kB vB) w w' := by

  unfold RW
  have hok := fx_ok c.text
  have S0 : Hid (RX (w.alloc (.cells m.cells 37)) rB LB n d vB kB a b c (fx c.text) L W) := Lib.hid (RX.below h ((Below.refl _ _).alloc (Nat.le_refl _) _))
  have B0 : Hid (But (theirs rB LB kB vB) w (w.alloc (.cells m.cells 37))) := Lib.hid ((But.of_below ((Below.refl w.heap.size w).alloc (Nat.le_refl _) _)).mono (by simp))
  have HM0 := Lib.hid (Bo.new w m.cells 37)
  have hww := h.wt
  have hlw := h.lf
  have HIn := Lib.hid (fun w' => rin_any w' (fr := fr) hok.2.2.1)
  rw [hA] at HIn
  clear hA
  have hh1 : ((fx c.text).ho == fr) = false := by rw [beq_eq_false_iff_ne]; exact hn
  have hh4 : ((fx c.text).ho != fr) = true := by rw [bne_iff_ne]; exact hn
  clear hn
  clear h
  obtain ⟨ok1, ok2, ok3, ok4⟩ := hok
  generalize fx c.text = x at *
  obtain ⟨ep, ho, ma, ch⟩ := x
  obtain ⟨kind, epoch, seq, nn, block, client, e0, t0, t1, t2, t3, data, row⟩ := m
  simp only [msgV, Mg.cells, big] at *
  go_enter Tryz.func37, Tryz.ntmps37
  go_upto_region 1 with fail
  generalize w.alloc (.cells #[.int .i64 kind, .int .i64 epoch, .int .i64 seq, .int .i64 nn, .int .i64 block, .int .i64 client, .int .i64 e0, .int .i64 t0, .int .i64 t1, .int .i64 t2, .int .i64 t3, .string data, .string row] 37) = W1 at *
  generalize w.heap.size = GS at *
  have q1 := S0.out.q1
  have q2 := S0.out.q2
  have q3 := S0.out.q3
  have q4 := S0.out.q4
  have q5 := S0.out.q5
  have q6 := S0.out.q6
  have y1 := HM0.out.cell 1
  have y2 := HM0.out.cell 2
  simp only at q1 q2 q3 q4
  simp only [List.getElem?_toArray, List.getElem?_cons_zero, List.getElem?_cons_succ] at y1 y2
  go_upto_region 3 with (go_at_call 39; with_reducible refine (HIn.out _).mono ?_; rintro e wi ⟨rfl, rfl⟩)
  go_quiet (fail)
  generalize hWq : W1.drewN nq = W2 at *
  have hbq : Below W1.heap.size W1 W2 := by rw [← hWq]; exact below_drewN _ _ _
  clear hWq
  have S2 := Lib.hid (S0.out.below hbq)
  have B2 := Lib.hid (B0.out.trans ((But.of_below hbq).mono (by simp)))
  have HM2 := Lib.hid (HM0.out.below hbq HM0.out.lt)
  clear q1 q2 q3 q4 q5 q6 y1 y2 hbq
  have q1 := S2.out.q1
  have q2 := S2.out.q2
  have q3 := S2.out.q3
  have q4 := S2.out.q4
  have q5 := S2.out.q5
  have q6 := S2.out.q6
  simp only at q1 q2 q3 q4
  go_wp2
  go_ret
  exact ⟨rfl, S2.out, B2.out⟩


set_option maxHeartbeats 4000000 in
theorem rask_fullD (w : World) {vB kB a b : Nat} {c : M.Cl} {L W : Int} (h : RW w rB LB n d vB kB a b c L W) (fr : Int) (hf : 0 ≤ fr ∧ fr ≤ 1) (m : Mg) (hA : inM (fx c.text).ma fr = true) (hn : (fx c.text).ho ≠ fr) (hL : ¬ 0 < L) (hE : (fx c.text).ep = big) :
    Calls Tryz.prog 37 #[.pointer (some ⟨vB, 0, none⟩), .int .i64 fr, msgV m] w fun e w' => e = .returned (.int .i64 22) ∧ RW w' rB LB n d vB kB a b c L W ∧ But (theirs rB LB kB vB) w w' := by

  unfold RW
  have hok := fx_ok c.text
  have S0 : Hid (RX (w.alloc (.cells m.cells 37)) rB LB n d vB kB a b c (fx c.text) L W) := Lib.hid (RX.below h ((Below.refl _ _).alloc (Nat.le_refl _) _))
  have B0 : Hid (But (theirs rB LB kB vB) w (w.alloc (.cells m.cells 37))) := Lib.hid ((But.of_below ((Below.refl w.heap.size w).alloc (Nat.le_refl _) _)).mono (by simp))
  have HM0 := Lib.hid (Bo.new w m.cells 37)
  have hww := h.wt
  have hlw := h.lf
  have HIn := Lib.hid (fun w' => rin_any w' (fr := fr) hok.2.2.1)
  rw [hA] at HIn
  clear hA
  have hh1 : ((fx c.text).ho == fr) = false := by rw [beq_eq_false_iff_ne]; exact hn
  have hh4 : ((fx c.text).ho != fr) = true := by rw [bne_iff_ne]; exact hn
  clear hn
  have hL2 : decide (0 < L) = false := decide_eq_false hL
  have hL3 : decide (L > 0) = false := decide_eq_false hL
  clear hL
  have hE2 : ((fx c.text).ep == big) = true := by simpa using hE
  clear hE
  clear h
  obtain ⟨ok1, ok2, ok3, ok4⟩ := hok
  generalize fx c.text = x at *
  obtain ⟨ep, ho, ma, ch⟩ := x
  obtain ⟨kind, epoch, seq, nn, block, client, e0, t0, t1, t2, t3, data, row⟩ := m
  simp only [msgV, Mg.cells, big] at *
  go_enter Tryz.func37, Tryz.ntmps37
  go_upto_region 1 with fail
  generalize w.alloc (.cells #[.int .i64 kind, .int .i64 epoch, .int .i64 seq, .int .i64 nn, .int .i64 block, .int .i64 client, .int .i64 e0, .int .i64 t0, .int .i64 t1, .int .i64 t2, .int .i64 t3, .string data, .string row] 37) = W1 at *
  generalize w.heap.size = GS at *
  have q1 := S0.out.q1
  have q2 := S0.out.q2
  have q3 := S0.out.q3
  have q4 := S0.out.q4
  have q5 := S0.out.q5
  have q6 := S0.out.q6
  have y1 := HM0.out.cell 1
  have y2 := HM0.out.cell 2
  simp only at q1 q2 q3 q4
  simp only [List.getElem?_toArray, List.getElem?_cons_zero, List.getElem?_cons_succ] at y1 y2
  go_upto_region 3 with (go_at_call 39; with_reducible refine (HIn.out _).mono ?_; rintro e wi ⟨rfl, rfl⟩)
  go_quiet (fail)
  generalize hWq : W1.drewN nq = W2 at *
  have hbq : Below W1.heap.size W1 W2 := by rw [← hWq]; exact below_drewN _ _ _
  clear hWq
  have S2 := Lib.hid (S0.out.below hbq)
  have B2 := Lib.hid (B0.out.trans ((But.of_below hbq).mono (by simp)))
  have HM2 := Lib.hid (HM0.out.below hbq HM0.out.lt)
  clear q1 q2 q3 q4 q5 q6 y1 y2 hbq
  have q1 := S2.out.q1
  have q2 := S2.out.q2
  have q3 := S2.out.q3
  have q4 := S2.out.q4
  have q5 := S2.out.q5
  have q6 := S2.out.q6
  simp only at q1 q2 q3 q4
  go_wp2
  go_ret
  exact ⟨rfl, S2.out, B2.out⟩


set_option maxHeartbeats 4000000 in
theorem rask_putD0 (w : World) {vB kB a b : Nat} {c : M.Cl} {L W : Int} (h : RW w rB LB n d vB kB a b c L W) (fr : Int) (hf : 0 ≤ fr ∧ fr ≤ 1) (m : Mg) (hA : inM (fx c.text).ma fr = true) (hn : (fx c.text).ho ≠ fr) (hL : ¬ 0 < L) (hE : (fx c.text).ep ≠ big) (hp : M.puE n d a b c (fxT ⟨(fx c.text).ep + 1, fr, (fx c.text).ma, 0⟩) = 0) :
    Calls Tryz.prog 37 #[.pointer (some ⟨vB, 0, none⟩), .int .i64 fr, msgV m] w fun e w' => e = .returned (.int .i64 0) ∧ RW w' rB LB n (M.puD n d a b c (fxT ⟨(fx c.text).ep + 1, fr, (fx c.text).ma, 0⟩)) vB kB a b (M.puC n d a b c (fxT ⟨(fx c.text).ep + 1, fr, (fx c.text).ma, 0⟩)) W W ∧ But (theirs rB LB kB vB) w w' := by

  unfold RW
  have hok := fx_ok c.text
  have S0 : Hid (RX (w.alloc (.cells m.cells 37)) rB LB n d vB kB a b c (fx c.text) L W) := Lib.hid (RX.below h ((Below.refl _ _).alloc (Nat.le_refl _) _))
  have B0 : Hid (But (theirs rB LB kB vB) w (w.alloc (.cells m.cells 37))) := Lib.hid ((But.of_below ((Below.refl w.heap.size w).alloc (Nat.le_refl _) _)).mono (by simp))
  have HM0 := Lib.hid (Bo.new w m.cells 37)
  have hww := h.wt
  have hlw := h.lf
  have HIn := Lib.hid (fun w' => rin_any w' (fr := fr) hok.2.2.1)
  rw [hA] at HIn
  clear hA
  have hh1 : ((fx c.text).ho == fr) = false := by rw [beq_eq_false_iff_ne]; exact hn
  have hh4 : ((fx c.text).ho != fr) = true := by rw [bne_iff_ne]; exact hn
  clear hn
  have hL2 : decide (0 < L) = false := decide_eq_false hL
  have hL3 : decide (L > 0) = false := decide_eq_false hL
  clear hL
  have hE2 : ((fx c.text).ep == big) = false := by rw [beq_eq_false_iff_ne]; exact hE
  have hE3 : (fx c.text).ep < big := by have := hok.1; omega
  have hwr : IntKind.i64.wrap ((fx c.text).ep + 1) = (fx c.text).ep + 1 := by
    have := hok.1.1
    simp only [big] at hE3
    simp [IntKind.wrap, IntKind.bits, IntKind.signed]; omega
  have hw64 : wrap64 ((fx c.text).ep + 1) = (fx c.text).ep + 1 := by
    have := hok.1.1
    simp only [big] at hE3
    unfold wrap64; omega
  have HPut := Lib.hid (fun (w' : World) (h : RX w' rB LB n d vB kB a b c (fx c.text) L W) => rput_any w' h ⟨(fx c.text).ep + 1, fr, (fx c.text).ma, 0⟩ ⟨by simp only; have := hok.1; omega, by simp only; omega, hok.2.2.1, by simp [big]⟩)
  unfold RW at HPut
  rw [hp] at HPut
  generalize M.puD n d a b c (fxT ⟨(fx c.text).ep + 1, fr, (fx c.text).ma, 0⟩) = D at *
  generalize M.puC n d a b c (fxT ⟨(fx c.text).ep + 1, fr, (fx c.text).ma, 0⟩) = C2 at *
  clear hE hE3 hp
  have hX2 : ∃ x2, fx C2.text = x2 := ⟨_, rfl⟩
  obtain ⟨x2, hX2⟩ := hX2
  rw [hX2] at HPut
  rw [hX2]
  clear hX2
  clear h
  obtain ⟨ok1, ok2, ok3, ok4⟩ := hok
  generalize fx c.text = x at *
  obtain ⟨ep, ho, ma, ch⟩ := x
  obtain ⟨kind, epoch, seq, nn, block, client, e0, t0, t1, t2, t3, data, row⟩ := m
  simp only [msgV, Mg.cells, big] at *
  go_enter Tryz.func37, Tryz.ntmps37
  go_upto_region 1 with fail
  generalize w.alloc (.cells #[.int .i64 kind, .int .i64 epoch, .int .i64 seq, .int .i64 nn, .int .i64 block, .int .i64 client, .int .i64 e0, .int .i64 t0, .int .i64 t1, .int .i64 t2, .int .i64 t3, .string data, .string row] 37) = W1 at *
  generalize w.heap.size = GS at *
  have q1 := S0.out.q1
  have q2 := S0.out.q2
  have q3 := S0.out.q3
  have q4 := S0.out.q4
  have q5 := S0.out.q5
  have q6 := S0.out.q6
  have y1 := HM0.out.cell 1
  have y2 := HM0.out.cell 2
  simp only at q1 q2 q3 q4
  simp only [List.getElem?_toArray, List.getElem?_cons_zero, List.getElem?_cons_succ] at y1 y2
  go_upto_region 3 with (go_at_call 39; with_reducible refine (HIn.out _).mono ?_; rintro e wi ⟨rfl, rfl⟩)
  go_quiet (fail)
  generalize hWq : W1.drewN nq = W2 at *
  have hbq : Below W1.heap.size W1 W2 := by rw [← hWq]; exact below_drewN _ _ _
  clear hWq
  have S2 := Lib.hid (S0.out.below hbq)
  have B2 := Lib.hid (B0.out.trans ((But.of_below hbq).mono (by simp)))
  have HM2 := Lib.hid (HM0.out.below hbq HM0.out.lt)
  clear q1 q2 q3 q4 q5 q6 y1 y2 hbq
  have q1 := S2.out.q1
  have q2 := S2.out.q2
  have q3 := S2.out.q3
  have q4 := S2.out.q4
  have q5 := S2.out.q5
  have q6 := S2.out.q6
  simp only at q1 q2 q3 q4
  go_upto_region 10 with fail
  go_still_tail 11, (by kernel_rfl)
  change wpList _ _ _ _ _ W2.drew
  have S3 := Lib.hid (S2.out.below (Below.refl _ _).drew)
  have B3 := Lib.hid (B2.out.trans ((But.of_below (Below.refl W2.heap.size W2).drew).mono (by simp)))
  clear q1 q2 q3 q4 q5 q6
  generalize W2.drew = W3 at *
  go_wp2_with (first
    | (go_at_call 40; with_reducible refine (HPut.out _ S3.out).mono ?_; rintro e5 w5 ⟨rfl, hs5, hb5⟩
       have S5 := Lib.hid hs5
       have B5 := Lib.hid (B3.out.trans hb5)
       have q5 := hs5.q5
       have q6 := hs5.q6
       have f5 := hs5.fz 5
       clear hs5 hb5))
  go_ret
  exact ⟨rfl, S5.out.setL (by omega), B5.out.trans (S5.out.set_but 5 _)⟩


set_option maxHeartbeats 4000000 in
theorem rask_putD1 (w : World) {vB kB a b : Nat} {c : M.Cl} {L W : Int} (h : RW w rB LB n d vB kB a b c L W) (fr : Int) (hf : 0 ≤ fr ∧ fr ≤ 1) (m : Mg) (hA : inM (fx c.text).ma fr = true) (hn : (fx c.text).ho ≠ fr) (hL : ¬ 0 < L) (hE : (fx c.text).ep ≠ big) (hp : M.puE n d a b c (fxT ⟨(fx c.text).ep + 1, fr, (fx c.text).ma, 0⟩) ≠ 0) :
    Calls Tryz.prog 37 #[.pointer (some ⟨vB, 0, none⟩), .int .i64 fr, msgV m] w fun e w' => e = .returned (.int .i64 (M.puE n d a b c (fxT ⟨(fx c.text).ep + 1, fr, (fx c.text).ma, 0⟩))) ∧ RW w' rB LB n (M.puD n d a b c (fxT ⟨(fx c.text).ep + 1, fr, (fx c.text).ma, 0⟩)) vB kB a b (M.puC n d a b c (fxT ⟨(fx c.text).ep + 1, fr, (fx c.text).ma, 0⟩)) L W ∧ But (theirs rB LB kB vB) w w' := by

  unfold RW
  have hok := fx_ok c.text
  have S0 : Hid (RX (w.alloc (.cells m.cells 37)) rB LB n d vB kB a b c (fx c.text) L W) := Lib.hid (RX.below h ((Below.refl _ _).alloc (Nat.le_refl _) _))
  have B0 : Hid (But (theirs rB LB kB vB) w (w.alloc (.cells m.cells 37))) := Lib.hid ((But.of_below ((Below.refl w.heap.size w).alloc (Nat.le_refl _) _)).mono (by simp))
  have HM0 := Lib.hid (Bo.new w m.cells 37)
  have hww := h.wt
  have hlw := h.lf
  have HIn := Lib.hid (fun w' => rin_any w' (fr := fr) hok.2.2.1)
  rw [hA] at HIn
  clear hA
  have hh1 : ((fx c.text).ho == fr) = false := by rw [beq_eq_false_iff_ne]; exact hn
  have hh4 : ((fx c.text).ho != fr) = true := by rw [bne_iff_ne]; exact hn
  clear hn
  have hL2 : decide (0 < L) = false := decide_eq_false hL
  have hL3 : decide (L > 0) = false := decide_eq_false hL
  clear hL
  have hE2 : ((fx c.text).ep == big) = false := by rw [beq_eq_false_iff_ne]; exact hE
  have hE3 : (fx c.text).ep < big := by have := hok.1; omega
  have hwr : IntKind.i64.wrap ((fx c.text).ep + 1) = (fx c.text).ep + 1 := by
    have := hok.1.1
    simp only [big] at hE3
    simp [IntKind.wrap, IntKind.bits, IntKind.signed]; omega
  have hw64 : wrap64 ((fx c.text).ep + 1) = (fx c.text).ep + 1 := by
    have := hok.1.1
    simp only [big] at hE3
    unfold wrap64; omega
  have HPut := Lib.hid (fun (w' : World) (h : RX w' rB LB n d vB kB a b c (fx c.text) L W) => rput_any w' h ⟨(fx c.text).ep + 1, fr, (fx c.text).ma, 0⟩ ⟨by simp only; have := hok.1; omega, by simp only; omega, hok.2.2.1, by simp [big]⟩)
  unfold RW at HPut
  have hp2 : (M.puE n d a b c (fxT ⟨(fx c.text).ep + 1, fr, (fx c.text).ma, 0⟩) == 0) = false := by rw [beq_eq_false_iff_ne]; exact hp
  generalize M.puE n d a b c (fxT ⟨(fx c.text).ep + 1, fr, (fx c.text).ma, 0⟩) = E at *
  generalize M.puD n d a b c (fxT ⟨(fx c.text).ep + 1, fr, (fx c.text).ma, 0⟩) = D at *
  generalize M.puC n d a b c (fxT ⟨(fx c.text).ep + 1, fr, (fx c.text).ma, 0⟩) = C2 at *
  clear hE hE3 hp
  have hX2 : ∃ x2, fx C2.text = x2 := ⟨_, rfl⟩
  obtain ⟨x2, hX2⟩ := hX2
  rw [hX2] at HPut
  rw [hX2]
  clear hX2
  clear h
  obtain ⟨ok1, ok2, ok3, ok4⟩ := hok
  generalize fx c.text = x at *
  obtain ⟨ep, ho, ma, ch⟩ := x
  obtain ⟨kind, epoch, seq, nn, block, client, e0, t0, t1, t2, t3, data, row⟩ := m
  simp only [msgV, Mg.cells, big] at *
  go_enter Tryz.func37, Tryz.ntmps37
  go_upto_region 1 with fail
  generalize w.alloc (.cells #[.int .i64 kind, .int .i64 epoch, .int .i64 seq, .int .i64 nn, .int .i64 block, .int .i64 client, .int .i64 e0, .int .i64 t0, .int .i64 t1, .int .i64 t2, .int .i64 t3, .string data, .string row] 37) = W1 at *
  generalize w.heap.size = GS at *
  have q1 := S0.out.q1
  have q2 := S0.out.q2
  have q3 := S0.out.q3
  have q4 := S0.out.q4
  have q5 := S0.out.q5
  have q6 := S0.out.q6
  have y1 := HM0.out.cell 1
  have y2 := HM0.out.cell 2
  simp only at q1 q2 q3 q4
  simp only [List.getElem?_toArray, List.getElem?_cons_zero, List.getElem?_cons_succ] at y1 y2
  go_upto_region 3 with (go_at_call 39; with_reducible refine (HIn.out _).mono ?_; rintro e wi ⟨rfl, rfl⟩)
  go_quiet (fail)
  generalize hWq : W1.drewN nq = W2 at *
  have hbq : Below W1.heap.size W1 W2 := by rw [← hWq]; exact below_drewN _ _ _
  clear hWq
  have S2 := Lib.hid (S0.out.below hbq)
  have B2 := Lib.hid (B0.out.trans ((But.of_below hbq).mono (by simp)))
  have HM2 := Lib.hid (HM0.out.below hbq HM0.out.lt)
  clear q1 q2 q3 q4 q5 q6 y1 y2 hbq
  have q1 := S2.out.q1
  have q2 := S2.out.q2
  have q3 := S2.out.q3
  have q4 := S2.out.q4
  have q5 := S2.out.q5
  have q6 := S2.out.q6
  simp only at q1 q2 q3 q4
  go_upto_region 10 with fail
  go_still_tail 11, (by kernel_rfl)
  change wpList _ _ _ _ _ W2.drew
  have S3 := Lib.hid (S2.out.below (Below.refl _ _).drew)
  have B3 := Lib.hid (B2.out.trans ((But.of_below (Below.refl W2.heap.size W2).drew).mono (by simp)))
  clear q1 q2 q3 q4 q5 q6
  generalize W2.drew = W3 at *
  go_wp2_with (first
    | (go_at_call 40; with_reducible refine (HPut.out _ S3.out).mono ?_; rintro e5 w5 ⟨rfl, hs5, hb5⟩
       have S5 := Lib.hid hs5
       have B5 := Lib.hid (B3.out.trans hb5)
       have q5 := hs5.q5
       have q6 := hs5.q6
       have f5 := hs5.fz 5
       clear hs5 hb5))
  go_ret
  exact ⟨rfl, S5.out, B5.out⟩


set_option maxHeartbeats 4000000 in
theorem rask_fullE (w : World) {vB kB a b : Nat} {c : M.Cl} {L W : Int} (h : RW w rB LB n d vB kB a b c L W) (fr : Int) (hf : 0 ≤ fr ∧ fr ≤ 1) (m : Mg) (hA : inM (fx c.text).ma fr = true) (hn : (fx c.text).ho = fr) (hq : m.seq ≠ 0) (hE : (fx c.text).ep = big) :
    Calls Tryz.prog 37 #[.pointer (some ⟨vB, 0, none⟩), .int .i64 fr, msgV m] w fun e w' => e = .returned (.int .i64 22) ∧ RW w' rB LB n d vB kB a b c L W ∧ But (theirs rB LB kB vB) w w' := by

  unfold RW
  have hok := fx_ok c.text
  have S0 : Hid (RX (w.alloc (.cells m.cells 37)) rB LB n d vB kB a b c (fx c.text) L W) := Lib.hid (RX.below h ((Below.refl _ _).alloc (Nat.le_refl _) _))
  have B0 : Hid (But (theirs rB LB kB vB) w (w.alloc (.cells m.cells 37))) := Lib.hid ((But.of_below ((Below.refl w.heap.size w).alloc (Nat.le_refl _) _)).mono (by simp))
  have HM0 := Lib.hid (Bo.new w m.cells 37)
  have hww := h.wt
  have hlw := h.lf
  have HIn := Lib.hid (fun w' => rin_any w' (fr := fr) hok.2.2.1)
  rw [hA] at HIn
  clear hA
  have hh1 : ((fx c.text).ho == fr) = true := by simpa using hn
  have hh4 : ((fx c.text).ho != fr) = false := by simpa using hn
  have hh2 : (m.seq == 0) = false := by rw [beq_eq_false_iff_ne]; exact hq
  clear hn hq
  have hE2 : ((fx c.text).ep == big) = true := by simpa using hE
  clear hE
  clear h
  obtain ⟨ok1, ok2, ok3, ok4⟩ := hok
  generalize fx c.text = x at *
  obtain ⟨ep, ho, ma, ch⟩ := x
  obtain ⟨kind, epoch, seq, nn, block, client, e0, t0, t1, t2, t3, data, row⟩ := m
  simp only [msgV, Mg.cells, big] at *
  go_enter Tryz.func37, Tryz.ntmps37
  go_upto_region 1 with fail
  generalize w.alloc (.cells #[.int .i64 kind, .int .i64 epoch, .int .i64 seq, .int .i64 nn, .int .i64 block, .int .i64 client, .int .i64 e0, .int .i64 t0, .int .i64 t1, .int .i64 t2, .int .i64 t3, .string data, .string row] 37) = W1 at *
  generalize w.heap.size = GS at *
  have q1 := S0.out.q1
  have q2 := S0.out.q2
  have q3 := S0.out.q3
  have q4 := S0.out.q4
  have q5 := S0.out.q5
  have q6 := S0.out.q6
  have y1 := HM0.out.cell 1
  have y2 := HM0.out.cell 2
  simp only at q1 q2 q3 q4
  simp only [List.getElem?_toArray, List.getElem?_cons_zero, List.getElem?_cons_succ] at y1 y2
  go_upto_region 3 with (go_at_call 39; with_reducible refine (HIn.out _).mono ?_; rintro e wi ⟨rfl, rfl⟩)
  go_quiet (fail)
  generalize hWq : W1.drewN nq = W2 at *
  have hbq : Below W1.heap.size W1 W2 := by rw [← hWq]; exact below_drewN _ _ _
  clear hWq
  have S2 := Lib.hid (S0.out.below hbq)
  have B2 := Lib.hid (B0.out.trans ((But.of_below hbq).mono (by simp)))
  have HM2 := Lib.hid (HM0.out.below hbq HM0.out.lt)
  clear q1 q2 q3 q4 q5 q6 y1 y2 hbq
  have q1 := S2.out.q1
  have q2 := S2.out.q2
  have q3 := S2.out.q3
  have q4 := S2.out.q4
  have q5 := S2.out.q5
  have q6 := S2.out.q6
  simp only at q1 q2 q3 q4
  go_wp2
  go_ret
  exact ⟨rfl, S2.out, B2.out⟩


set_option maxHeartbeats 4000000 in
theorem rask_putE0 (w : World) {vB kB a b : Nat} {c : M.Cl} {L W : Int} (h : RW w rB LB n d vB kB a b c L W) (fr : Int) (hf : 0 ≤ fr ∧ fr ≤ 1) (m : Mg) (hA : inM (fx c.text).ma fr = true) (hn : (fx c.text).ho = fr) (hq : m.seq ≠ 0) (hE : (fx c.text).ep ≠ big) (hp : M.puE n d a b c (fxT ⟨(fx c.text).ep + 1, fr, (fx c.text).ma, 0⟩) = 0) :
    Calls Tryz.prog 37 #[.pointer (some ⟨vB, 0, none⟩), .int .i64 fr, msgV m] w fun e w' => e = .returned (.int .i64 0) ∧ RW w' rB LB n (M.puD n d a b c (fxT ⟨(fx c.text).ep + 1, fr, (fx c.text).ma, 0⟩)) vB kB a b (M.puC n d a b c (fxT ⟨(fx c.text).ep + 1, fr, (fx c.text).ma, 0⟩)) W W ∧ But (theirs rB LB kB vB) w w' := by

  unfold RW
  have hok := fx_ok c.text
  have S0 : Hid (RX (w.alloc (.cells m.cells 37)) rB LB n d vB kB a b c (fx c.text) L W) := Lib.hid (RX.below h ((Below.refl _ _).alloc (Nat.le_refl _) _))
  have B0 : Hid (But (theirs rB LB kB vB) w (w.alloc (.cells m.cells 37))) := Lib.hid ((But.of_below ((Below.refl w.heap.size w).alloc (Nat.le_refl _) _)).mono (by simp))
  have HM0 := Lib.hid (Bo.new w m.cells 37)
  have hww := h.wt
  have hlw := h.lf
  have HIn := Lib.hid (fun w' => rin_any w' (fr := fr) hok.2.2.1)
  rw [hA] at HIn
  clear hA
  have hh1 : ((fx c.text).ho == fr) = true := by simpa using hn
  have hh4 : ((fx c.text).ho != fr) = false := by simpa using hn
  have hh2 : (m.seq == 0) = false := by rw [beq_eq_false_iff_ne]; exact hq
  clear hn hq
  have hE2 : ((fx c.text).ep == big) = false := by rw [beq_eq_false_iff_ne]; exact hE
  have hE3 : (fx c.text).ep < big := by have := hok.1; omega
  have hwr : IntKind.i64.wrap ((fx c.text).ep + 1) = (fx c.text).ep + 1 := by
    have := hok.1.1
    simp only [big] at hE3
    simp [IntKind.wrap, IntKind.bits, IntKind.signed]; omega
  have hw64 : wrap64 ((fx c.text).ep + 1) = (fx c.text).ep + 1 := by
    have := hok.1.1
    simp only [big] at hE3
    unfold wrap64; omega
  have HPut := Lib.hid (fun (w' : World) (h : RX w' rB LB n d vB kB a b c (fx c.text) L W) => rput_any w' h ⟨(fx c.text).ep + 1, fr, (fx c.text).ma, 0⟩ ⟨by simp only; have := hok.1; omega, by simp only; omega, hok.2.2.1, by simp [big]⟩)
  unfold RW at HPut
  rw [hp] at HPut
  generalize M.puD n d a b c (fxT ⟨(fx c.text).ep + 1, fr, (fx c.text).ma, 0⟩) = D at *
  generalize M.puC n d a b c (fxT ⟨(fx c.text).ep + 1, fr, (fx c.text).ma, 0⟩) = C2 at *
  clear hE hE3 hp
  have hX2 : ∃ x2, fx C2.text = x2 := ⟨_, rfl⟩
  obtain ⟨x2, hX2⟩ := hX2
  rw [hX2] at HPut
  rw [hX2]
  clear hX2
  clear h
  obtain ⟨ok1, ok2, ok3, ok4⟩ := hok
  generalize fx c.text = x at *
  obtain ⟨ep, ho, ma, ch⟩ := x
  obtain ⟨kind, epoch, seq, nn, block, client, e0, t0, t1, t2, t3, data, row⟩ := m
  simp only [msgV, Mg.cells, big] at *
  go_enter Tryz.func37, Tryz.ntmps37
  go_upto_region 1 with fail
  generalize w.alloc (.cells #[.int .i64 kind, .int .i64 epoch, .int .i64 seq, .int .i64 nn, .int .i64 block, .int .i64 client, .int .i64 e0, .int .i64 t0, .int .i64 t1, .int .i64 t2, .int .i64 t3, .string data, .string row] 37) = W1 at *
  generalize w.heap.size = GS at *
  have q1 := S0.out.q1
  have q2 := S0.out.q2
  have q3 := S0.out.q3
  have q4 := S0.out.q4
  have q5 := S0.out.q5
  have q6 := S0.out.q6
  have y1 := HM0.out.cell 1
  have y2 := HM0.out.cell 2
  simp only at q1 q2 q3 q4
  simp only [List.getElem?_toArray, List.getElem?_cons_zero, List.getElem?_cons_succ] at y1 y2
  go_upto_region 3 with (go_at_call 39; with_reducible refine (HIn.out _).mono ?_; rintro e wi ⟨rfl, rfl⟩)
  go_quiet (fail)
  generalize hWq : W1.drewN nq = W2 at *
  have hbq : Below W1.heap.size W1 W2 := by rw [← hWq]; exact below_drewN _ _ _
  clear hWq
  have S2 := Lib.hid (S0.out.below hbq)
  have B2 := Lib.hid (B0.out.trans ((But.of_below hbq).mono (by simp)))
  have HM2 := Lib.hid (HM0.out.below hbq HM0.out.lt)
  clear q1 q2 q3 q4 q5 q6 y1 y2 hbq
  have q1 := S2.out.q1
  have q2 := S2.out.q2
  have q3 := S2.out.q3
  have q4 := S2.out.q4
  have q5 := S2.out.q5
  have q6 := S2.out.q6
  simp only at q1 q2 q3 q4
  go_upto_region 10 with fail
  go_still_tail 11, (by kernel_rfl)
  change wpList _ _ _ _ _ W2.drew
  have S3 := Lib.hid (S2.out.below (Below.refl _ _).drew)
  have B3 := Lib.hid (B2.out.trans ((But.of_below (Below.refl W2.heap.size W2).drew).mono (by simp)))
  clear q1 q2 q3 q4 q5 q6
  generalize W2.drew = W3 at *
  go_wp2_with (first
    | (go_at_call 40; with_reducible refine (HPut.out _ S3.out).mono ?_; rintro e5 w5 ⟨rfl, hs5, hb5⟩
       have S5 := Lib.hid hs5
       have B5 := Lib.hid (B3.out.trans hb5)
       have q5 := hs5.q5
       have q6 := hs5.q6
       have f5 := hs5.fz 5
       clear hs5 hb5))
  go_ret
  exact ⟨rfl, S5.out.setL (by omega), B5.out.trans (S5.out.set_but 5 _)⟩


set_option maxHeartbeats 4000000 in
theorem rask_putE1 (w : World) {vB kB a b : Nat} {c : M.Cl} {L W : Int} (h : RW w rB LB n d vB kB a b c L W) (fr : Int) (hf : 0 ≤ fr ∧ fr ≤ 1) (m : Mg) (hA : inM (fx c.text).ma fr = true) (hn : (fx c.text).ho = fr) (hq : m.seq ≠ 0) (hE : (fx c.text).ep ≠ big) (hp : M.puE n d a b c (fxT ⟨(fx c.text).ep + 1, fr, (fx c.text).ma, 0⟩) ≠ 0) :
    Calls Tryz.prog 37 #[.pointer (some ⟨vB, 0, none⟩), .int .i64 fr, msgV m] w fun e w' => e = .returned (.int .i64 (M.puE n d a b c (fxT ⟨(fx c.text).ep + 1, fr, (fx c.text).ma, 0⟩))) ∧ RW w' rB LB n (M.puD n d a b c (fxT ⟨(fx c.text).ep + 1, fr, (fx c.text).ma, 0⟩)) vB kB a b (M.puC n d a b c (fxT ⟨(fx c.text).ep + 1, fr, (fx c.text).ma, 0⟩)) L W ∧ But (theirs rB LB kB vB) w w' := by

  unfold RW
  have hok := fx_ok c.text
  have S0 : Hid (RX (w.alloc (.cells m.cells 37)) rB LB n d vB kB a b c (fx c.text) L W) := Lib.hid (RX.below h ((Below.refl _ _).alloc (Nat.le_refl _) _))
  have B0 : Hid (But (theirs rB LB kB vB) w (w.alloc (.cells m.cells 37))) := Lib.hid ((But.of_below ((Below.refl w.heap.size w).alloc (Nat.le_refl _) _)).mono (by simp))
  have HM0 := Lib.hid (Bo.new w m.cells 37)
  have hww := h.wt
  have hlw := h.lf
  have HIn := Lib.hid (fun w' => rin_any w' (fr := fr) hok.2.2.1)
  rw [hA] at HIn
  clear hA
  have hh1 : ((fx c.text).ho == fr) = true := by simpa using hn
  have hh4 : ((fx c.text).ho != fr) = false := by simpa using hn
  have hh2 : (m.seq == 0) = false := by rw [beq_eq_false_iff_ne]; exact hq
  clear hn hq
  have hE2 : ((fx c.text).ep == big) = false := by rw [beq_eq_false_iff_ne]; exact hE
  have hE3 : (fx c.text).ep < big := by have := hok.1; omega
  have hwr : IntKind.i64.wrap ((fx c.text).ep + 1) = (fx c.text).ep + 1 := by
    have := hok.1.1
    simp only [big] at hE3
    simp [IntKind.wrap, IntKind.bits, IntKind.signed]; omega
  have hw64 : wrap64 ((fx c.text).ep + 1) = (fx c.text).ep + 1 := by
    have := hok.1.1
    simp only [big] at hE3
    unfold wrap64; omega
  have HPut := Lib.hid (fun (w' : World) (h : RX w' rB LB n d vB kB a b c (fx c.text) L W) => rput_any w' h ⟨(fx c.text).ep + 1, fr, (fx c.text).ma, 0⟩ ⟨by simp only; have := hok.1; omega, by simp only; omega, hok.2.2.1, by simp [big]⟩)
  unfold RW at HPut
  have hp2 : (M.puE n d a b c (fxT ⟨(fx c.text).ep + 1, fr, (fx c.text).ma, 0⟩) == 0) = false := by rw [beq_eq_false_iff_ne]; exact hp
  generalize M.puE n d a b c (fxT ⟨(fx c.text).ep + 1, fr, (fx c.text).ma, 0⟩) = E at *
  generalize M.puD n d a b c (fxT ⟨(fx c.text).ep + 1, fr, (fx c.text).ma, 0⟩) = D at *
  generalize M.puC n d a b c (fxT ⟨(fx c.text).ep + 1, fr, (fx c.text).ma, 0⟩) = C2 at *
  clear hE hE3 hp
  have hX2 : ∃ x2, fx C2.text = x2 := ⟨_, rfl⟩
  obtain ⟨x2, hX2⟩ := hX2
  rw [hX2] at HPut
  rw [hX2]
  clear hX2
  clear h
  obtain ⟨ok1, ok2, ok3, ok4⟩ := hok
  generalize fx c.text = x at *
  obtain ⟨ep, ho, ma, ch⟩ := x
  obtain ⟨kind, epoch, seq, nn, block, client, e0, t0, t1, t2, t3, data, row⟩ := m
  simp only [msgV, Mg.cells, big] at *
  go_enter Tryz.func37, Tryz.ntmps37
  go_upto_region 1 with fail
  generalize w.alloc (.cells #[.int .i64 kind, .int .i64 epoch, .int .i64 seq, .int .i64 nn, .int .i64 block, .int .i64 client, .int .i64 e0, .int .i64 t0, .int .i64 t1, .int .i64 t2, .int .i64 t3, .string data, .string row] 37) = W1 at *
  generalize w.heap.size = GS at *
  have q1 := S0.out.q1
  have q2 := S0.out.q2
  have q3 := S0.out.q3
  have q4 := S0.out.q4
  have q5 := S0.out.q5
  have q6 := S0.out.q6
  have y1 := HM0.out.cell 1
  have y2 := HM0.out.cell 2
  simp only at q1 q2 q3 q4
  simp only [List.getElem?_toArray, List.getElem?_cons_zero, List.getElem?_cons_succ] at y1 y2
  go_upto_region 3 with (go_at_call 39; with_reducible refine (HIn.out _).mono ?_; rintro e wi ⟨rfl, rfl⟩)
  go_quiet (fail)
  generalize hWq : W1.drewN nq = W2 at *
  have hbq : Below W1.heap.size W1 W2 := by rw [← hWq]; exact below_drewN _ _ _
  clear hWq
  have S2 := Lib.hid (S0.out.below hbq)
  have B2 := Lib.hid (B0.out.trans ((But.of_below hbq).mono (by simp)))
  have HM2 := Lib.hid (HM0.out.below hbq HM0.out.lt)
  clear q1 q2 q3 q4 q5 q6 y1 y2 hbq
  have q1 := S2.out.q1
  have q2 := S2.out.q2
  have q3 := S2.out.q3
  have q4 := S2.out.q4
  have q5 := S2.out.q5
  have q6 := S2.out.q6
  simp only at q1 q2 q3 q4
  go_upto_region 10 with fail
  go_still_tail 11, (by kernel_rfl)
  change wpList _ _ _ _ _ W2.drew
  have S3 := Lib.hid (S2.out.below (Below.refl _ _).drew)
  have B3 := Lib.hid (B2.out.trans ((But.of_below (Below.refl W2.heap.size W2).drew).mono (by simp)))
  clear q1 q2 q3 q4 q5 q6
  generalize W2.drew = W3 at *
  go_wp2_with (first
    | (go_at_call 40; with_reducible refine (HPut.out _ S3.out).mono ?_; rintro e5 w5 ⟨rfl, hs5, hb5⟩
       have S5 := Lib.hid hs5
       have B5 := Lib.hid (B3.out.trans hb5)
       have q5 := hs5.q5
       have q6 := hs5.q6
       have f5 := hs5.fz 5
       clear hs5 hb5))
  go_ret
  exact ⟨rfl, S5.out, B5.out⟩


set_option maxHeartbeats 4000000 in
theorem rask_fullF (w : World) {vB kB a b : Nat} {c : M.Cl} {L W : Int} (h : RW w rB LB n d vB kB a b c L W) (fr : Int) (hf : 0 ≤ fr ∧ fr ≤ 1) (m : Mg) (hA : inM (fx c.text).ma fr = true) (hn : (fx c.text).ho = fr) (hq : m.seq = 0) (he : m.epoch ≠ (fx c.text).ep) (hE : (fx c.text).ep = big) :
    Calls Tryz.prog 37 #[.pointer (some ⟨vB, 0, none⟩), .int .i64 fr, msgV m] w fun e w' => e = .returned (.int .i64 22) ∧ RW w' rB LB n d vB kB a b c L W ∧ But (theirs rB LB kB vB) w w' := by

  unfold RW
  have hok := fx_ok c.text
  have S0 : Hid (RX (w.alloc (.cells m.cells 37)) rB LB n d vB kB a b c (fx c.text) L W) := Lib.hid (RX.below h ((Below.refl _ _).alloc (Nat.le_refl _) _))
  have B0 : Hid (But (theirs rB LB kB vB) w (w.alloc (.cells m.cells 37))) := Lib.hid ((But.of_below ((Below.refl w.heap.size w).alloc (Nat.le_refl _) _)).mono (by simp))
  have HM0 := Lib.hid (Bo.new w m.cells 37)
  have hww := h.wt
  have hlw := h.lf
  have HIn := Lib.hid (fun w' => rin_any w' (fr := fr) hok.2.2.1)
  rw [hA] at HIn
  clear hA
  have hh1 : ((fx c.text).ho == fr) = true := by simpa using hn
  have hh4 : ((fx c.text).ho != fr) = false := by simpa using hn
  have hh2 : (m.seq == 0) = true := by simpa using hq
  have hh3 : (m.epoch == (fx c.text).ep) = false := by rw [beq_eq_false_iff_ne]; exact he
  clear hn hq he
  have hE2 : ((fx c.text).ep == big) = true := by simpa using hE
  clear hE
  clear h
  obtain ⟨ok1, ok2, ok3, ok4⟩ := hok
  generalize fx c.text = x at *
  obtain ⟨ep, ho, ma, ch⟩ := x
  obtain ⟨kind, epoch, seq, nn, block, client, e0, t0, t1, t2, t3, data, row⟩ := m
  simp only [msgV, Mg.cells, big] at *
  go_enter Tryz.func37, Tryz.ntmps37
  go_upto_region 1 with fail
  generalize w.alloc (.cells #[.int .i64 kind, .int .i64 epoch, .int .i64 seq, .int .i64 nn, .int .i64 block, .int .i64 client, .int .i64 e0, .int .i64 t0, .int .i64 t1, .int .i64 t2, .int .i64 t3, .string data, .string row] 37) = W1 at *
  generalize w.heap.size = GS at *
  have q1 := S0.out.q1
  have q2 := S0.out.q2
  have q3 := S0.out.q3
  have q4 := S0.out.q4
  have q5 := S0.out.q5
  have q6 := S0.out.q6
  have y1 := HM0.out.cell 1
  have y2 := HM0.out.cell 2
  simp only at q1 q2 q3 q4
  simp only [List.getElem?_toArray, List.getElem?_cons_zero, List.getElem?_cons_succ] at y1 y2
  go_upto_region 3 with (go_at_call 39; with_reducible refine (HIn.out _).mono ?_; rintro e wi ⟨rfl, rfl⟩)
  go_quiet (fail)
  generalize hWq : W1.drewN nq = W2 at *
  have hbq : Below W1.heap.size W1 W2 := by rw [← hWq]; exact below_drewN _ _ _
  clear hWq
  have S2 := Lib.hid (S0.out.below hbq)
  have B2 := Lib.hid (B0.out.trans ((But.of_below hbq).mono (by simp)))
  have HM2 := Lib.hid (HM0.out.below hbq HM0.out.lt)
  clear q1 q2 q3 q4 q5 q6 y1 y2 hbq
  have q1 := S2.out.q1
  have q2 := S2.out.q2
  have q3 := S2.out.q3
  have q4 := S2.out.q4
  have q5 := S2.out.q5
  have q6 := S2.out.q6
  simp only at q1 q2 q3 q4
  go_wp2
  go_ret
  exact ⟨rfl, S2.out, B2.out⟩


set_option maxHeartbeats 4000000 in
theorem rask_putF0 (w : World) {vB kB a b : Nat} {c : M.Cl} {L W : Int} (h : RW w rB LB n d vB kB a b c L W) (fr : Int) (hf : 0 ≤ fr ∧ fr ≤ 1) (m : Mg) (hA : inM (fx c.text).ma fr = true) (hn : (fx c.text).ho = fr) (hq : m.seq = 0) (he : m.epoch ≠ (fx c.text).ep) (hE : (fx c.text).ep ≠ big) (hp : M.puE n d a b c (fxT ⟨(fx c.text).ep + 1, fr, (fx c.text).ma, 0⟩) = 0) :
    Calls Tryz.prog 37 #[.pointer (some ⟨vB, 0, none⟩), .int .i64 fr, msgV m] w fun e w' => e = .returned (.int .i64 0) ∧ RW w' rB LB n (M.puD n d a b c (fxT ⟨(fx c.text).ep + 1, fr, (fx c.text).ma, 0⟩)) vB kB a b (M.puC n d a b c (fxT ⟨(fx c.text).ep + 1, fr, (fx c.text).ma, 0⟩)) W W ∧ But (theirs rB LB kB vB) w w' := by

  unfold RW
  have hok := fx_ok c.text
  have S0 : Hid (RX (w.alloc (.cells m.cells 37)) rB LB n d vB kB a b c (fx c.text) L W) := Lib.hid (RX.below h ((Below.refl _ _).alloc (Nat.le_refl _) _))
  have B0 : Hid (But (theirs rB LB kB vB) w (w.alloc (.cells m.cells 37))) := Lib.hid ((But.of_below ((Below.refl w.heap.size w).alloc (Nat.le_refl _) _)).mono (by simp))
  have HM0 := Lib.hid (Bo.new w m.cells 37)
  have hww := h.wt
  have hlw := h.lf
  have HIn := Lib.hid (fun w' => rin_any w' (fr := fr) hok.2.2.1)
  rw [hA] at HIn
  clear hA
  have hh1 : ((fx c.text).ho == fr) = true := by simpa using hn
  have hh4 : ((fx c.text).ho != fr) = false := by simpa using hn
  have hh2 : (m.seq == 0) = true := by simpa using hq
  have hh3 : (m.epoch == (fx c.text).ep) = false := by rw [beq_eq_false_iff_ne]; exact he
  clear hn hq he
  have hE2 : ((fx c.text).ep == big) = false := by rw [beq_eq_false_iff_ne]; exact hE
  have hE3 : (fx c.text).ep < big := by have := hok.1; omega
  have hwr : IntKind.i64.wrap ((fx c.text).ep + 1) = (fx c.text).ep + 1 := by
    have := hok.1.1
    simp only [big] at hE3
    simp [IntKind.wrap, IntKind.bits, IntKind.signed]; omega
  have hw64 : wrap64 ((fx c.text).ep + 1) = (fx c.text).ep + 1 := by
    have := hok.1.1
    simp only [big] at hE3
    unfold wrap64; omega
  have HPut := Lib.hid (fun (w' : World) (h : RX w' rB LB n d vB kB a b c (fx c.text) L W) => rput_any w' h ⟨(fx c.text).ep + 1, fr, (fx c.text).ma, 0⟩ ⟨by simp only; have := hok.1; omega, by simp only; omega, hok.2.2.1, by simp [big]⟩)
  unfold RW at HPut
  rw [hp] at HPut
  generalize M.puD n d a b c (fxT ⟨(fx c.text).ep + 1, fr, (fx c.text).ma, 0⟩) = D at *
  generalize M.puC n d a b c (fxT ⟨(fx c.text).ep + 1, fr, (fx c.text).ma, 0⟩) = C2 at *
  clear hE hE3 hp
  have hX2 : ∃ x2, fx C2.text = x2 := ⟨_, rfl⟩
  obtain ⟨x2, hX2⟩ := hX2
  rw [hX2] at HPut
  rw [hX2]
  clear hX2
  clear h
  obtain ⟨ok1, ok2, ok3, ok4⟩ := hok
  generalize fx c.text = x at *
  obtain ⟨ep, ho, ma, ch⟩ := x
  obtain ⟨kind, epoch, seq, nn, block, client, e0, t0, t1, t2, t3, data, row⟩ := m
  simp only [msgV, Mg.cells, big] at *
  go_enter Tryz.func37, Tryz.ntmps37
  go_upto_region 1 with fail
  generalize w.alloc (.cells #[.int .i64 kind, .int .i64 epoch, .int .i64 seq, .int .i64 nn, .int .i64 block, .int .i64 client, .int .i64 e0, .int .i64 t0, .int .i64 t1, .int .i64 t2, .int .i64 t3, .string data, .string row] 37) = W1 at *
  generalize w.heap.size = GS at *
  have q1 := S0.out.q1
  have q2 := S0.out.q2
  have q3 := S0.out.q3
  have q4 := S0.out.q4
  have q5 := S0.out.q5
  have q6 := S0.out.q6
  have y1 := HM0.out.cell 1
  have y2 := HM0.out.cell 2
  simp only at q1 q2 q3 q4
  simp only [List.getElem?_toArray, List.getElem?_cons_zero, List.getElem?_cons_succ] at y1 y2
  go_upto_region 3 with (go_at_call 39; with_reducible refine (HIn.out _).mono ?_; rintro e wi ⟨rfl, rfl⟩)
  go_quiet (fail)
  generalize hWq : W1.drewN nq = W2 at *
  have hbq : Below W1.heap.size W1 W2 := by rw [← hWq]; exact below_drewN _ _ _
  clear hWq
  have S2 := Lib.hid (S0.out.below hbq)
  have B2 := Lib.hid (B0.out.trans ((But.of_below hbq).mono (by simp)))
  have HM2 := Lib.hid (HM0.out.below hbq HM0.out.lt)
  clear q1 q2 q3 q4 q5 q6 y1 y2 hbq
  have q1 := S2.out.q1
  have q2 := S2.out.q2
  have q3 := S2.out.q3
  have q4 := S2.out.q4
  have q5 := S2.out.q5
  have q6 := S2.out.q6
  simp only at q1 q2 q3 q4
  go_upto_region 10 with fail
  go_still_tail 11, (by kernel_rfl)
  change wpList _ _ _ _ _ W2.drew
  have S3 := Lib.hid (S2.out.below (Below.refl _ _).drew)
  have B3 := Lib.hid (B2.out.trans ((But.of_below (Below.refl W2.heap.size W2).drew).mono (by simp)))
  clear q1 q2 q3 q4 q5 q6
  generalize W2.drew = W3 at *
  go_wp2_with (first
    | (go_at_call 40; with_reducible refine (HPut.out _ S3.out).mono ?_; rintro e5 w5 ⟨rfl, hs5, hb5⟩
       have S5 := Lib.hid hs5
       have B5 := Lib.hid (B3.out.trans hb5)
       have q5 := hs5.q5
       have q6 := hs5.q6
       have f5 := hs5.fz 5
       clear hs5 hb5))
  go_ret
  exact ⟨rfl, S5.out.setL (by omega), B5.out.trans (S5.out.set_but 5 _)⟩


set_option maxHeartbeats 4000000 in
theorem rask_putF1 (w : World) {vB kB a b : Nat} {c : M.Cl} {L W : Int} (h : RW w rB LB n d vB kB a b c L W) (fr : Int) (hf : 0 ≤ fr ∧ fr ≤ 1) (m : Mg) (hA : inM (fx c.text).ma fr = true) (hn : (fx c.text).ho = fr) (hq : m.seq = 0) (he : m.epoch ≠ (fx c.text).ep) (hE : (fx c.text).ep ≠ big) (hp : M.puE n d a b c (fxT ⟨(fx c.text).ep + 1, fr, (fx c.text).ma, 0⟩) ≠ 0) :
    Calls Tryz.prog 37 #[.pointer (some ⟨vB, 0, none⟩), .int .i64 fr, msgV m] w fun e w' => e = .returned (.int .i64 (M.puE n d a b c (fxT ⟨(fx c.text).ep + 1, fr, (fx c.text).ma, 0⟩))) ∧ RW w' rB LB n (M.puD n d a b c (fxT ⟨(fx c.text).ep + 1, fr, (fx c.text).ma, 0⟩)) vB kB a b (M.puC n d a b c (fxT ⟨(fx c.text).ep + 1, fr, (fx c.text).ma, 0⟩)) L W ∧ But (theirs rB LB kB vB) w w' := by

  unfold RW
  have hok := fx_ok c.text
  have S0 : Hid (RX (w.alloc (.cells m.cells 37)) rB LB n d vB kB a b c (fx c.text) L W) := Lib.hid (RX.below h ((Below.refl _ _).alloc (Nat.le_refl _) _))
  have B0 : Hid (But (theirs rB LB kB vB) w (w.alloc (.cells m.cells 37))) := Lib.hid ((But.of_below ((Below.refl w.heap.size w).alloc (Nat.le_refl _) _)).mono (by simp))
  have HM0 := Lib.hid (Bo.new w m.cells 37)
  have hww := h.wt
  have hlw := h.lf
  have HIn := Lib.hid (fun w' => rin_any w' (fr := fr) hok.2.2.1)
  rw [hA] at HIn
  clear hA
  have hh1 : ((fx c.text).ho == fr) = true := by simpa using hn
  have hh4 : ((fx c.text).ho != fr) = false := by simpa using hn
  have hh2 : (m.seq == 0) = true := by simpa using hq
  have hh3 : (m.epoch == (fx c.text).ep) = false := by rw [beq_eq_false_iff_ne]; exact he
  clear hn hq he
  have hE2 : ((fx c.text).ep == big) = false := by rw [beq_eq_false_iff_ne]; exact hE
  have hE3 : (fx c.text).ep < big := by have := hok.1; omega
  have hwr : IntKind.i64.wrap ((fx c.text).ep + 1) = (fx c.text).ep + 1 := by
    have := hok.1.1
    simp only [big] at hE3
    simp [IntKind.wrap, IntKind.bits, IntKind.signed]; omega
  have hw64 : wrap64 ((fx c.text).ep + 1) = (fx c.text).ep + 1 := by
    have := hok.1.1
    simp only [big] at hE3
    unfold wrap64; omega
  have HPut := Lib.hid (fun (w' : World) (h : RX w' rB LB n d vB kB a b c (fx c.text) L W) => rput_any w' h ⟨(fx c.text).ep + 1, fr, (fx c.text).ma, 0⟩ ⟨by simp only; have := hok.1; omega, by simp only; omega, hok.2.2.1, by simp [big]⟩)
  unfold RW at HPut
  have hp2 : (M.puE n d a b c (fxT ⟨(fx c.text).ep + 1, fr, (fx c.text).ma, 0⟩) == 0) = false := by rw [beq_eq_false_iff_ne]; exact hp
  generalize M.puE n d a b c (fxT ⟨(fx c.text).ep + 1, fr, (fx c.text).ma, 0⟩) = E at *
  generalize M.puD n d a b c (fxT ⟨(fx c.text).ep + 1, fr, (fx c.text).ma, 0⟩) = D at *
  generalize M.puC n d a b c (fxT ⟨(fx c.text).ep + 1, fr, (fx c.text).ma, 0⟩) = C2 at *
  clear hE hE3 hp
  have hX2 : ∃ x2, fx C2.text = x2 := ⟨_, rfl⟩
  obtain ⟨x2, hX2⟩ := hX2
  rw [hX2] at HPut
  rw [hX2]
  clear hX2
  clear h
  obtain ⟨ok1, ok2, ok3, ok4⟩ := hok
  generalize fx c.text = x at *
  obtain ⟨ep, ho, ma, ch⟩ := x
  obtain ⟨kind, epoch, seq, nn, block, client, e0, t0, t1, t2, t3, data, row⟩ := m
  simp only [msgV, Mg.cells, big] at *
  go_enter Tryz.func37, Tryz.ntmps37
  go_upto_region 1 with fail
  generalize w.alloc (.cells #[.int .i64 kind, .int .i64 epoch, .int .i64 seq, .int .i64 nn, .int .i64 block, .int .i64 client, .int .i64 e0, .int .i64 t0, .int .i64 t1, .int .i64 t2, .int .i64 t3, .string data, .string row] 37) = W1 at *
  generalize w.heap.size = GS at *
  have q1 := S0.out.q1
  have q2 := S0.out.q2
  have q3 := S0.out.q3
  have q4 := S0.out.q4
  have q5 := S0.out.q5
  have q6 := S0.out.q6
  have y1 := HM0.out.cell 1
  have y2 := HM0.out.cell 2
  simp only at q1 q2 q3 q4
  simp only [List.getElem?_toArray, List.getElem?_cons_zero, List.getElem?_cons_succ] at y1 y2
  go_upto_region 3 with (go_at_call 39; with_reducible refine (HIn.out _).mono ?_; rintro e wi ⟨rfl, rfl⟩)
  go_quiet (fail)
  generalize hWq : W1.drewN nq = W2 at *
  have hbq : Below W1.heap.size W1 W2 := by rw [← hWq]; exact below_drewN _ _ _
  clear hWq
  have S2 := Lib.hid (S0.out.below hbq)
  have B2 := Lib.hid (B0.out.trans ((But.of_below hbq).mono (by simp)))
  have HM2 := Lib.hid (HM0.out.below hbq HM0.out.lt)
  clear q1 q2 q3 q4 q5 q6 y1 y2 hbq
  have q1 := S2.out.q1
  have q2 := S2.out.q2
  have q3 := S2.out.q3
  have q4 := S2.out.q4
  have q5 := S2.out.q5
  have q6 := S2.out.q6
  simp only at q1 q2 q3 q4
  go_upto_region 10 with fail
  go_still_tail 11, (by kernel_rfl)
  change wpList _ _ _ _ _ W2.drew
  have S3 := Lib.hid (S2.out.below (Below.refl _ _).drew)
  have B3 := Lib.hid (B2.out.trans ((But.of_below (Below.refl W2.heap.size W2).drew).mono (by simp)))
  clear q1 q2 q3 q4 q5 q6
  generalize W2.drew = W3 at *
  go_wp2_with (first
    | (go_at_call 40; with_reducible refine (HPut.out _ S3.out).mono ?_; rintro e5 w5 ⟨rfl, hs5, hb5⟩
       have S5 := Lib.hid hs5
       have B5 := Lib.hid (B3.out.trans hb5)
       have q5 := hs5.q5
       have q6 := hs5.q6
       have f5 := hs5.fz 5
       clear hs5 hb5))
  go_ret
  exact ⟨rfl, S5.out, B5.out⟩

end Go.Proofs.YtpoolpckabpnfaaGreat.Wt
namespace Go.Proofs.YtpoolpckabpnfaaGreat.Wt
open Go.RowKit
open Ml (Mg may msgV MB)
set_option linter.unusedVariables false
set_option linter.unusedSimpArgs false
set_option maxRecDepth 20000

variable {rB LB n : Nat} {d : M.Dv}


set_option maxHeartbeats 4000000 in
theorem rcha_ho (w : World) {vB kB a b : Nat} {c : M.Cl} {L W : Int} (h : RW w rB LB n d vB kB a b c L W) (fr : Int) (hf : 0 ≤ fr ∧ fr ≤ 1) (m : Mg) (hn : (fx c.text).ho ≠ fr) :
    Calls Tryz.prog 38 #[.pointer (some ⟨vB, 0, none⟩), .int .i64 fr, msgV m] w fun e w' => e = .returned (.int .i64 20) ∧ RW w' rB LB n d vB kB a b c L W ∧ But (theirs rB LB kB vB) w w' := by

  unfold RW
  have hok := fx_ok c.text
  have S0 : Hid (RX (w.alloc (.cells m.cells 37)) rB LB n d vB kB a b c (fx c.text) L W) := Lib.hid (RX.below h ((Below.refl _ _).alloc (Nat.le_refl _) _))
  have B0 : Hid (But (theirs rB LB kB vB) w (w.alloc (.cells m.cells 37))) := Lib.hid ((But.of_below ((Below.refl w.heap.size w).alloc (Nat.le_refl _) _)).mono (by simp))
  have HM0 := Lib.hid (Bo.new w m.cells 37)
  have hww := h.wt
  have hlw := h.lf
  have hh1 : ((fx c.text).ho != fr) = true := by rw [bne_iff_ne]; exact hn
  clear hn
  clear h
  obtain ⟨ok1, ok2, ok3, ok4⟩ := hok
  generalize fx c.text = x at *
  obtain ⟨ep, ho, ma, ch⟩ := x
  obtain ⟨kind, epoch, seq, nn, block, client, e0, t0, t1, t2, t3, data, row⟩ := m
  simp only [msgV, Mg.cells, big] at *
  go_enter Tryz.func38, Tryz.ntmps38
  go_upto_region 1 with fail
  generalize w.alloc (.cells #[.int .i64 kind, .int .i64 epoch, .int .i64 seq, .int .i64 nn, .int .i64 block, .int .i64 client, .int .i64 e0, .int .i64 t0, .int .i64 t1, .int .i64 t2, .int .i64 t3, .string data, .string row] 37) = W1 at *
  generalize w.heap.size = GS at *
  have q1 := S0.out.q1
  have q2 := S0.out.q2
  have q3 := S0.out.q3
  have q4 := S0.out.q4
  have q5 := S0.out.q5
  have q6 := S0.out.q6
  have y1 := HM0.out.cell 1
  simp only at q1 q2 q3 q4
  simp only [List.getElem?_toArray, List.getElem?_cons_zero, List.getElem?_cons_succ] at y1
  go_quiet (fail)
  generalize hWq : W1.drewN nq = W2 at *
  have hbq : Below W1.heap.size W1 W2 := by rw [← hWq]; exact below_drewN _ _ _
  clear hWq
  have S2 := Lib.hid (S0.out.below hbq)
  have B2 := Lib.hid (B0.out.trans ((But.of_below hbq).mono (by simp)))
  have HM2 := Lib.hid (HM0.out.below hbq HM0.out.lt)
  clear q1 q2 q3 q4 q5 q6 y1 hbq
  go_wp2
  go_ret
  exact ⟨rfl, S2.out, B2.out⟩


set_option maxHeartbeats 4000000 in
theorem rcha_ep (w : World) {vB kB a b : Nat} {c : M.Cl} {L W : Int} (h : RW w rB LB n d vB kB a b c L W) (fr : Int) (hf : 0 ≤ fr ∧ fr ≤ 1) (m : Mg) (hn : (fx c.text).ho = fr) (he : m.epoch ≠ (fx c.text).ep) :
    Calls Tryz.prog 38 #[.pointer (some ⟨vB, 0, none⟩), .int .i64 fr, msgV m] w fun e w' => e = .returned (.int .i64 20) ∧ RW w' rB LB n d vB kB a b c L W ∧ But (theirs rB LB kB vB) w w' := by

  unfold RW
  have hok := fx_ok c.text
  have S0 : Hid (RX (w.alloc (.cells m.cells 37)) rB LB n d vB kB a b c (fx c.text) L W) := Lib.hid (RX.below h ((Below.refl _ _).alloc (Nat.le_refl _) _))
  have B0 : Hid (But (theirs rB LB kB vB) w (w.alloc (.cells m.cells 37))) := Lib.hid ((But.of_below ((Below.refl w.heap.size w).alloc (Nat.le_refl _) _)).mono (by simp))
  have HM0 := Lib.hid (Bo.new w m.cells 37)
  have hww := h.wt
  have hlw := h.lf
  have hh1 : ((fx c.text).ho != fr) = false := by simpa using hn
  clear hn
  have hh2 : (m.epoch != (fx c.text).ep) = true := by rw [bne_iff_ne]; exact he
  clear he
  clear h
  obtain ⟨ok1, ok2, ok3, ok4⟩ := hok
  generalize fx c.text = x at *
  obtain ⟨ep, ho, ma, ch⟩ := x
  obtain ⟨kind, epoch, seq, nn, block, client, e0, t0, t1, t2, t3, data, row⟩ := m
  simp only [msgV, Mg.cells, big] at *
  go_enter Tryz.func38, Tryz.ntmps38
  go_upto_region 1 with fail
  generalize w.alloc (.cells #[.int .i64 kind, .int .i64 epoch, .int .i64 seq, .int .i64 nn, .int .i64 block, .int .i64 client, .int .i64 e0, .int .i64 t0, .int .i64 t1, .int .i64 t2, .int .i64 t3, .string data, .string row] 37) = W1 at *
  generalize w.heap.size = GS at *
  have q1 := S0.out.q1
  have q2 := S0.out.q2
  have q3 := S0.out.q3
  have q4 := S0.out.q4
  have q5 := S0.out.q5
  have q6 := S0.out.q6
  have y1 := HM0.out.cell 1
  simp only at q1 q2 q3 q4
  simp only [List.getElem?_toArray, List.getElem?_cons_zero, List.getElem?_cons_succ] at y1
  go_quiet (fail)
  generalize hWq : W1.drewN nq = W2 at *
  have hbq : Below W1.heap.size W1 W2 := by rw [← hWq]; exact below_drewN _ _ _
  clear hWq
  have S2 := Lib.hid (S0.out.below hbq)
  have B2 := Lib.hid (B0.out.trans ((But.of_below hbq).mono (by simp)))
  have HM2 := Lib.hid (HM0.out.below hbq HM0.out.lt)
  clear q1 q2 q3 q4 q5 q6 y1 hbq
  go_wp2
  go_ret
  exact ⟨rfl, S2.out, B2.out⟩


set_option maxHeartbeats 4000000 in
theorem rcha_low (w : World) {vB kB a b : Nat} {c : M.Cl} {L W : Int} (h : RW w rB LB n d vB kB a b c L W) (fr : Int) (hf : 0 ≤ fr ∧ fr ≤ 1) (m : Mg) (hn : (fx c.text).ho = fr) (he : m.epoch = (fx c.text).ep) (hs : m.seq < 1) :
    Calls Tryz.prog 38 #[.pointer (some ⟨vB, 0, none⟩), .int .i64 fr, msgV m] w fun e w' => e = .returned (.int .i64 1) ∧ RW w' rB LB n d vB kB a b c L W ∧ But (theirs rB LB kB vB) w w' := by

  unfold RW
  have hok := fx_ok c.text
  have S0 : Hid (RX (w.alloc (.cells m.cells 37)) rB LB n d vB kB a b c (fx c.text) L W) := Lib.hid (RX.below h ((Below.refl _ _).alloc (Nat.le_refl _) _))
  have B0 : Hid (But (theirs rB LB kB vB) w (w.alloc (.cells m.cells 37))) := Lib.hid ((But.of_below ((Below.refl w.heap.size w).alloc (Nat.le_refl _) _)).mono (by simp))
  have HM0 := Lib.hid (Bo.new w m.cells 37)
  have hww := h.wt
  have hlw := h.lf
  have hh1 : ((fx c.text).ho != fr) = false := by simpa using hn
  clear hn
  have hh2 : (m.epoch != (fx c.text).ep) = false := by simpa using he
  clear he
  clear h
  obtain ⟨ok1, ok2, ok3, ok4⟩ := hok
  generalize fx c.text = x at *
  obtain ⟨ep, ho, ma, ch⟩ := x
  obtain ⟨kind, epoch, seq, nn, block, client, e0, t0, t1, t2, t3, data, row⟩ := m
  simp only [msgV, Mg.cells, big] at *
  go_enter Tryz.func38, Tryz.ntmps38
  go_upto_region 1 with fail
  generalize w.alloc (.cells #[.int .i64 kind, .int .i64 epoch, .int .i64 seq, .int .i64 nn, .int .i64 block, .int .i64 client, .int .i64 e0, .int .i64 t0, .int .i64 t1, .int .i64 t2, .int .i64 t3, .string data, .string row] 37) = W1 at *
  generalize w.heap.size = GS at *
  have q1 := S0.out.q1
  have q2 := S0.out.q2
  have q3 := S0.out.q3
  have q4 := S0.out.q4
  have q5 := S0.out.q5
  have q6 := S0.out.q6
  have y1 := HM0.out.cell 1
  simp only at q1 q2 q3 q4
  simp only [List.getElem?_toArray, List.getElem?_cons_zero, List.getElem?_cons_succ] at y1
  go_quiet (fail)
  generalize hWq : W1.drewN nq = W2 at *
  have hbq : Below W1.heap.size W1 W2 := by rw [← hWq]; exact below_drewN _ _ _
  clear hWq
  have S2 := Lib.hid (S0.out.below hbq)
  have B2 := Lib.hid (B0.out.trans ((But.of_below hbq).mono (by simp)))
  have HM2 := Lib.hid (HM0.out.below hbq HM0.out.lt)
  clear q1 q2 q3 q4 q5 q6 y1 hbq
  have q1 := S2.out.q1
  have q2 := S2.out.q2
  have q3 := S2.out.q3
  have q4 := S2.out.q4
  have q5 := S2.out.q5
  have q6 := S2.out.q6
  have y2 := HM2.out.cell 2
  have y3 := HM2.out.cell 3
  simp only at q1 q2 q3 q4
  simp only [List.getElem?_toArray, List.getElem?_cons_zero, List.getElem?_cons_succ] at y2 y3
  go_wp2
  go_ret
  exact ⟨rfl, S2.out, B2.out⟩


set_option maxHeartbeats 4000000 in
theorem rcha_high (w : World) {vB kB a b : Nat} {c : M.Cl} {L W : Int} (h : RW w rB LB n d vB kB a b c L W) (fr : Int) (hf : 0 ≤ fr ∧ fr ≤ 1) (m : Mg) (hn : (fx c.text).ho = fr) (he : m.epoch = (fx c.text).ep) (hs : 3 < m.seq) :
    Calls Tryz.prog 38 #[.pointer (some ⟨vB, 0, none⟩), .int .i64 fr, msgV m] w fun e w' => e = .returned (.int .i64 1) ∧ RW w' rB LB n d vB kB a b c L W ∧ But (theirs rB LB kB vB) w w' := by

  unfold RW
  have hok := fx_ok c.text
  have S0 : Hid (RX (w.alloc (.cells m.cells 37)) rB LB n d vB kB a b c (fx c.text) L W) := Lib.hid (RX.below h ((Below.refl _ _).alloc (Nat.le_refl _) _))
  have B0 : Hid (But (theirs rB LB kB vB) w (w.alloc (.cells m.cells 37))) := Lib.hid ((But.of_below ((Below.refl w.heap.size w).alloc (Nat.le_refl _) _)).mono (by simp))
  have HM0 := Lib.hid (Bo.new w m.cells 37)
  have hww := h.wt
  have hlw := h.lf
  have hh1 : ((fx c.text).ho != fr) = false := by simpa using hn
  clear hn
  have hh2 : (m.epoch != (fx c.text).ep) = false := by simpa using he
  clear he
  have hs1 : ¬ m.seq < 1 := by omega
  clear h
  obtain ⟨ok1, ok2, ok3, ok4⟩ := hok
  generalize fx c.text = x at *
  obtain ⟨ep, ho, ma, ch⟩ := x
  obtain ⟨kind, epoch, seq, nn, block, client, e0, t0, t1, t2, t3, data, row⟩ := m
  simp only [msgV, Mg.cells, big] at *
  go_enter Tryz.func38, Tryz.ntmps38
  go_upto_region 1 with fail
  generalize w.alloc (.cells #[.int .i64 kind, .int .i64 epoch, .int .i64 seq, .int .i64 nn, .int .i64 block, .int .i64 client, .int .i64 e0, .int .i64 t0, .int .i64 t1, .int .i64 t2, .int .i64 t3, .string data, .string row] 37) = W1 at *
  generalize w.heap.size = GS at *
  have q1 := S0.out.q1
  have q2 := S0.out.q2
  have q3 := S0.out.q3
  have q4 := S0.out.q4
  have q5 := S0.out.q5
  have q6 := S0.out.q6
  have y1 := HM0.out.cell 1
  simp only at q1 q2 q3 q4
  simp only [List.getElem?_toArray, List.getElem?_cons_zero, List.getElem?_cons_succ] at y1
  go_quiet (fail)
  generalize hWq : W1.drewN nq = W2 at *
  have hbq : Below W1.heap.size W1 W2 := by rw [← hWq]; exact below_drewN _ _ _
  clear hWq
  have S2 := Lib.hid (S0.out.below hbq)
  have B2 := Lib.hid (B0.out.trans ((But.of_below hbq).mono (by simp)))
  have HM2 := Lib.hid (HM0.out.below hbq HM0.out.lt)
  clear q1 q2 q3 q4 q5 q6 y1 hbq
  have q1 := S2.out.q1
  have q2 := S2.out.q2
  have q3 := S2.out.q3
  have q4 := S2.out.q4
  have q5 := S2.out.q5
  have q6 := S2.out.q6
  have y2 := HM2.out.cell 2
  have y3 := HM2.out.cell 3
  simp only at q1 q2 q3 q4
  simp only [List.getElem?_toArray, List.getElem?_cons_zero, List.getElem?_cons_succ] at y2 y3
  go_wp2
  go_ret
  exact ⟨rfl, S2.out, B2.out⟩


set_option maxHeartbeats 4000000 in
theorem rcha_in (w : World) {vB kB a b : Nat} {c : M.Cl} {L W : Int} (h : RW w rB LB n d vB kB a b c L W) (fr : Int) (hf : 0 ≤ fr ∧ fr ≤ 1) (m : Mg) (hn : (fx c.text).ho = fr) (he : m.epoch = (fx c.text).ep) (hs : 1 ≤ m.seq ∧ m.seq ≤ 3) (hA : inM m.seq fr = false) :
    Calls Tryz.prog 38 #[.pointer (some ⟨vB, 0, none⟩), .int .i64 fr, msgV m] w fun e w' => e = .returned (.int .i64 1) ∧ RW w' rB LB n d vB kB a b c L W ∧ But (theirs rB LB kB vB) w w' := by

  unfold RW
  have hok := fx_ok c.text
  have S0 : Hid (RX (w.alloc (.cells m.cells 37)) rB LB n d vB kB a b c (fx c.text) L W) := Lib.hid (RX.below h ((Below.refl _ _).alloc (Nat.le_refl _) _))
  have B0 : Hid (But (theirs rB LB kB vB) w (w.alloc (.cells m.cells 37))) := Lib.hid ((But.of_below ((Below.refl w.heap.size w).alloc (Nat.le_refl _) _)).mono (by simp))
  have HM0 := Lib.hid (Bo.new w m.cells 37)
  have hww := h.wt
  have hlw := h.lf
  have hh1 : ((fx c.text).ho != fr) = false := by simpa using hn
  clear hn
  have hh2 : (m.epoch != (fx c.text).ep) = false := by simpa using he
  clear he
  have HIn := Lib.hid (fun w' => rin_any w' (fr := fr) hs)
  have hs1 : ¬ m.seq < 1 := by omega
  have hs2 : ¬ 3 < m.seq := by omega
  rw [hA] at HIn
  clear hA
  clear h
  obtain ⟨ok1, ok2, ok3, ok4⟩ := hok
  generalize fx c.text = x at *
  obtain ⟨ep, ho, ma, ch⟩ := x
  obtain ⟨kind, epoch, seq, nn, block, client, e0, t0, t1, t2, t3, data, row⟩ := m
  simp only [msgV, Mg.cells, big] at *
  go_enter Tryz.func38, Tryz.ntmps38
  go_upto_region 1 with fail
  generalize w.alloc (.cells #[.int .i64 kind, .int .i64 epoch, .int .i64 seq, .int .i64 nn, .int .i64 block, .int .i64 client, .int .i64 e0, .int .i64 t0, .int .i64 t1, .int .i64 t2, .int .i64 t3, .string data, .string row] 37) = W1 at *
  generalize w.heap.size = GS at *
  have q1 := S0.out.q1
  have q2 := S0.out.q2
  have q3 := S0.out.q3
  have q4 := S0.out.q4
  have q5 := S0.out.q5
  have q6 := S0.out.q6
  have y1 := HM0.out.cell 1
  simp only at q1 q2 q3 q4
  simp only [List.getElem?_toArray, List.getElem?_cons_zero, List.getElem?_cons_succ] at y1
  go_quiet (fail)
  generalize hWq : W1.drewN nq = W2 at *
  have hbq : Below W1.heap.size W1 W2 := by rw [← hWq]; exact below_drewN _ _ _
  clear hWq
  have S2 := Lib.hid (S0.out.below hbq)
  have B2 := Lib.hid (B0.out.trans ((But.of_below hbq).mono (by simp)))
  have HM2 := Lib.hid (HM0.out.below hbq HM0.out.lt)
  clear q1 q2 q3 q4 q5 q6 y1 hbq
  have q1 := S2.out.q1
  have q2 := S2.out.q2
  have q3 := S2.out.q3
  have q4 := S2.out.q4
  have q5 := S2.out.q5
  have q6 := S2.out.q6
  have y2 := HM2.out.cell 2
  have y3 := HM2.out.cell 3
  simp only at q1 q2 q3 q4
  simp only [List.getElem?_toArray, List.getElem?_cons_zero, List.getElem?_cons_succ] at y2 y3
  go_wp2_with (go_at_call 39; with_reducible refine (HIn.out _).mono ?_; rintro e wi ⟨rfl, rfl⟩)
  go_ret
  exact ⟨rfl, S2.out, B2.out⟩


set_option maxHeartbeats 4000000 in
theorem rcha_old (w : World) {vB kB a b : Nat} {c : M.Cl} {L W : Int} (h : RW w rB LB n d vB kB a b c L W) (fr : Int) (hf : 0 ≤ fr ∧ fr ≤ 1) (m : Mg) (hn : (fx c.text).ho = fr) (he : m.epoch = (fx c.text).ep) (hs : 1 ≤ m.seq ∧ m.seq ≤ 3) (hA : inM m.seq fr = true) (ho : m.n ≤ (fx c.text).ch) :
    Calls Tryz.prog 38 #[.pointer (some ⟨vB, 0, none⟩), .int .i64 fr, msgV m] w fun e w' => e = .returned (.int .i64 0) ∧ RW w' rB LB n d vB kB a b c L W ∧ But (theirs rB LB kB vB) w w' := by

  unfold RW
  have hok := fx_ok c.text
  have S0 : Hid (RX (w.alloc (.cells m.cells 37)) rB LB n d vB kB a b c (fx c.text) L W) := Lib.hid (RX.below h ((Below.refl _ _).alloc (Nat.le_refl _) _))
  have B0 : Hid (But (theirs rB LB kB vB) w (w.alloc (.cells m.cells 37))) := Lib.hid ((But.of_below ((Below.refl w.heap.size w).alloc (Nat.le_refl _) _)).mono (by simp))
  have HM0 := Lib.hid (Bo.new w m.cells 37)
  have hww := h.wt
  have hlw := h.lf
  have hh1 : ((fx c.text).ho != fr) = false := by simpa using hn
  clear hn
  have hh2 : (m.epoch != (fx c.text).ep) = false := by simpa using he
  clear he
  have HIn := Lib.hid (fun w' => rin_any w' (fr := fr) hs)
  have hs1 : ¬ m.seq < 1 := by omega
  have hs2 : ¬ 3 < m.seq := by omega
  rw [hA] at HIn
  clear hA
  clear h
  obtain ⟨ok1, ok2, ok3, ok4⟩ := hok
  generalize fx c.text = x at *
  obtain ⟨ep, ho, ma, ch⟩ := x
  obtain ⟨kind, epoch, seq, nn, block, client, e0, t0, t1, t2, t3, data, row⟩ := m
  simp only [msgV, Mg.cells, big] at *
  go_enter Tryz.func38, Tryz.ntmps38
  go_upto_region 1 with fail
  generalize w.alloc (.cells #[.int .i64 kind, .int .i64 epoch, .int .i64 seq, .int .i64 nn, .int .i64 block, .int .i64 client, .int .i64 e0, .int .i64 t0, .int .i64 t1, .int .i64 t2, .int .i64 t3, .string data, .string row] 37) = W1 at *
  generalize w.heap.size = GS at *
  have q1 := S0.out.q1
  have q2 := S0.out.q2
  have q3 := S0.out.q3
  have q4 := S0.out.q4
  have q5 := S0.out.q5
  have q6 := S0.out.q6
  have y1 := HM0.out.cell 1
  simp only at q1 q2 q3 q4
  simp only [List.getElem?_toArray, List.getElem?_cons_zero, List.getElem?_cons_succ] at y1
  go_quiet (fail)
  generalize hWq : W1.drewN nq = W2 at *
  have hbq : Below W1.heap.size W1 W2 := by rw [← hWq]; exact below_drewN _ _ _
  clear hWq
  have S2 := Lib.hid (S0.out.below hbq)
  have B2 := Lib.hid (B0.out.trans ((But.of_below hbq).mono (by simp)))
  have HM2 := Lib.hid (HM0.out.below hbq HM0.out.lt)
  clear q1 q2 q3 q4 q5 q6 y1 hbq
  have q1 := S2.out.q1
  have q2 := S2.out.q2
  have q3 := S2.out.q3
  have q4 := S2.out.q4
  have q5 := S2.out.q5
  have q6 := S2.out.q6
  have y2 := HM2.out.cell 2
  have y3 := HM2.out.cell 3
  simp only at q1 q2 q3 q4
  simp only [List.getElem?_toArray, List.getElem?_cons_zero, List.getElem?_cons_succ] at y2 y3
  go_upto_region 5 with (go_at_call 39; with_reducible refine (HIn.out _).mono ?_; rintro e wi ⟨rfl, rfl⟩)
  go_quiet (fail)
  generalize hWq : W2.drewN nq = W4 at *
  have hbq : Below W2.heap.size W2 W4 := by rw [← hWq]; exact below_drewN _ _ _
  clear hWq
  have S4 := Lib.hid (S2.out.below hbq)
  have B4 := Lib.hid (B2.out.trans ((But.of_below hbq).mono (by simp)))
  have HM4 := Lib.hid (HM2.out.below hbq HM2.out.lt)
  clear q1 q2 q3 q4 q5 q6 y2 y3 hbq
  go_wp2
  go_ret
  exact ⟨rfl, S4.out, B4.out⟩


set_option maxHeartbeats 4000000 in
theorem rcha_put (w : World) {vB kB a b : Nat} {c : M.Cl} {L W : Int} (h : RW w rB LB n d vB kB a b c L W) (fr : Int) (hf : 0 ≤ fr ∧ fr ≤ 1) (m : Mg) (hn : (fx c.text).ho = fr) (he : m.epoch = (fx c.text).ep) (hs : 1 ≤ m.seq ∧ m.seq ≤ 3) (hA : inM m.seq fr = true) (ho : ¬ m.n ≤ (fx c.text).ch) (hb : m.n ≤ big) :
    Calls Tryz.prog 38 #[.pointer (some ⟨vB, 0, none⟩), .int .i64 fr, msgV m] w fun e w' => e = .returned (.int .i64 (M.puE n d a b c (fxT ⟨(fx c.text).ep, (fx c.text).ho, m.seq, m.n⟩))) ∧ RW w' rB LB n (M.puD n d a b c (fxT ⟨(fx c.text).ep, (fx c.text).ho, m.seq, m.n⟩)) vB kB a b (M.puC n d a b c (fxT ⟨(fx c.text).ep, (fx c.text).ho, m.seq, m.n⟩)) L W ∧ But (theirs rB LB kB vB) w w' := by

  unfold RW
  have hok := fx_ok c.text
  have S0 : Hid (RX (w.alloc (.cells m.cells 37)) rB LB n d vB kB a b c (fx c.text) L W) := Lib.hid (RX.below h ((Below.refl _ _).alloc (Nat.le_refl _) _))
  have B0 : Hid (But (theirs rB LB kB vB) w (w.alloc (.cells m.cells 37))) := Lib.hid ((But.of_below ((Below.refl w.heap.size w).alloc (Nat.le_refl _) _)).mono (by simp))
  have HM0 := Lib.hid (Bo.new w m.cells 37)
  have hww := h.wt
  have hlw := h.lf
  have hh1 : ((fx c.text).ho != fr) = false := by simpa using hn
  clear hn
  have hh2 : (m.epoch != (fx c.text).ep) = false := by simpa using he
  clear he
  have HIn := Lib.hid (fun w' => rin_any w' (fr := fr) hs)
  have hs1 : ¬ m.seq < 1 := by omega
  have hs2 : ¬ 3 < m.seq := by omega
  rw [hA] at HIn
  clear hA
  have ho2 : decide (m.n ≤ (fx c.text).ch) = false := decide_eq_false ho
  have HPut := Lib.hid (fun (w' : World) (h : RX w' rB LB n d vB kB a b c (fx c.text) L W) => rput_any w' h ⟨(fx c.text).ep, (fx c.text).ho, m.seq, m.n⟩ ⟨hok.1, hok.2.1, hs, by simp only; have := hok.2.2.2; omega⟩)
  unfold RW at HPut
  generalize M.puE n d a b c (fxT ⟨(fx c.text).ep, (fx c.text).ho, m.seq, m.n⟩) = E at *
  generalize M.puD n d a b c (fxT ⟨(fx c.text).ep, (fx c.text).ho, m.seq, m.n⟩) = D at *
  generalize M.puC n d a b c (fxT ⟨(fx c.text).ep, (fx c.text).ho, m.seq, m.n⟩) = C2 at *
  clear ho hb
  have hX2 : ∃ x2, fx C2.text = x2 := ⟨_, rfl⟩
  obtain ⟨x2, hX2⟩ := hX2
  rw [hX2] at HPut
  rw [hX2]
  clear hX2
  clear h
  obtain ⟨ok1, ok2, ok3, ok4⟩ := hok
  generalize fx c.text = x at *
  obtain ⟨ep, ho, ma, ch⟩ := x
  obtain ⟨kind, epoch, seq, nn, block, client, e0, t0, t1, t2, t3, data, row⟩ := m
  simp only [msgV, Mg.cells, big] at *
  go_enter Tryz.func38, Tryz.ntmps38
  go_upto_region 1 with fail
  generalize w.alloc (.cells #[.int .i64 kind, .int .i64 epoch, .int .i64 seq, .int .i64 nn, .int .i64 block, .int .i64 client, .int .i64 e0, .int .i64 t0, .int .i64 t1, .int .i64 t2, .int .i64 t3, .string data, .string row] 37) = W1 at *
  generalize w.heap.size = GS at *
  have q1 := S0.out.q1
  have q2 := S0.out.q2
  have q3 := S0.out.q3
  have q4 := S0.out.q4
  have q5 := S0.out.q5
  have q6 := S0.out.q6
  have y1 := HM0.out.cell 1
  simp only at q1 q2 q3 q4
  simp only [List.getElem?_toArray, List.getElem?_cons_zero, List.getElem?_cons_succ] at y1
  go_quiet (fail)
  generalize hWq : W1.drewN nq = W2 at *
  have hbq : Below W1.heap.size W1 W2 := by rw [← hWq]; exact below_drewN _ _ _
  clear hWq
  have S2 := Lib.hid (S0.out.below hbq)
  have B2 := Lib.hid (B0.out.trans ((But.of_below hbq).mono (by simp)))
  have HM2 := Lib.hid (HM0.out.below hbq HM0.out.lt)
  clear q1 q2 q3 q4 q5 q6 y1 hbq
  have q1 := S2.out.q1
  have q2 := S2.out.q2
  have q3 := S2.out.q3
  have q4 := S2.out.q4
  have q5 := S2.out.q5
  have q6 := S2.out.q6
  have y2 := HM2.out.cell 2
  have y3 := HM2.out.cell 3
  simp only at q1 q2 q3 q4
  simp only [List.getElem?_toArray, List.getElem?_cons_zero, List.getElem?_cons_succ] at y2 y3
  go_upto_region 5 with (go_at_call 39; with_reducible refine (HIn.out _).mono ?_; rintro e wi ⟨rfl, rfl⟩)
  go_quiet (fail)
  generalize hWq : W2.drewN nq = W4 at *
  have hbq : Below W2.heap.size W2 W4 := by rw [← hWq]; exact below_drewN _ _ _
  clear hWq
  have S4 := Lib.hid (S2.out.below hbq)
  have B4 := Lib.hid (B2.out.trans ((But.of_below hbq).mono (by simp)))
  have HM4 := Lib.hid (HM2.out.below hbq HM2.out.lt)
  clear q1 q2 q3 q4 q5 q6 y2 y3 hbq
  have q1 := S4.out.q1
  have q2 := S4.out.q2
  have q3 := S4.out.q3
  have q4 := S4.out.q4
  have q5 := S4.out.q5
  have q6 := S4.out.q6
  have y2 := HM4.out.cell 2
  have y3 := HM4.out.cell 3
  simp only at q1 q2 q3 q4
  simp only [List.getElem?_toArray, List.getElem?_cons_zero, List.getElem?_cons_succ] at y2 y3
  go_upto_region 7 with fail
  go_still_tail 13, (by kernel_rfl)
  change wpList _ _ _ _ _ W4.drew
  have S5 := Lib.hid (S4.out.below (Below.refl _ _).drew)
  have B5 := Lib.hid (B4.out.trans ((But.of_below (Below.refl W4.heap.size W4).drew).mono (by simp)))
  clear q1 q2 q3 q4 q5 q6 y2 y3
  generalize W4.drew = W5 at *
  go_wp2_with (first
    | (go_at_call 40; with_reducible refine (HPut.out _ S5.out).mono ?_; rintro e5 w5 ⟨rfl, hs5, hb5⟩
       have S6 := Lib.hid hs5
       have B6 := Lib.hid (B5.out.trans hb5)
       clear hs5 hb5))
  go_ret
  exact ⟨rfl, S6.out, B6.out⟩

end Go.Proofs.YtpoolpckabpnfaaGreat.Wt
namespace Go.Proofs.YtpoolpckabpnfaaGreat.Wt
open Go.RowKit
open Ml (Mg may msgV)
set_option linter.unusedVariables false
set_option linter.unusedSimpArgs false
set_option maxRecDepth 20000

variable {rB LB n : Nat} {d : M.Dv}

theorem rask_any (w : World) {vB kB a b : Nat} {c : M.Cl} {L W : Int} (h : RW w rB LB n d vB kB a b c L W) (fr : Int) (hf : 0 ≤ fr ∧ fr ≤ 1) (m : Mg) :
    Calls Tryz.prog 37 #[.pointer (some ⟨vB, 0, none⟩), .int .i64 fr, msgV m] w fun e w' => e = .returned (.int .i64 (doE n a b d c (askP (fx c.text) L fr m))) ∧ RW w' rB LB n (doD n a b d c (askP (fx c.text) L fr m)) vB kB a b (doC n a b d c (askP (fx c.text) L fr m)) (if doE n a b d c (askP (fx c.text) L fr m) = 0 then W else L) W ∧ But (theirs rB LB kB vB) w w' := by
  cases hA : inM (fx c.text).ma fr with
  | false =>
    have e : askP (fx c.text) L fr m = (20, none) := by unfold askP; rw [if_pos hA]
    rw [e]
    exact rask_prim w h fr hf m hA
  | true =>
    have hA' : ¬ inM (fx c.text).ma fr = false := by rw [hA]; simp
    by_cases hl : longer (fx c.text) fr m = true
    · have e : askP (fx c.text) L fr m = (0, none) := by unfold askP; rw [if_neg hA', if_pos hl]
      rw [e]
      exact rask_long w h fr hf m hA hl
    · have hl2 : (fx c.text).ho ≠ fr ∨ ((fx c.text).ho = fr ∧ m.seq ≠ 0) ∨ ((fx c.text).ho = fr ∧ m.seq = 0 ∧ m.epoch ≠ (fx c.text).ep) := by
        simp [longer] at hl
        by_cases h1 : (fx c.text).ho = fr
        · by_cases h2 : m.seq = 0
          · exact .inr (.inr ⟨h1, h2, hl h1 h2⟩)
          · exact .inr (.inl ⟨h1, h2⟩)
        · exact .inl h1
      by_cases hb : (fx c.text).ho ≠ fr ∧ 0 < L
      · have e : askP (fx c.text) L fr m = (25, none) := by unfold askP; rw [if_neg hA', if_neg hl, if_pos hb]
        rw [e]
        exact rask_busy w h fr hf m hA hb.1 hb.2
      · by_cases hE : (fx c.text).ep = big
        · have e : askP (fx c.text) L fr m = (22, none) := by unfold askP; rw [if_neg hA', if_neg hl, if_neg hb, if_pos hE]
          rw [e]
          rcases hl2 with h1 | ⟨h1, h2⟩ | ⟨h1, h2, h3⟩
          · exact rask_fullD w h fr hf m hA h1 (fun h2 => hb ⟨h1, h2⟩) hE
          · exact rask_fullE w h fr hf m hA h1 h2 hE
          · exact rask_fullF w h fr hf m hA h1 h2 h3 hE
        · have e : askP (fx c.text) L fr m = (0, some ⟨(fx c.text).ep + 1, fr, (fx c.text).ma, 0⟩) := by unfold askP; rw [if_neg hA', if_neg hl, if_neg hb, if_neg hE]
          rw [e]
          by_cases hp : doE n a b d c (0, some ⟨(fx c.text).ep + 1, fr, (fx c.text).ma, 0⟩) = 0
          · rw [if_pos hp, hp]
            rcases hl2 with h1 | ⟨h1, h2⟩ | ⟨h1, h2, h3⟩
            · exact rask_putD0 w h fr hf m hA h1 (fun h2 => hb ⟨h1, h2⟩) hE hp
            · exact rask_putE0 w h fr hf m hA h1 h2 hE hp
            · exact rask_putF0 w h fr hf m hA h1 h2 h3 hE hp
          · rw [if_neg hp]
            rcases hl2 with h1 | ⟨h1, h2⟩ | ⟨h1, h2, h3⟩
            · exact rask_putD1 w h fr hf m hA h1 (fun h2 => hb ⟨h1, h2⟩) hE hp
            · exact rask_putE1 w h fr hf m hA h1 h2 hE hp
            · exact rask_putF1 w h fr hf m hA h1 h2 h3 hE hp

theorem rcha_any (w : World) {vB kB a b : Nat} {c : M.Cl} {L W : Int} (h : RW w rB LB n d vB kB a b c L W) (fr : Int) (hf : 0 ≤ fr ∧ fr ≤ 1) (m : Mg) (hm : may m = true) :
    Calls Tryz.prog 38 #[.pointer (some ⟨vB, 0, none⟩), .int .i64 fr, msgV m] w fun e w' => e = .returned (.int .i64 (doE n a b d c (chaP (fx c.text) fr m))) ∧ RW w' rB LB n (doD n a b d c (chaP (fx c.text) fr m)) vB kB a b (doC n a b d c (chaP (fx c.text) fr m)) L W ∧ But (theirs rB LB kB vB) w w' := by
  by_cases h1 : (fx c.text).ho = fr
  · by_cases h2 : m.epoch = (fx c.text).ep
    · have hn : ¬ ((fx c.text).ho ≠ fr ∨ m.epoch ≠ (fx c.text).ep) := by simp [h1, h2]
      by_cases h3 : m.seq < 1 ∨ 3 < m.seq
      · have e : chaP (fx c.text) fr m = (1, none) := by unfold chaP; rw [if_neg hn, if_pos (.inl h3)]
        rw [e]
        rcases h3 with h3 | h3
        · exact rcha_low w h fr hf m h1 h2 h3
        · exact rcha_high w h fr hf m h1 h2 h3
      · cases hA : inM m.seq fr with
        | false =>
          have e : chaP (fx c.text) fr m = (1, none) := by unfold chaP; rw [if_neg hn, if_pos (.inr hA)]
          rw [e]
          exact rcha_in w h fr hf m h1 h2 (by omega) hA
        | true =>
          have hA' : ¬ ((m.seq < 1 ∨ 3 < m.seq) ∨ inM m.seq fr = false) := by rw [hA]; simpa using h3
          by_cases h4 : m.n ≤ (fx c.text).ch
          · have e : chaP (fx c.text) fr m = (0, none) := by unfold chaP; rw [if_neg hn, if_neg hA', if_pos h4]
            rw [e]
            exact rcha_old w h fr hf m h1 h2 (by omega) hA h4
          · have e : chaP (fx c.text) fr m = (0, some ⟨(fx c.text).ep, (fx c.text).ho, m.seq, m.n⟩) := by unfold chaP; rw [if_neg hn, if_neg hA', if_neg h4]
            rw [e]
            exact rcha_put w h fr hf m h1 h2 (by omega) hA h4 ((Ml.may_iff m).1 hm).2.2.2.1.2
    · have e : chaP (fx c.text) fr m = (20, none) := by unfold chaP; rw [if_pos (.inr h2)]
      rw [e]
      exact rcha_ep w h fr hf m h1 h2
  · have e : chaP (fx c.text) fr m = (20, none) := by unfold chaP; rw [if_pos (.inl h1)]
    rw [e]
    exact rcha_ho w h fr hf m h1
end Go.Proofs.YtpoolpckabpnfaaGreat.Wt
