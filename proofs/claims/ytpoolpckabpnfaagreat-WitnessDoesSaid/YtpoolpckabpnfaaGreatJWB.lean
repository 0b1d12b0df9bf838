/-
  An ask, case by case.
  A change, case by case.
  A node that has lost all.
  An ask, a change, a lost in every case.
-/
import Derived.Test.YtpoolpckabpnfaaGreatJWA
import Derived.Deep.RegionHeld3
namespace Go.Proofs.YtpoolpckabpnfaaGreat.Wt
open Go.RowKit
open Ml (Mg may msgV)
set_option linter.unusedVariables false
set_option linter.unusedSimpArgs false
set_option maxRecDepth 20000

variable {dB sB mB n : Nat} {d : M.Dv}


theorem set_ws {w : World} {tB cB a b : Nat} {c : M.Cl} {L W : Int} (h : WS w dB sB mB n d tB cB a b c L W) :
    Calls Tryz.prog 29 #[.pointer (some ⟨tB, 1, none⟩), .int .i64 W] w fun e w' => e = .returned (.tuple #[]) ∧ WS w' dB sB mB n d tB cB a b c W W ∧ But (ours dB sB mB cB tB) w w' := by
  have hw := h.wt
  refine (set_at h.q1 (h.fz 1) W (by omega)).mono ?_
  rintro e w' ⟨rfl, rfl⟩
  exact ⟨rfl, h.set (by omega), h.set_but _⟩


set_option maxHeartbeats 4000000 in
theorem ask_prim (w : World) {tB cB a b : Nat} {c : M.Cl} {L W : Int} (h : WS w dB sB mB n d tB cB a b c L W) (fr : Int) (hf : 0 ≤ fr ∧ fr ≤ 1) (m : Mg) (hA : inM (fx c.text).ma fr = false) :
    Calls Tryz.prog 54 #[.pointer (some ⟨tB, 0, none⟩), .int .i64 fr, msgV m] w fun e w' => e = .returned (.int .i64 20) ∧ WS w' dB sB mB n d tB cB a b c L W ∧ But (ours dB sB mB cB tB) w w' := by

  have HB0 := Lib.hid ((Below.refl w.heap.size w).alloc (Nat.le_refl _) (.cells m.cells 37))
  have S0 := Lib.hid (h.below HB0.out)
  have HM0 := Lib.hid (Bo.new w m.cells 37)
  have HSt := Lib.hid (state_any _ S0.out)
  have HBt := Lib.hid (fun w' => bit_any w' hf)
  have hok := fx_ok c.text
  have hlw := h.lf
  have hww := h.wt
  obtain ⟨av, hand, hin, hout⟩ := and_is hf hok.2.2.1
  have hz := hout hA
  clear hin hout hA
  obtain ⟨ok1, ok2, ok3, ok4⟩ := hok
  generalize fx c.text = x at *
  generalize bitI fr = bt at *
  obtain ⟨ep, ho, ma, ch⟩ := x
  obtain ⟨kind, epoch, seq, nn, block, client, e0, t0, t1, t2, t3, data, row⟩ := m
  simp only [fxV, msgV, Mg.cells, big] at *

  go_enter Tryz.func54, Tryz.ntmps54
  go_upto_region 3 with (first
    | (go_at_call 48; with_reducible refine HSt.out.mono ?_; rintro e w1 ⟨rfl, hb1⟩
       have A1 := hb1.alloc hb1.size (.cells #[.int .i64 ep, .int .i64 ho, .int .i64 ma, .int .i64 ch] 105)
       have S1 := Lib.hid (S0.out.below A1)
       have B1 := Lib.hid (HB0.out.trans (A1.mono HB0.out.size))
       have XM := Lib.hid (HM0.out.below A1 HM0.out.lt)
       have XS := Lib.hid (Bo.new w1 #[.int .i64 ep, .int .i64 ho, .int .i64 ma, .int .i64 ch] 105)
       clear A1 hb1))
  clear HSt S0 HB0 HM0
  generalize w1.alloc (.cells #[.int .i64 ep, .int .i64 ho, .int .i64 ma, .int .i64 ch] 105) = W1 at *
  generalize w1.heap.size = GS at *
  have z2 := XS.out.cell 2
  simp only [List.getElem?_toArray, List.getElem?_cons_zero, List.getElem?_cons_succ] at z2
  have HQb : Hid (∀ m, Calls Tryz.prog 72 #[.int .i64 fr] (W1.drewN m) fun e w' => e = .returned (.int .i64 bt) ∧ ∃ m', w' = W1.drewN m') := Lib.hid fun m => (HBt.out _).mono fun _ _ h => ⟨h.1, m, h.2.symm⟩
  go_quiet ((go_at_call 72; with_reducible exact HQb.out _))
  generalize hWq : W1.drewN nq = W2 at *
  have hbq : Below W1.heap.size W1 W2 := by rw [← hWq]; exact below_drewN _ _ _
  clear hWq
  have S2 := Lib.hid (S1.out.below hbq)
  have B2 := Lib.hid (B1.out.trans (hbq.mono B1.out.size))
  have XM2 := Lib.hid (XM.out.below hbq XM.out.lt)
  have XS2 := Lib.hid (XS.out.below hbq XS.out.lt)
  go_wp2
  go_ret
  exact ⟨rfl, S2.out, (But.of_below B2.out).mono (by simp)⟩


set_option maxHeartbeats 4000000 in
theorem ask_long (w : World) {tB cB a b : Nat} {c : M.Cl} {L W : Int} (h : WS w dB sB mB n d tB cB a b c L W) (fr : Int) (hf : 0 ≤ fr ∧ fr ≤ 1) (m : Mg) (hA : inM (fx c.text).ma fr = true) (hl : longer (fx c.text) fr m = true) :
    Calls Tryz.prog 54 #[.pointer (some ⟨tB, 0, none⟩), .int .i64 fr, msgV m] w fun e w' => e = .returned (.int .i64 0) ∧ WS w' dB sB mB n d tB cB a b c W W ∧ But (ours dB sB mB cB tB) w w' := by

  have HB0 := Lib.hid ((Below.refl w.heap.size w).alloc (Nat.le_refl _) (.cells m.cells 37))
  have S0 := Lib.hid (h.below HB0.out)
  have HM0 := Lib.hid (Bo.new w m.cells 37)
  have HSt := Lib.hid (state_any _ S0.out)
  have HBt := Lib.hid (fun w' => bit_any w' hf)
  have hok := fx_ok c.text
  have hlw := h.lf
  have hww := h.wt
  obtain ⟨av, hand, hin, hout⟩ := and_is hf hok.2.2.1
  have hz := hin hA
  clear hin hout hA
  have hh : ((fx c.text).ho == fr) = true ∧ (m.seq == 0) = true ∧ (m.epoch == (fx c.text).ep) = true := by simpa [longer] using hl
  obtain ⟨hh1, hh2, hh3⟩ := hh
  clear hl
  obtain ⟨ok1, ok2, ok3, ok4⟩ := hok
  generalize fx c.text = x at *
  generalize bitI fr = bt at *
  obtain ⟨ep, ho, ma, ch⟩ := x
  obtain ⟨kind, epoch, seq, nn, block, client, e0, t0, t1, t2, t3, data, row⟩ := m
  simp only [fxV, msgV, Mg.cells, big] at *

  go_enter Tryz.func54, Tryz.ntmps54
  go_upto_region 3 with (first
    | (go_at_call 48; with_reducible refine HSt.out.mono ?_; rintro e w1 ⟨rfl, hb1⟩
       have A1 := hb1.alloc hb1.size (.cells #[.int .i64 ep, .int .i64 ho, .int .i64 ma, .int .i64 ch] 105)
       have S1 := Lib.hid (S0.out.below A1)
       have B1 := Lib.hid (HB0.out.trans (A1.mono HB0.out.size))
       have XM := Lib.hid (HM0.out.below A1 HM0.out.lt)
       have XS := Lib.hid (Bo.new w1 #[.int .i64 ep, .int .i64 ho, .int .i64 ma, .int .i64 ch] 105)
       clear A1 hb1))
  clear HSt S0 HB0 HM0
  generalize w1.alloc (.cells #[.int .i64 ep, .int .i64 ho, .int .i64 ma, .int .i64 ch] 105) = W1 at *
  generalize w1.heap.size = GS at *
  have z2 := XS.out.cell 2
  simp only [List.getElem?_toArray, List.getElem?_cons_zero, List.getElem?_cons_succ] at z2
  have HQb : Hid (∀ m, Calls Tryz.prog 72 #[.int .i64 fr] (W1.drewN m) fun e w' => e = .returned (.int .i64 bt) ∧ ∃ m', w' = W1.drewN m') := Lib.hid fun m => (HBt.out _).mono fun _ _ h => ⟨h.1, m, h.2.symm⟩
  go_quiet ((go_at_call 72; with_reducible exact HQb.out _))
  generalize hWq : W1.drewN nq = W2 at *
  have hbq : Below W1.heap.size W1 W2 := by rw [← hWq]; exact below_drewN _ _ _
  clear hWq
  have S2 := Lib.hid (S1.out.below hbq)
  have B2 := Lib.hid (B1.out.trans (hbq.mono B1.out.size))
  have XM2 := Lib.hid (XM.out.below hbq XM.out.lt)
  have XS2 := Lib.hid (XS.out.below hbq XS.out.lt)
  clear S1 B1 XM XS z2
  have y1 := XM2.out.cell 1
  have y2 := XM2.out.cell 2
  have z0 := XS2.out.cell 0
  have z2 := XS2.out.cell 2
  simp only [List.getElem?_toArray, List.getElem?_cons_zero, List.getElem?_cons_succ] at y1 y2 z0 z2
  have HSet := Lib.hid (fun w' (h : WS w' dB sB mB n d tB cB a b c L W) => set_ws h)
  go_upto_region 6 with fail
  have q2 := S2.out.q2
  go_region_held3 (fun w' => w'.cell? ⟨tB, 2, none⟩ = some (.int .i64 W))
    (first
      | exact q2
      | exact (S2.out.below (Below.refl _ _).drew).q2
      | exact S6.out.q2)
    (first
      | (go_at_call 29; refine (HSet.out W2.drew (S2.out.below (Below.refl _ _).drew)).mono ?_; rintro e6 w6 ⟨rfl, hs6, hb6⟩
         have S6 := Lib.hid hs6
         have B6 : Hid (But (ours dB sB mB cB tB) W2 w6) := Lib.hid (((But.of_below (Below.refl W2.heap.size W2).drew).mono (by simp)).trans hb6)
         clear hs6 hb6))
  go_wp2
  go_ret
  exact ⟨rfl, S6.out, ((But.of_below B2.out).mono (by simp)).trans B6.out⟩


set_option maxHeartbeats 4000000 in
theorem ask_busy (w : World) {tB cB a b : Nat} {c : M.Cl} {L W : Int} (h : WS w dB sB mB n d tB cB a b c L W) (fr : Int) (hf : 0 ≤ fr ∧ fr ≤ 1) (m : Mg) (hA : inM (fx c.text).ma fr = true) (hn : (fx c.text).ho ≠ fr) (hL : 0 < L) :
    Calls Tryz.prog 54 #[.pointer (some ⟨tB, 0, none⟩), .int .i64 fr, msgV m] w fun e w' => e = .returned (.int .i64 25) ∧ WS w' dB sB mB n d tB cB a b c L W ∧ But (ours dB sB mB cB tB) w w' := by

  have HB0 := Lib.hid ((Below.refl w.heap.size w).alloc (Nat.le_refl _) (.cells m.cells 37))
  have S0 := Lib.hid (h.below HB0.out)
  have HM0 := Lib.hid (Bo.new w m.cells 37)
  have HSt := Lib.hid (state_any _ S0.out)
  have HBt := Lib.hid (fun w' => bit_any w' hf)
  have hok := fx_ok c.text
  have hlw := h.lf
  have hww := h.wt
  obtain ⟨av, hand, hin, hout⟩ := and_is hf hok.2.2.1
  have hz := hin hA
  clear hin hout hA
  have hh1 : ((fx c.text).ho == fr) = false := by rw [beq_eq_false_iff_ne]; exact hn
  clear hn
  obtain ⟨ok1, ok2, ok3, ok4⟩ := hok
  generalize fx c.text = x at *
  generalize bitI fr = bt at *
  obtain ⟨ep, ho, ma, ch⟩ := x
  obtain ⟨kind, epoch, seq, nn, block, client, e0, t0, t1, t2, t3, data, row⟩ := m
  simp only [fxV, msgV, Mg.cells, big] at *

  go_enter Tryz.func54, Tryz.ntmps54
  go_upto_region 3 with (first
    | (go_at_call 48; with_reducible refine HSt.out.mono ?_; rintro e w1 ⟨rfl, hb1⟩
       have A1 := hb1.alloc hb1.size (.cells #[.int .i64 ep, .int .i64 ho, .int .i64 ma, .int .i64 ch] 105)
       have S1 := Lib.hid (S0.out.below A1)
       have B1 := Lib.hid (HB0.out.trans (A1.mono HB0.out.size))
       have XM := Lib.hid (HM0.out.below A1 HM0.out.lt)
       have XS := Lib.hid (Bo.new w1 #[.int .i64 ep, .int .i64 ho, .int .i64 ma, .int .i64 ch] 105)
       clear A1 hb1))
  clear HSt S0 HB0 HM0
  generalize w1.alloc (.cells #[.int .i64 ep, .int .i64 ho, .int .i64 ma, .int .i64 ch] 105) = W1 at *
  generalize w1.heap.size = GS at *
  have z2 := XS.out.cell 2
  simp only [List.getElem?_toArray, List.getElem?_cons_zero, List.getElem?_cons_succ] at z2
  have HQb : Hid (∀ m, Calls Tryz.prog 72 #[.int .i64 fr] (W1.drewN m) fun e w' => e = .returned (.int .i64 bt) ∧ ∃ m', w' = W1.drewN m') := Lib.hid fun m => (HBt.out _).mono fun _ _ h => ⟨h.1, m, h.2.symm⟩
  go_quiet ((go_at_call 72; with_reducible exact HQb.out _))
  generalize hWq : W1.drewN nq = W2 at *
  have hbq : Below W1.heap.size W1 W2 := by rw [← hWq]; exact below_drewN _ _ _
  clear hWq
  have S2 := Lib.hid (S1.out.below hbq)
  have B2 := Lib.hid (B1.out.trans (hbq.mono B1.out.size))
  have XM2 := Lib.hid (XM.out.below hbq XM.out.lt)
  have XS2 := Lib.hid (XS.out.below hbq XS.out.lt)
  clear S1 B1 XM XS z2
  have y1 := XM2.out.cell 1
  have y2 := XM2.out.cell 2
  have z0 := XS2.out.cell 0
  have z2 := XS2.out.cell 2
  simp only [List.getElem?_toArray, List.getElem?_cons_zero, List.getElem?_cons_succ] at y1 y2 z0 z2
  have HOn := Lib.hid (on_any S2.out)
  rw [decide_eq_true hL] at HOn
  go_wp2_with (go_at_call 62; with_reducible refine HOn.out.mono ?_; rintro e w5 ⟨rfl, rfl⟩)
  go_ret
  exact ⟨rfl, S2.out, (But.of_below B2.out).mono (by simp)⟩


set_option maxHeartbeats 4000000 in
theorem ask_fullD (w : World) {tB cB a b : Nat} {c : M.Cl} {L W : Int} (h : WS w dB sB mB n d tB cB a b c L W) (fr : Int) (hf : 0 ≤ fr ∧ fr ≤ 1) (m : Mg) (hA : inM (fx c.text).ma fr = true) (hn : (fx c.text).ho ≠ fr) (hL : ¬ 0 < L) (hE : (fx c.text).ep = big) :
    Calls Tryz.prog 54 #[.pointer (some ⟨tB, 0, none⟩), .int .i64 fr, msgV m] w fun e w' => e = .returned (.int .i64 22) ∧ WS w' dB sB mB n d tB cB a b c L W ∧ But (ours dB sB mB cB tB) w w' := by

  have HB0 := Lib.hid ((Below.refl w.heap.size w).alloc (Nat.le_refl _) (.cells m.cells 37))
  have S0 := Lib.hid (h.below HB0.out)
  have HM0 := Lib.hid (Bo.new w m.cells 37)
  have HSt := Lib.hid (state_any _ S0.out)
  have HBt := Lib.hid (fun w' => bit_any w' hf)
  have hok := fx_ok c.text
  have hlw := h.lf
  have hww := h.wt
  obtain ⟨av, hand, hin, hout⟩ := and_is hf hok.2.2.1
  have hz := hin hA
  clear hin hout hA
  have hh1 : ((fx c.text).ho == fr) = false := by rw [beq_eq_false_iff_ne]; exact hn
  clear hn
  have hE2 : ((fx c.text).ep == big) = true := by simpa using hE
  clear hE
  obtain ⟨ok1, ok2, ok3, ok4⟩ := hok
  generalize fx c.text = x at *
  generalize bitI fr = bt at *
  obtain ⟨ep, ho, ma, ch⟩ := x
  obtain ⟨kind, epoch, seq, nn, block, client, e0, t0, t1, t2, t3, data, row⟩ := m
  simp only [fxV, msgV, Mg.cells, big] at *

  go_enter Tryz.func54, Tryz.ntmps54
  go_upto_region 3 with (first
    | (go_at_call 48; with_reducible refine HSt.out.mono ?_; rintro e w1 ⟨rfl, hb1⟩
       have A1 := hb1.alloc hb1.size (.cells #[.int .i64 ep, .int .i64 ho, .int .i64 ma, .int .i64 ch] 105)
       have S1 := Lib.hid (S0.out.below A1)
       have B1 := Lib.hid (HB0.out.trans (A1.mono HB0.out.size))
       have XM := Lib.hid (HM0.out.below A1 HM0.out.lt)
       have XS := Lib.hid (Bo.new w1 #[.int .i64 ep, .int .i64 ho, .int .i64 ma, .int .i64 ch] 105)
       clear A1 hb1))
  clear HSt S0 HB0 HM0
  generalize w1.alloc (.cells #[.int .i64 ep, .int .i64 ho, .int .i64 ma, .int .i64 ch] 105) = W1 at *
  generalize w1.heap.size = GS at *
  have z2 := XS.out.cell 2
  simp only [List.getElem?_toArray, List.getElem?_cons_zero, List.getElem?_cons_succ] at z2
  have HQb : Hid (∀ m, Calls Tryz.prog 72 #[.int .i64 fr] (W1.drewN m) fun e w' => e = .returned (.int .i64 bt) ∧ ∃ m', w' = W1.drewN m') := Lib.hid fun m => (HBt.out _).mono fun _ _ h => ⟨h.1, m, h.2.symm⟩
  go_quiet ((go_at_call 72; with_reducible exact HQb.out _))
  generalize hWq : W1.drewN nq = W2 at *
  have hbq : Below W1.heap.size W1 W2 := by rw [← hWq]; exact below_drewN _ _ _
  clear hWq
  have S2 := Lib.hid (S1.out.below hbq)
  have B2 := Lib.hid (B1.out.trans (hbq.mono B1.out.size))
  have XM2 := Lib.hid (XM.out.below hbq XM.out.lt)
  have XS2 := Lib.hid (XS.out.below hbq XS.out.lt)
  clear S1 B1 XM XS z2
  have y1 := XM2.out.cell 1
  have y2 := XM2.out.cell 2
  have z0 := XS2.out.cell 0
  have z2 := XS2.out.cell 2
  simp only [List.getElem?_toArray, List.getElem?_cons_zero, List.getElem?_cons_succ] at y1 y2 z0 z2
  have HOn := Lib.hid (on_any S2.out)
  rw [decide_eq_false (show ¬ 0 < L by omega)] at HOn
  go_wp2_with (go_at_call 62; with_reducible refine HOn.out.mono ?_; rintro e w5 ⟨rfl, rfl⟩)
  go_ret
  exact ⟨rfl, S2.out, (But.of_below B2.out).mono (by simp)⟩


set_option maxHeartbeats 4000000 in
theorem ask_putD0 (w : World) {tB cB a b : Nat} {c : M.Cl} {L W : Int} (h : WS w dB sB mB n d tB cB a b c L W) (fr : Int) (hf : 0 ≤ fr ∧ fr ≤ 1) (m : Mg) (hA : inM (fx c.text).ma fr = true) (hn : (fx c.text).ho ≠ fr) (hL : ¬ 0 < L) (hE : (fx c.text).ep ≠ big) (hp : M.puE n d a b c (fxT ⟨(fx c.text).ep + 1, fr, (fx c.text).ma, 0⟩) = 0) :
    Calls Tryz.prog 54 #[.pointer (some ⟨tB, 0, none⟩), .int .i64 fr, msgV m] w fun e w' => e = .returned (.int .i64 0) ∧ WS w' dB sB mB n (M.puD n d a b c (fxT ⟨(fx c.text).ep + 1, fr, (fx c.text).ma, 0⟩)) tB cB a b (M.puC n d a b c (fxT ⟨(fx c.text).ep + 1, fr, (fx c.text).ma, 0⟩)) W W ∧ But (ours dB sB mB cB tB) w w' := by

  have HB0 := Lib.hid ((Below.refl w.heap.size w).alloc (Nat.le_refl _) (.cells m.cells 37))
  have S0 := Lib.hid (h.below HB0.out)
  have HM0 := Lib.hid (Bo.new w m.cells 37)
  have HSt := Lib.hid (state_any _ S0.out)
  have HBt := Lib.hid (fun w' => bit_any w' hf)
  have hok := fx_ok c.text
  have hlw := h.lf
  have hww := h.wt
  obtain ⟨av, hand, hin, hout⟩ := and_is hf hok.2.2.1
  have hz := hin hA
  clear hin hout hA
  have hh1 : ((fx c.text).ho == fr) = false := by rw [beq_eq_false_iff_ne]; exact hn
  clear hn
  have hE2 : ((fx c.text).ep == big) = false := by rw [beq_eq_false_iff_ne]; exact hE
  have hE3 : (fx c.text).ep < big := by have := hok.1; omega
  have HPut := Lib.hid (fun (w' : World) (h : WS w' dB sB mB n d tB cB a b c L W) => Wt.put_any w' h ⟨(fx c.text).ep + 1, fr, (fx c.text).ma, 0⟩ ⟨by simp only; have := hok.1; omega, by simp only; omega, hok.2.2.1, by simp [big]⟩)
  rw [hp] at HPut
  generalize M.puD n d a b c (fxT ⟨(fx c.text).ep + 1, fr, (fx c.text).ma, 0⟩) = D at *
  generalize M.puC n d a b c (fxT ⟨(fx c.text).ep + 1, fr, (fx c.text).ma, 0⟩) = C2 at *
  clear hE hp
  obtain ⟨ok1, ok2, ok3, ok4⟩ := hok
  generalize fx c.text = x at *
  generalize bitI fr = bt at *
  obtain ⟨ep, ho, ma, ch⟩ := x
  obtain ⟨kind, epoch, seq, nn, block, client, e0, t0, t1, t2, t3, data, row⟩ := m
  simp only [fxV, msgV, Mg.cells, big] at *

  go_enter Tryz.func54, Tryz.ntmps54
  go_upto_region 3 with (first
    | (go_at_call 48; with_reducible refine HSt.out.mono ?_; rintro e w1 ⟨rfl, hb1⟩
       have A1 := hb1.alloc hb1.size (.cells #[.int .i64 ep, .int .i64 ho, .int .i64 ma, .int .i64 ch] 105)
       have S1 := Lib.hid (S0.out.below A1)
       have B1 := Lib.hid (HB0.out.trans (A1.mono HB0.out.size))
       have XM := Lib.hid (HM0.out.below A1 HM0.out.lt)
       have XS := Lib.hid (Bo.new w1 #[.int .i64 ep, .int .i64 ho, .int .i64 ma, .int .i64 ch] 105)
       clear A1 hb1))
  clear HSt S0 HB0 HM0
  generalize w1.alloc (.cells #[.int .i64 ep, .int .i64 ho, .int .i64 ma, .int .i64 ch] 105) = W1 at *
  generalize w1.heap.size = GS at *
  have z2 := XS.out.cell 2
  simp only [List.getElem?_toArray, List.getElem?_cons_zero, List.getElem?_cons_succ] at z2
  have HQb : Hid (∀ m, Calls Tryz.prog 72 #[.int .i64 fr] (W1.drewN m) fun e w' => e = .returned (.int .i64 bt) ∧ ∃ m', w' = W1.drewN m') := Lib.hid fun m => (HBt.out _).mono fun _ _ h => ⟨h.1, m, h.2.symm⟩
  go_quiet ((go_at_call 72; with_reducible exact HQb.out _))
  generalize hWq : W1.drewN nq = W2 at *
  have hbq : Below W1.heap.size W1 W2 := by rw [← hWq]; exact below_drewN _ _ _
  clear hWq
  have S2 := Lib.hid (S1.out.below hbq)
  have B2 := Lib.hid (B1.out.trans (hbq.mono B1.out.size))
  have XM2 := Lib.hid (XM.out.below hbq XM.out.lt)
  have XS2 := Lib.hid (XS.out.below hbq XS.out.lt)
  clear S1 B1 XM XS z2
  have y1 := XM2.out.cell 1
  have y2 := XM2.out.cell 2
  have z0 := XS2.out.cell 0
  have z2 := XS2.out.cell 2
  simp only [List.getElem?_toArray, List.getElem?_cons_zero, List.getElem?_cons_succ] at y1 y2 z0 z2
  have HOn := Lib.hid (on_any S2.out)
  rw [decide_eq_false (show ¬ 0 < L by omega)] at HOn
  have HSet := Lib.hid (fun w' (h : WS w' dB sB mB n D tB cB a b C2 L W) => set_ws h)
  go_upto_region 14 with (first
    | (go_at_call 62; with_reducible refine HOn.out.mono ?_; rintro e w5 ⟨rfl, rfl⟩)
    | (go_at_call 73; with_reducible refine (HPut.out _ S2.out).mono ?_; rintro e5 w5 ⟨rfl, hs5, hb5⟩
       have S5 := Lib.hid hs5
       have B5 : Hid (But (ours dB sB mB cB tB) w w5) := Lib.hid (((But.of_below B2.out).mono (by simp)).trans hb5)
       clear hs5 hb5))
  have q2 := S5.out.q2
  go_region_held3 (fun w' => w'.cell? ⟨tB, 2, none⟩ = some (.int .i64 W))
    (first
      | exact q2
      | exact (S5.out.below (Below.refl _ _).drew).q2
      | exact S6.out.q2)
    (first
      | (go_at_call 29; refine (HSet.out w5.drew (S5.out.below (Below.refl _ _).drew)).mono ?_; rintro e6 w6 ⟨rfl, hs6, hb6⟩
         have S6 := Lib.hid hs6
         have B6 : Hid (But (ours dB sB mB cB tB) w5 w6) := Lib.hid (((But.of_below (Below.refl w5.heap.size w5).drew).mono (by simp)).trans hb6)
         clear hs6 hb6))
  go_wp2
  go_ret
  exact ⟨rfl, S6.out, B5.out.trans B6.out⟩


set_option maxHeartbeats 4000000 in
theorem ask_putD1 (w : World) {tB cB a b : Nat} {c : M.Cl} {L W : Int} (h : WS w dB sB mB n d tB cB a b c L W) (fr : Int) (hf : 0 ≤ fr ∧ fr ≤ 1) (m : Mg) (hA : inM (fx c.text).ma fr = true) (hn : (fx c.text).ho ≠ fr) (hL : ¬ 0 < L) (hE : (fx c.text).ep ≠ big) (hp : M.puE n d a b c (fxT ⟨(fx c.text).ep + 1, fr, (fx c.text).ma, 0⟩) ≠ 0) :
    Calls Tryz.prog 54 #[.pointer (some ⟨tB, 0, none⟩), .int .i64 fr, msgV m] w fun e w' => e = .returned (.int .i64 (M.puE n d a b c (fxT ⟨(fx c.text).ep + 1, fr, (fx c.text).ma, 0⟩))) ∧ WS w' dB sB mB n (M.puD n d a b c (fxT ⟨(fx c.text).ep + 1, fr, (fx c.text).ma, 0⟩)) tB cB a b (M.puC n d a b c (fxT ⟨(fx c.text).ep + 1, fr, (fx c.text).ma, 0⟩)) L W ∧ But (ours dB sB mB cB tB) w w' := by

  have HB0 := Lib.hid ((Below.refl w.heap.size w).alloc (Nat.le_refl _) (.cells m.cells 37))
  have S0 := Lib.hid (h.below HB0.out)
  have HM0 := Lib.hid (Bo.new w m.cells 37)
  have HSt := Lib.hid (state_any _ S0.out)
  have HBt := Lib.hid (fun w' => bit_any w' hf)
  have hok := fx_ok c.text
  have hlw := h.lf
  have hww := h.wt
  obtain ⟨av, hand, hin, hout⟩ := and_is hf hok.2.2.1
  have hz := hin hA
  clear hin hout hA
  have hh1 : ((fx c.text).ho == fr) = false := by rw [beq_eq_false_iff_ne]; exact hn
  clear hn
  have hE2 : ((fx c.text).ep == big) = false := by rw [beq_eq_false_iff_ne]; exact hE
  have hE3 : (fx c.text).ep < big := by have := hok.1; omega
  have HPut := Lib.hid (fun (w' : World) (h : WS w' dB sB mB n d tB cB a b c L W) => Wt.put_any w' h ⟨(fx c.text).ep + 1, fr, (fx c.text).ma, 0⟩ ⟨by simp only; have := hok.1; omega, by simp only; omega, hok.2.2.1, by simp [big]⟩)
  have hp2 : (M.puE n d a b c (fxT ⟨(fx c.text).ep + 1, fr, (fx c.text).ma, 0⟩) == 0) = false := by rw [beq_eq_false_iff_ne]; exact hp
  generalize M.puE n d a b c (fxT ⟨(fx c.text).ep + 1, fr, (fx c.text).ma, 0⟩) = E at *
  generalize M.puD n d a b c (fxT ⟨(fx c.text).ep + 1, fr, (fx c.text).ma, 0⟩) = D at *
  generalize M.puC n d a b c (fxT ⟨(fx c.text).ep + 1, fr, (fx c.text).ma, 0⟩) = C2 at *
  clear hE hp
  obtain ⟨ok1, ok2, ok3, ok4⟩ := hok
  generalize fx c.text = x at *
  generalize bitI fr = bt at *
  obtain ⟨ep, ho, ma, ch⟩ := x
  obtain ⟨kind, epoch, seq, nn, block, client, e0, t0, t1, t2, t3, data, row⟩ := m
  simp only [fxV, msgV, Mg.cells, big] at *

  go_enter Tryz.func54, Tryz.ntmps54
  go_upto_region 3 with (first
    | (go_at_call 48; with_reducible refine HSt.out.mono ?_; rintro e w1 ⟨rfl, hb1⟩
       have A1 := hb1.alloc hb1.size (.cells #[.int .i64 ep, .int .i64 ho, .int .i64 ma, .int .i64 ch] 105)
       have S1 := Lib.hid (S0.out.below A1)
       have B1 := Lib.hid (HB0.out.trans (A1.mono HB0.out.size))
       have XM := Lib.hid (HM0.out.below A1 HM0.out.lt)
       have XS := Lib.hid (Bo.new w1 #[.int .i64 ep, .int .i64 ho, .int .i64 ma, .int .i64 ch] 105)
       clear A1 hb1))
  clear HSt S0 HB0 HM0
  generalize w1.alloc (.cells #[.int .i64 ep, .int .i64 ho, .int .i64 ma, .int .i64 ch] 105) = W1 at *
  generalize w1.heap.size = GS at *
  have z2 := XS.out.cell 2
  simp only [List.getElem?_toArray, List.getElem?_cons_zero, List.getElem?_cons_succ] at z2
  have HQb : Hid (∀ m, Calls Tryz.prog 72 #[.int .i64 fr] (W1.drewN m) fun e w' => e = .returned (.int .i64 bt) ∧ ∃ m', w' = W1.drewN m') := Lib.hid fun m => (HBt.out _).mono fun _ _ h => ⟨h.1, m, h.2.symm⟩
  go_quiet ((go_at_call 72; with_reducible exact HQb.out _))
  generalize hWq : W1.drewN nq = W2 at *
  have hbq : Below W1.heap.size W1 W2 := by rw [← hWq]; exact below_drewN _ _ _
  clear hWq
  have S2 := Lib.hid (S1.out.below hbq)
  have B2 := Lib.hid (B1.out.trans (hbq.mono B1.out.size))
  have XM2 := Lib.hid (XM.out.below hbq XM.out.lt)
  have XS2 := Lib.hid (XS.out.below hbq XS.out.lt)
  clear S1 B1 XM XS z2
  have y1 := XM2.out.cell 1
  have y2 := XM2.out.cell 2
  have z0 := XS2.out.cell 0
  have z2 := XS2.out.cell 2
  simp only [List.getElem?_toArray, List.getElem?_cons_zero, List.getElem?_cons_succ] at y1 y2 z0 z2
  have HOn := Lib.hid (on_any S2.out)
  rw [decide_eq_false (show ¬ 0 < L by omega)] at HOn
  go_wp2_with (first
    | (go_at_call 62; with_reducible refine HOn.out.mono ?_; rintro e w5 ⟨rfl, rfl⟩)
    | (go_at_call 73; with_reducible refine (HPut.out _ S2.out).mono ?_; rintro e5 w5 ⟨rfl, hs5, hb5⟩
       have S5 := Lib.hid hs5
       have B5 : Hid (But (ours dB sB mB cB tB) w w5) := Lib.hid (((But.of_below B2.out).mono (by simp)).trans hb5)
       clear hs5 hb5))
  go_ret
  exact ⟨rfl, S5.out, B5.out⟩


set_option maxHeartbeats 4000000 in
theorem ask_fullE (w : World) {tB cB a b : Nat} {c : M.Cl} {L W : Int} (h : WS w dB sB mB n d tB cB a b c L W) (fr : Int) (hf : 0 ≤ fr ∧ fr ≤ 1) (m : Mg) (hA : inM (fx c.text).ma fr = true) (hn : (fx c.text).ho = fr) (hq : m.seq ≠ 0) (hE : (fx c.text).ep = big) :
    Calls Tryz.prog 54 #[.pointer (some ⟨tB, 0, none⟩), .int .i64 fr, msgV m] w fun e w' => e = .returned (.int .i64 22) ∧ WS w' dB sB mB n d tB cB a b c L W ∧ But (ours dB sB mB cB tB) w w' := by

  have HB0 := Lib.hid ((Below.refl w.heap.size w).alloc (Nat.le_refl _) (.cells m.cells 37))
  have S0 := Lib.hid (h.below HB0.out)
  have HM0 := Lib.hid (Bo.new w m.cells 37)
  have HSt := Lib.hid (state_any _ S0.out)
  have HBt := Lib.hid (fun w' => bit_any w' hf)
  have hok := fx_ok c.text
  have hlw := h.lf
  have hww := h.wt
  obtain ⟨av, hand, hin, hout⟩ := and_is hf hok.2.2.1
  have hz := hin hA
  clear hin hout hA
  have hh1 : ((fx c.text).ho == fr) = true := by simpa using hn
  have hh2 : (m.seq == 0) = false := by rw [beq_eq_false_iff_ne]; exact hq
  clear hn hq
  have hE2 : ((fx c.text).ep == big) = true := by simpa using hE
  clear hE
  obtain ⟨ok1, ok2, ok3, ok4⟩ := hok
  generalize fx c.text = x at *
  generalize bitI fr = bt at *
  obtain ⟨ep, ho, ma, ch⟩ := x
  obtain ⟨kind, epoch, seq, nn, block, client, e0, t0, t1, t2, t3, data, row⟩ := m
  simp only [fxV, msgV, Mg.cells, big] at *

  go_enter Tryz.func54, Tryz.ntmps54
  go_upto_region 3 with (first
    | (go_at_call 48; with_reducible refine HSt.out.mono ?_; rintro e w1 ⟨rfl, hb1⟩
       have A1 := hb1.alloc hb1.size (.cells #[.int .i64 ep, .int .i64 ho, .int .i64 ma, .int .i64 ch] 105)
       have S1 := Lib.hid (S0.out.below A1)
       have B1 := Lib.hid (HB0.out.trans (A1.mono HB0.out.size))
       have XM := Lib.hid (HM0.out.below A1 HM0.out.lt)
       have XS := Lib.hid (Bo.new w1 #[.int .i64 ep, .int .i64 ho, .int .i64 ma, .int .i64 ch] 105)
       clear A1 hb1))
  clear HSt S0 HB0 HM0
  generalize w1.alloc (.cells #[.int .i64 ep, .int .i64 ho, .int .i64 ma, .int .i64 ch] 105) = W1 at *
  generalize w1.heap.size = GS at *
  have z2 := XS.out.cell 2
  simp only [List.getElem?_toArray, List.getElem?_cons_zero, List.getElem?_cons_succ] at z2
  have HQb : Hid (∀ m, Calls Tryz.prog 72 #[.int .i64 fr] (W1.drewN m) fun e w' => e = .returned (.int .i64 bt) ∧ ∃ m', w' = W1.drewN m') := Lib.hid fun m => (HBt.out _).mono fun _ _ h => ⟨h.1, m, h.2.symm⟩
  go_quiet ((go_at_call 72; with_reducible exact HQb.out _))
  generalize hWq : W1.drewN nq = W2 at *
  have hbq : Below W1.heap.size W1 W2 := by rw [← hWq]; exact below_drewN _ _ _
  clear hWq
  have S2 := Lib.hid (S1.out.below hbq)
  have B2 := Lib.hid (B1.out.trans (hbq.mono B1.out.size))
  have XM2 := Lib.hid (XM.out.below hbq XM.out.lt)
  have XS2 := Lib.hid (XS.out.below hbq XS.out.lt)
  clear S1 B1 XM XS z2
  have y1 := XM2.out.cell 1
  have y2 := XM2.out.cell 2
  have z0 := XS2.out.cell 0
  have z2 := XS2.out.cell 2
  simp only [List.getElem?_toArray, List.getElem?_cons_zero, List.getElem?_cons_succ] at y1 y2 z0 z2
  go_wp2_with fail
  go_ret
  exact ⟨rfl, S2.out, (But.of_below B2.out).mono (by simp)⟩


set_option maxHeartbeats 4000000 in
theorem ask_putE0 (w : World) {tB cB a b : Nat} {c : M.Cl} {L W : Int} (h : WS w dB sB mB n d tB cB a b c L W) (fr : Int) (hf : 0 ≤ fr ∧ fr ≤ 1) (m : Mg) (hA : inM (fx c.text).ma fr = true) (hn : (fx c.text).ho = fr) (hq : m.seq ≠ 0) (hE : (fx c.text).ep ≠ big) (hp : M.puE n d a b c (fxT ⟨(fx c.text).ep + 1, fr, (fx c.text).ma, 0⟩) = 0) :
    Calls Tryz.prog 54 #[.pointer (some ⟨tB, 0, none⟩), .int .i64 fr, msgV m] w fun e w' => e = .returned (.int .i64 0) ∧ WS w' dB sB mB n (M.puD n d a b c (fxT ⟨(fx c.text).ep + 1, fr, (fx c.text).ma, 0⟩)) tB cB a b (M.puC n d a b c (fxT ⟨(fx c.text).ep + 1, fr, (fx c.text).ma, 0⟩)) W W ∧ But (ours dB sB mB cB tB) w w' := by

  have HB0 := Lib.hid ((Below.refl w.heap.size w).alloc (Nat.le_refl _) (.cells m.cells 37))
  have S0 := Lib.hid (h.below HB0.out)
  have HM0 := Lib.hid (Bo.new w m.cells 37)
  have HSt := Lib.hid (state_any _ S0.out)
  have HBt := Lib.hid (fun w' => bit_any w' hf)
  have hok := fx_ok c.text
  have hlw := h.lf
  have hww := h.wt
  obtain ⟨av, hand, hin, hout⟩ := and_is hf hok.2.2.1
  have hz := hin hA
  clear hin hout hA
  have hh1 : ((fx c.text).ho == fr) = true := by simpa using hn
  have hh2 : (m.seq == 0) = false := by rw [beq_eq_false_iff_ne]; exact hq
  clear hn hq
  have hE2 : ((fx c.text).ep == big) = false := by rw [beq_eq_false_iff_ne]; exact hE
  have hE3 : (fx c.text).ep < big := by have := hok.1; omega
  have HPut := Lib.hid (fun (w' : World) (h : WS w' dB sB mB n d tB cB a b c L W) => Wt.put_any w' h ⟨(fx c.text).ep + 1, fr, (fx c.text).ma, 0⟩ ⟨by simp only; have := hok.1; omega, by simp only; omega, hok.2.2.1, by simp [big]⟩)
  rw [hp] at HPut
  generalize M.puD n d a b c (fxT ⟨(fx c.text).ep + 1, fr, (fx c.text).ma, 0⟩) = D at *
  generalize M.puC n d a b c (fxT ⟨(fx c.text).ep + 1, fr, (fx c.text).ma, 0⟩) = C2 at *
  clear hE hp
  obtain ⟨ok1, ok2, ok3, ok4⟩ := hok
  generalize fx c.text = x at *
  generalize bitI fr = bt at *
  obtain ⟨ep, ho, ma, ch⟩ := x
  obtain ⟨kind, epoch, seq, nn, block, client, e0, t0, t1, t2, t3, data, row⟩ := m
  simp only [fxV, msgV, Mg.cells, big] at *

  go_enter Tryz.func54, Tryz.ntmps54
  go_upto_region 3 with (first
    | (go_at_call 48; with_reducible refine HSt.out.mono ?_; rintro e w1 ⟨rfl, hb1⟩
       have A1 := hb1.alloc hb1.size (.cells #[.int .i64 ep, .int .i64 ho, .int .i64 ma, .int .i64 ch] 105)
       have S1 := Lib.hid (S0.out.below A1)
       have B1 := Lib.hid (HB0.out.trans (A1.mono HB0.out.size))
       have XM := Lib.hid (HM0.out.below A1 HM0.out.lt)
       have XS := Lib.hid (Bo.new w1 #[.int .i64 ep, .int .i64 ho, .int .i64 ma, .int .i64 ch] 105)
       clear A1 hb1))
  clear HSt S0 HB0 HM0
  generalize w1.alloc (.cells #[.int .i64 ep, .int .i64 ho, .int .i64 ma, .int .i64 ch] 105) = W1 at *
  generalize w1.heap.size = GS at *
  have z2 := XS.out.cell 2
  simp only [List.getElem?_toArray, List.getElem?_cons_zero, List.getElem?_cons_succ] at z2
  have HQb : Hid (∀ m, Calls Tryz.prog 72 #[.int .i64 fr] (W1.drewN m) fun e w' => e = .returned (.int .i64 bt) ∧ ∃ m', w' = W1.drewN m') := Lib.hid fun m => (HBt.out _).mono fun _ _ h => ⟨h.1, m, h.2.symm⟩
  go_quiet ((go_at_call 72; with_reducible exact HQb.out _))
  generalize hWq : W1.drewN nq = W2 at *
  have hbq : Below W1.heap.size W1 W2 := by rw [← hWq]; exact below_drewN _ _ _
  clear hWq
  have S2 := Lib.hid (S1.out.below hbq)
  have B2 := Lib.hid (B1.out.trans (hbq.mono B1.out.size))
  have XM2 := Lib.hid (XM.out.below hbq XM.out.lt)
  have XS2 := Lib.hid (XS.out.below hbq XS.out.lt)
  clear S1 B1 XM XS z2
  have y1 := XM2.out.cell 1
  have y2 := XM2.out.cell 2
  have z0 := XS2.out.cell 0
  have z2 := XS2.out.cell 2
  simp only [List.getElem?_toArray, List.getElem?_cons_zero, List.getElem?_cons_succ] at y1 y2 z0 z2
  have HSet := Lib.hid (fun w' (h : WS w' dB sB mB n D tB cB a b C2 L W) => set_ws h)
  go_upto_region 14 with (first
    | (go_at_call 73; with_reducible refine (HPut.out _ S2.out).mono ?_; rintro e5 w5 ⟨rfl, hs5, hb5⟩
       have S5 := Lib.hid hs5
       have B5 : Hid (But (ours dB sB mB cB tB) w w5) := Lib.hid (((But.of_below B2.out).mono (by simp)).trans hb5)
       clear hs5 hb5))
  have q2 := S5.out.q2
  go_region_held3 (fun w' => w'.cell? ⟨tB, 2, none⟩ = some (.int .i64 W))
    (first
      | exact q2
      | exact (S5.out.below (Below.refl _ _).drew).q2
      | exact S6.out.q2)
    (first
      | (go_at_call 29; refine (HSet.out w5.drew (S5.out.below (Below.refl _ _).drew)).mono ?_; rintro e6 w6 ⟨rfl, hs6, hb6⟩
         have S6 := Lib.hid hs6
         have B6 : Hid (But (ours dB sB mB cB tB) w5 w6) := Lib.hid (((But.of_below (Below.refl w5.heap.size w5).drew).mono (by simp)).trans hb6)
         clear hs6 hb6))
  go_wp2
  go_ret
  exact ⟨rfl, S6.out, B5.out.trans B6.out⟩


set_option maxHeartbeats 4000000 in
theorem ask_putE1 (w : World) {tB cB a b : Nat} {c : M.Cl} {L W : Int} (h : WS w dB sB mB n d tB cB a b c L W) (fr : Int) (hf : 0 ≤ fr ∧ fr ≤ 1) (m : Mg) (hA : inM (fx c.text).ma fr = true) (hn : (fx c.text).ho = fr) (hq : m.seq ≠ 0) (hE : (fx c.text).ep ≠ big) (hp : M.puE n d a b c (fxT ⟨(fx c.text).ep + 1, fr, (fx c.text).ma, 0⟩) ≠ 0) :
    Calls Tryz.prog 54 #[.pointer (some ⟨tB, 0, none⟩), .int .i64 fr, msgV m] w fun e w' => e = .returned (.int .i64 (M.puE n d a b c (fxT ⟨(fx c.text).ep + 1, fr, (fx c.text).ma, 0⟩))) ∧ WS w' dB sB mB n (M.puD n d a b c (fxT ⟨(fx c.text).ep + 1, fr, (fx c.text).ma, 0⟩)) tB cB a b (M.puC n d a b c (fxT ⟨(fx c.text).ep + 1, fr, (fx c.text).ma, 0⟩)) L W ∧ But (ours dB sB mB cB tB) w w' := by

  have HB0 := Lib.hid ((Below.refl w.heap.size w).alloc (Nat.le_refl _) (.cells m.cells 37))
  have S0 := Lib.hid (h.below HB0.out)
  have HM0 := Lib.hid (Bo.new w m.cells 37)
  have HSt := Lib.hid (state_any _ S0.out)
  have HBt := Lib.hid (fun w' => bit_any w' hf)
  have hok := fx_ok c.text
  have hlw := h.lf
  have hww := h.wt
  obtain ⟨av, hand, hin, hout⟩ := and_is hf hok.2.2.1
  have hz := hin hA
  clear hin hout hA
  have hh1 : ((fx c.text).ho == fr) = true := by simpa using hn
  have hh2 : (m.seq == 0) = false := by rw [beq_eq_false_iff_ne]; exact hq
  clear hn hq
  have hE2 : ((fx c.text).ep == big) = false := by rw [beq_eq_false_iff_ne]; exact hE
  have hE3 : (fx c.text).ep < big := by have := hok.1; omega
  have HPut := Lib.hid (fun (w' : World) (h : WS w' dB sB mB n d tB cB a b c L W) => Wt.put_any w' h ⟨(fx c.text).ep + 1, fr, (fx c.text).ma, 0⟩ ⟨by simp only; have := hok.1; omega, by simp only; omega, hok.2.2.1, by simp [big]⟩)
  have hp2 : (M.puE n d a b c (fxT ⟨(fx c.text).ep + 1, fr, (fx c.text).ma, 0⟩) == 0) = false := by rw [beq_eq_false_iff_ne]; exact hp
  generalize M.puE n d a b c (fxT ⟨(fx c.text).ep + 1, fr, (fx c.text).ma, 0⟩) = E at *
  generalize M.puD n d a b c (fxT ⟨(fx c.text).ep + 1, fr, (fx c.text).ma, 0⟩) = D at *
  generalize M.puC n d a b c (fxT ⟨(fx c.text).ep + 1, fr, (fx c.text).ma, 0⟩) = C2 at *
  clear hE hp
  obtain ⟨ok1, ok2, ok3, ok4⟩ := hok
  generalize fx c.text = x at *
  generalize bitI fr = bt at *
  obtain ⟨ep, ho, ma, ch⟩ := x
  obtain ⟨kind, epoch, seq, nn, block, client, e0, t0, t1, t2, t3, data, row⟩ := m
  simp only [fxV, msgV, Mg.cells, big] at *

  go_enter Tryz.func54, Tryz.ntmps54
  go_upto_region 3 with (first
    | (go_at_call 48; with_reducible refine HSt.out.mono ?_; rintro e w1 ⟨rfl, hb1⟩
       have A1 := hb1.alloc hb1.size (.cells #[.int .i64 ep, .int .i64 ho, .int .i64 ma, .int .i64 ch] 105)
       have S1 := Lib.hid (S0.out.below A1)
       have B1 := Lib.hid (HB0.out.trans (A1.mono HB0.out.size))
       have XM := Lib.hid (HM0.out.below A1 HM0.out.lt)
       have XS := Lib.hid (Bo.new w1 #[.int .i64 ep, .int .i64 ho, .int .i64 ma, .int .i64 ch] 105)
       clear A1 hb1))
  clear HSt S0 HB0 HM0
  generalize w1.alloc (.cells #[.int .i64 ep, .int .i64 ho, .int .i64 ma, .int .i64 ch] 105) = W1 at *
  generalize w1.heap.size = GS at *
  have z2 := XS.out.cell 2
  simp only [List.getElem?_toArray, List.getElem?_cons_zero, List.getElem?_cons_succ] at z2
  have HQb : Hid (∀ m, Calls Tryz.prog 72 #[.int .i64 fr] (W1.drewN m) fun e w' => e = .returned (.int .i64 bt) ∧ ∃ m', w' = W1.drewN m') := Lib.hid fun m => (HBt.out _).mono fun _ _ h => ⟨h.1, m, h.2.symm⟩
  go_quiet ((go_at_call 72; with_reducible exact HQb.out _))
  generalize hWq : W1.drewN nq = W2 at *
  have hbq : Below W1.heap.size W1 W2 := by rw [← hWq]; exact below_drewN _ _ _
  clear hWq
  have S2 := Lib.hid (S1.out.below hbq)
  have B2 := Lib.hid (B1.out.trans (hbq.mono B1.out.size))
  have XM2 := Lib.hid (XM.out.below hbq XM.out.lt)
  have XS2 := Lib.hid (XS.out.below hbq XS.out.lt)
  clear S1 B1 XM XS z2
  have y1 := XM2.out.cell 1
  have y2 := XM2.out.cell 2
  have z0 := XS2.out.cell 0
  have z2 := XS2.out.cell 2
  simp only [List.getElem?_toArray, List.getElem?_cons_zero, List.getElem?_cons_succ] at y1 y2 z0 z2
  go_wp2_with (first
    | (go_at_call 73; with_reducible refine (HPut.out _ S2.out).mono ?_; rintro e5 w5 ⟨rfl, hs5, hb5⟩
       have S5 := Lib.hid hs5
       have B5 : Hid (But (ours dB sB mB cB tB) w w5) := Lib.hid (((But.of_below B2.out).mono (by simp)).trans hb5)
       clear hs5 hb5))
  go_ret
  exact ⟨rfl, S5.out, B5.out⟩


set_option maxHeartbeats 4000000 in
theorem ask_fullF (w : World) {tB cB a b : Nat} {c : M.Cl} {L W : Int} (h : WS w dB sB mB n d tB cB a b c L W) (fr : Int) (hf : 0 ≤ fr ∧ fr ≤ 1) (m : Mg) (hA : inM (fx c.text).ma fr = true) (hn : (fx c.text).ho = fr) (hq : m.seq = 0) (he : m.epoch ≠ (fx c.text).ep) (hE : (fx c.text).ep = big) :
    Calls Tryz.prog 54 #[.pointer (some ⟨tB, 0, none⟩), .int .i64 fr, msgV m] w fun e w' => e = .returned (.int .i64 22) ∧ WS w' dB sB mB n d tB cB a b c L W ∧ But (ours dB sB mB cB tB) w w' := by

  have HB0 := Lib.hid ((Below.refl w.heap.size w).alloc (Nat.le_refl _) (.cells m.cells 37))
  have S0 := Lib.hid (h.below HB0.out)
  have HM0 := Lib.hid (Bo.new w m.cells 37)
  have HSt := Lib.hid (state_any _ S0.out)
  have HBt := Lib.hid (fun w' => bit_any w' hf)
  have hok := fx_ok c.text
  have hlw := h.lf
  have hww := h.wt
  obtain ⟨av, hand, hin, hout⟩ := and_is hf hok.2.2.1
  have hz := hin hA
  clear hin hout hA
  have hh1 : ((fx c.text).ho == fr) = true := by simpa using hn
  have hh2 : (m.seq == 0) = true := by simpa using hq
  have hh3 : (m.epoch == (fx c.text).ep) = false := by rw [beq_eq_false_iff_ne]; exact he
  clear hn hq he
  have hE2 : ((fx c.text).ep == big) = true := by simpa using hE
  clear hE
  obtain ⟨ok1, ok2, ok3, ok4⟩ := hok
  generalize fx c.text = x at *
  generalize bitI fr = bt at *
  obtain ⟨ep, ho, ma, ch⟩ := x
  obtain ⟨kind, epoch, seq, nn, block, client, e0, t0, t1, t2, t3, data, row⟩ := m
  simp only [fxV, msgV, Mg.cells, big] at *

  go_enter Tryz.func54, Tryz.ntmps54
  go_upto_region 3 with (first
    | (go_at_call 48; with_reducible refine HSt.out.mono ?_; rintro e w1 ⟨rfl, hb1⟩
       have A1 := hb1.alloc hb1.size (.cells #[.int .i64 ep, .int .i64 ho, .int .i64 ma, .int .i64 ch] 105)
       have S1 := Lib.hid (S0.out.below A1)
       have B1 := Lib.hid (HB0.out.trans (A1.mono HB0.out.size))
       have XM := Lib.hid (HM0.out.below A1 HM0.out.lt)
       have XS := Lib.hid (Bo.new w1 #[.int .i64 ep, .int .i64 ho, .int .i64 ma, .int .i64 ch] 105)
       clear A1 hb1))
  clear HSt S0 HB0 HM0
  generalize w1.alloc (.cells #[.int .i64 ep, .int .i64 ho, .int .i64 ma, .int .i64 ch] 105) = W1 at *
  generalize w1.heap.size = GS at *
  have z2 := XS.out.cell 2
  simp only [List.getElem?_toArray, List.getElem?_cons_zero, List.getElem?_cons_succ] at z2
  have HQb : Hid (∀ m, Calls Tryz.prog 72 #[.int .i64 fr] (W1.drewN m) fun e w' => e = .returned (.int .i64 bt) ∧ ∃ m', w' = W1.drewN m') := Lib.hid fun m => (HBt.out _).mono fun _ _ h => ⟨h.1, m, h.2.symm⟩
  go_quiet ((go_at_call 72; with_reducible exact HQb.out _))
  generalize hWq : W1.drewN nq = W2 at *
  have hbq : Below W1.heap.size W1 W2 := by rw [← hWq]; exact below_drewN _ _ _
  clear hWq
  have S2 := Lib.hid (S1.out.below hbq)
  have B2 := Lib.hid (B1.out.trans (hbq.mono B1.out.size))
  have XM2 := Lib.hid (XM.out.below hbq XM.out.lt)
  have XS2 := Lib.hid (XS.out.below hbq XS.out.lt)
  clear S1 B1 XM XS z2
  have y1 := XM2.out.cell 1
  have y2 := XM2.out.cell 2
  have z0 := XS2.out.cell 0
  have z2 := XS2.out.cell 2
  simp only [List.getElem?_toArray, List.getElem?_cons_zero, List.getElem?_cons_succ] at y1 y2 z0 z2
  go_wp2_with fail
  go_ret
  exact ⟨rfl, S2.out, (But.of_below B2.out).mono (by simp)⟩


set_option maxHeartbeats 4000000 in
theorem ask_putF0 (w : World) {tB cB a b : Nat} {c : M.Cl} {L W : Int} (h : WS w dB sB mB n d tB cB a b c L W) (fr : Int) (hf : 0 ≤ fr ∧ fr ≤ 1) (m : Mg) (hA : inM (fx c.text).ma fr = true) (hn : (fx c.text).ho = fr) (hq : m.seq = 0) (he : m.epoch ≠ (fx c.text).ep) (hE : (fx c.text).ep ≠ big) (hp : M.puE n d a b c (fxT ⟨(fx c.text).ep + 1, fr, (fx c.text).ma, 0⟩) = 0) :
    Calls Tryz.prog 54 #[.pointer (some ⟨tB, 0, none⟩), .int .i64 fr, msgV m] w fun e w' => e = .returned (.int .i64 0) ∧ WS w' dB sB mB n (M.puD n d a b c (fxT ⟨(fx c.text).ep + 1, fr, (fx c.text).ma, 0⟩)) tB cB a b (M.puC n d a b c (fxT ⟨(fx c.text).ep + 1, fr, (fx c.text).ma, 0⟩)) W W ∧ But (ours dB sB mB cB tB) w w' := by

  have HB0 := Lib.hid ((Below.refl w.heap.size w).alloc (Nat.le_refl _) (.cells m.cells 37))
  have S0 := Lib.hid (h.below HB0.out)
  have HM0 := Lib.hid (Bo.new w m.cells 37)
  have HSt := Lib.hid (state_any _ S0.out)
  have HBt := Lib.hid (fun w' => bit_any w' hf)
  have hok := fx_ok c.text
  have hlw := h.lf
  have hww := h.wt
  obtain ⟨av, hand, hin, hout⟩ := and_is hf hok.2.2.1
  have hz := hin hA
  clear hin hout hA
  have hh1 : ((fx c.text).ho == fr) = true := by simpa using hn
  have hh2 : (m.seq == 0) = true := by simpa using hq
  have hh3 : (m.epoch == (fx c.text).ep) = false := by rw [beq_eq_false_iff_ne]; exact he
  clear hn hq he
  have hE2 : ((fx c.text).ep == big) = false := by rw [beq_eq_false_iff_ne]; exact hE
  have hE3 : (fx c.text).ep < big := by have := hok.1; omega
  have HPut := Lib.hid (fun (w' : World) (h : WS w' dB sB mB n d tB cB a b c L W) => Wt.put_any w' h ⟨(fx c.text).ep + 1, fr, (fx c.text).ma, 0⟩ ⟨by simp only; have := hok.1; omega, by simp only; omega, hok.2.2.1, by simp [big]⟩)
  rw [hp] at HPut
  generalize M.puD n d a b c (fxT ⟨(fx c.text).ep + 1, fr, (fx c.text).ma, 0⟩) = D at *
  generalize M.puC n d a b c (fxT ⟨(fx c.text).ep + 1, fr, (fx c.text).ma, 0⟩) = C2 at *
  clear hE hp
  obtain ⟨ok1, ok2, ok3, ok4⟩ := hok
  generalize fx c.text = x at *
  generalize bitI fr = bt at *
  obtain ⟨ep, ho, ma, ch⟩ := x
  obtain ⟨kind, epoch, seq, nn, block, client, e0, t0, t1, t2, t3, data, row⟩ := m
  simp only [fxV, msgV, Mg.cells, big] at *

  go_enter Tryz.func54, Tryz.ntmps54
  go_upto_region 3 with (first
    | (go_at_call 48; with_reducible refine HSt.out.mono ?_; rintro e w1 ⟨rfl, hb1⟩
       have A1 := hb1.alloc hb1.size (.cells #[.int .i64 ep, .int .i64 ho, .int .i64 ma, .int .i64 ch] 105)
       have S1 := Lib.hid (S0.out.below A1)
       have B1 := Lib.hid (HB0.out.trans (A1.mono HB0.out.size))
       have XM := Lib.hid (HM0.out.below A1 HM0.out.lt)
       have XS := Lib.hid (Bo.new w1 #[.int .i64 ep, .int .i64 ho, .int .i64 ma, .int .i64 ch] 105)
       clear A1 hb1))
  clear HSt S0 HB0 HM0
  generalize w1.alloc (.cells #[.int .i64 ep, .int .i64 ho, .int .i64 ma, .int .i64 ch] 105) = W1 at *
  generalize w1.heap.size = GS at *
  have z2 := XS.out.cell 2
  simp only [List.getElem?_toArray, List.getElem?_cons_zero, List.getElem?_cons_succ] at z2
  have HQb : Hid (∀ m, Calls Tryz.prog 72 #[.int .i64 fr] (W1.drewN m) fun e w' => e = .returned (.int .i64 bt) ∧ ∃ m', w' = W1.drewN m') := Lib.hid fun m => (HBt.out _).mono fun _ _ h => ⟨h.1, m, h.2.symm⟩
  go_quiet ((go_at_call 72; with_reducible exact HQb.out _))
  generalize hWq : W1.drewN nq = W2 at *
  have hbq : Below W1.heap.size W1 W2 := by rw [← hWq]; exact below_drewN _ _ _
  clear hWq
  have S2 := Lib.hid (S1.out.below hbq)
  have B2 := Lib.hid (B1.out.trans (hbq.mono B1.out.size))
  have XM2 := Lib.hid (XM.out.below hbq XM.out.lt)
  have XS2 := Lib.hid (XS.out.below hbq XS.out.lt)
  clear S1 B1 XM XS z2
  have y1 := XM2.out.cell 1
  have y2 := XM2.out.cell 2
  have z0 := XS2.out.cell 0
  have z2 := XS2.out.cell 2
  simp only [List.getElem?_toArray, List.getElem?_cons_zero, List.getElem?_cons_succ] at y1 y2 z0 z2
  have HSet := Lib.hid (fun w' (h : WS w' dB sB mB n D tB cB a b C2 L W) => set_ws h)
  go_upto_region 14 with (first
    | (go_at_call 73; with_reducible refine (HPut.out _ S2.out).mono ?_; rintro e5 w5 ⟨rfl, hs5, hb5⟩
       have S5 := Lib.hid hs5
       have B5 : Hid (But (ours dB sB mB cB tB) w w5) := Lib.hid (((But.of_below B2.out).mono (by simp)).trans hb5)
       clear hs5 hb5))
  have q2 := S5.out.q2
  go_region_held3 (fun w' => w'.cell? ⟨tB, 2, none⟩ = some (.int .i64 W))
    (first
      | exact q2
      | exact (S5.out.below (Below.refl _ _).drew).q2
      | exact S6.out.q2)
    (first
      | (go_at_call 29; refine (HSet.out w5.drew (S5.out.below (Below.refl _ _).drew)).mono ?_; rintro e6 w6 ⟨rfl, hs6, hb6⟩
         have S6 := Lib.hid hs6
         have B6 : Hid (But (ours dB sB mB cB tB) w5 w6) := Lib.hid (((But.of_below (Below.refl w5.heap.size w5).drew).mono (by simp)).trans hb6)
         clear hs6 hb6))
  go_wp2
  go_ret
  exact ⟨rfl, S6.out, B5.out.trans B6.out⟩


set_option maxHeartbeats 4000000 in
theorem ask_putF1 (w : World) {tB cB a b : Nat} {c : M.Cl} {L W : Int} (h : WS w dB sB mB n d tB cB a b c L W) (fr : Int) (hf : 0 ≤ fr ∧ fr ≤ 1) (m : Mg) (hA : inM (fx c.text).ma fr = true) (hn : (fx c.text).ho = fr) (hq : m.seq = 0) (he : m.epoch ≠ (fx c.text).ep) (hE : (fx c.text).ep ≠ big) (hp : M.puE n d a b c (fxT ⟨(fx c.text).ep + 1, fr, (fx c.text).ma, 0⟩) ≠ 0) :
    Calls Tryz.prog 54 #[.pointer (some ⟨tB, 0, none⟩), .int .i64 fr, msgV m] w fun e w' => e = .returned (.int .i64 (M.puE n d a b c (fxT ⟨(fx c.text).ep + 1, fr, (fx c.text).ma, 0⟩))) ∧ WS w' dB sB mB n (M.puD n d a b c (fxT ⟨(fx c.text).ep + 1, fr, (fx c.text).ma, 0⟩)) tB cB a b (M.puC n d a b c (fxT ⟨(fx c.text).ep + 1, fr, (fx c.text).ma, 0⟩)) L W ∧ But (ours dB sB mB cB tB) w w' := by

  have HB0 := Lib.hid ((Below.refl w.heap.size w).alloc (Nat.le_refl _) (.cells m.cells 37))
  have S0 := Lib.hid (h.below HB0.out)
  have HM0 := Lib.hid (Bo.new w m.cells 37)
  have HSt := Lib.hid (state_any _ S0.out)
  have HBt := Lib.hid (fun w' => bit_any w' hf)
  have hok := fx_ok c.text
  have hlw := h.lf
  have hww := h.wt
  obtain ⟨av, hand, hin, hout⟩ := and_is hf hok.2.2.1
  have hz := hin hA
  clear hin hout hA
  have hh1 : ((fx c.text).ho == fr) = true := by simpa using hn
  have hh2 : (m.seq == 0) = true := by simpa using hq
  have hh3 : (m.epoch == (fx c.text).ep) = false := by rw [beq_eq_false_iff_ne]; exact he
  clear hn hq he
  have hE2 : ((fx c.text).ep == big) = false := by rw [beq_eq_false_iff_ne]; exact hE
  have hE3 : (fx c.text).ep < big := by have := hok.1; omega
  have HPut := Lib.hid (fun (w' : World) (h : WS w' dB sB mB n d tB cB a b c L W) => Wt.put_any w' h ⟨(fx c.text).ep + 1, fr, (fx c.text).ma, 0⟩ ⟨by simp only; have := hok.1; omega, by simp only; omega, hok.2.2.1, by simp [big]⟩)
  have hp2 : (M.puE n d a b c (fxT ⟨(fx c.text).ep + 1, fr, (fx c.text).ma, 0⟩) == 0) = false := by rw [beq_eq_false_iff_ne]; exact hp
  generalize M.puE n d a b c (fxT ⟨(fx c.text).ep + 1, fr, (fx c.text).ma, 0⟩) = E at *
  generalize M.puD n d a b c (fxT ⟨(fx c.text).ep + 1, fr, (fx c.text).ma, 0⟩) = D at *
  generalize M.puC n d a b c (fxT ⟨(fx c.text).ep + 1, fr, (fx c.text).ma, 0⟩) = C2 at *
  clear hE hp
  obtain ⟨ok1, ok2, ok3, ok4⟩ := hok
  generalize fx c.text = x at *
  generalize bitI fr = bt at *
  obtain ⟨ep, ho, ma, ch⟩ := x
  obtain ⟨kind, epoch, seq, nn, block, client, e0, t0, t1, t2, t3, data, row⟩ := m
  simp only [fxV, msgV, Mg.cells, big] at *

  go_enter Tryz.func54, Tryz.ntmps54
  go_upto_region 3 with (first
    | (go_at_call 48; with_reducible refine HSt.out.mono ?_; rintro e w1 ⟨rfl, hb1⟩
       have A1 := hb1.alloc hb1.size (.cells #[.int .i64 ep, .int .i64 ho, .int .i64 ma, .int .i64 ch] 105)
       have S1 := Lib.hid (S0.out.below A1)
       have B1 := Lib.hid (HB0.out.trans (A1.mono HB0.out.size))
       have XM := Lib.hid (HM0.out.below A1 HM0.out.lt)
       have XS := Lib.hid (Bo.new w1 #[.int .i64 ep, .int .i64 ho, .int .i64 ma, .int .i64 ch] 105)
       clear A1 hb1))
  clear HSt S0 HB0 HM0
  generalize w1.alloc (.cells #[.int .i64 ep, .int .i64 ho, .int .i64 ma, .int .i64 ch] 105) = W1 at *
  generalize w1.heap.size = GS at *
  have z2 := XS.out.cell 2
  simp only [List.getElem?_toArray, List.getElem?_cons_zero, List.getElem?_cons_succ] at z2
  have HQb : Hid (∀ m, Calls Tryz.prog 72 #[.int .i64 fr] (W1.drewN m) fun e w' => e = .returned (.int .i64 bt) ∧ ∃ m', w' = W1.drewN m') := Lib.hid fun m => (HBt.out _).mono fun _ _ h => ⟨h.1, m, h.2.symm⟩
  go_quiet ((go_at_call 72; with_reducible exact HQb.out _))
  generalize hWq : W1.drewN nq = W2 at *
  have hbq : Below W1.heap.size W1 W2 := by rw [← hWq]; exact below_drewN _ _ _
  clear hWq
  have S2 := Lib.hid (S1.out.below hbq)
  have B2 := Lib.hid (B1.out.trans (hbq.mono B1.out.size))
  have XM2 := Lib.hid (XM.out.below hbq XM.out.lt)
  have XS2 := Lib.hid (XS.out.below hbq XS.out.lt)
  clear S1 B1 XM XS z2
  have y1 := XM2.out.cell 1
  have y2 := XM2.out.cell 2
  have z0 := XS2.out.cell 0
  have z2 := XS2.out.cell 2
  simp only [List.getElem?_toArray, List.getElem?_cons_zero, List.getElem?_cons_succ] at y1 y2 z0 z2
  go_wp2_with (first
    | (go_at_call 73; with_reducible refine (HPut.out _ S2.out).mono ?_; rintro e5 w5 ⟨rfl, hs5, hb5⟩
       have S5 := Lib.hid hs5
       have B5 : Hid (But (ours dB sB mB cB tB) w w5) := Lib.hid (((But.of_below B2.out).mono (by simp)).trans hb5)
       clear hs5 hb5))
  go_ret
  exact ⟨rfl, S5.out, B5.out⟩

end Go.Proofs.YtpoolpckabpnfaaGreat.Wt
namespace Go.Proofs.YtpoolpckabpnfaaGreat.Wt
open Go.RowKit
open Ml (Mg may msgV)
set_option linter.unusedVariables false
set_option linter.unusedSimpArgs false
set_option maxRecDepth 20000

variable {dB sB mB n : Nat} {d : M.Dv}


set_option maxHeartbeats 4000000 in
theorem cha_ho (w : World) {tB cB a b : Nat} {c : M.Cl} {L W : Int} (h : WS w dB sB mB n d tB cB a b c L W) (fr : Int) (hf : 0 ≤ fr ∧ fr ≤ 1) (m : Mg) (hn : (fx c.text).ho ≠ fr) :
    Calls Tryz.prog 55 #[.pointer (some ⟨tB, 0, none⟩), .int .i64 fr, msgV m] w fun e w' => e = .returned (.int .i64 20) ∧ WS w' dB sB mB n d tB cB a b c L W ∧ But (ours dB sB mB cB tB) w w' := by


  have HB0 := Lib.hid ((Below.refl w.heap.size w).alloc (Nat.le_refl _) (.cells m.cells 37))
  have S0 := Lib.hid (h.below HB0.out)
  have HM0 := Lib.hid (Bo.new w m.cells 37)
  have HSt := Lib.hid (state_any _ S0.out)
  have HBt := Lib.hid (fun w' => bit_any w' hf)
  have hok := fx_ok c.text
  have hlw := h.lf
  have hww := h.wt
  have hh1 : ((fx c.text).ho != fr) = true := by rw [bne_iff_ne]; exact hn
  clear hn
  obtain ⟨ok1, ok2, ok3, ok4⟩ := hok
  generalize fx c.text = x at *
  generalize bitI fr = bt at *
  obtain ⟨ep, ho, ma, ch⟩ := x
  obtain ⟨kind, epoch, seq, nn, block, client, e0, t0, t1, t2, t3, data, row⟩ := m
  simp only [fxV, msgV, Mg.cells, big] at *

  go_enter Tryz.func55, Tryz.ntmps55
  go_wp2_with (first
    | (go_at_call 48; with_reducible refine HSt.out.mono ?_; rintro e w1 ⟨rfl, hb1⟩
       have A1 := hb1.alloc hb1.size (.cells #[.int .i64 ep, .int .i64 ho, .int .i64 ma, .int .i64 ch] 105)
       have S1 := Lib.hid (S0.out.below A1)
       have Sw := Lib.hid (S0.out.below hb1)
       have Bw := Lib.hid (HB0.out.trans (hb1.mono HB0.out.size))
       have Hlt : Hid (w.heap.size < w1.heap.size) := Lib.hid (Nat.lt_of_lt_of_le HM0.out.lt hb1.size)
       have Aw : Hid (Below w1.heap.size w1 (w1.alloc (.cells #[.int .i64 ep, .int .i64 ho, .int .i64 ma, .int .i64 ch] 105))) := Lib.hid ((Below.refl w1.heap.size w1).alloc (Nat.le_refl _) _)
       have B1 := Lib.hid (HB0.out.trans (A1.mono HB0.out.size))
       have XM := Lib.hid (HM0.out.below A1 HM0.out.lt)
       have XS := Lib.hid (Bo.new w1 #[.int .i64 ep, .int .i64 ho, .int .i64 ma, .int .i64 ch] 105)

       have z1 := XS.out.cell 1
       simp only [List.getElem?_toArray, List.getElem?_cons_zero, List.getElem?_cons_succ] at z1
       clear A1 hb1))
  go_ret
  exact ⟨rfl, S1.out, (But.of_below B1.out).mono (by simp)⟩


set_option maxHeartbeats 4000000 in
theorem cha_ep (w : World) {tB cB a b : Nat} {c : M.Cl} {L W : Int} (h : WS w dB sB mB n d tB cB a b c L W) (fr : Int) (hf : 0 ≤ fr ∧ fr ≤ 1) (m : Mg) (hn : (fx c.text).ho = fr) (he : m.epoch ≠ (fx c.text).ep) :
    Calls Tryz.prog 55 #[.pointer (some ⟨tB, 0, none⟩), .int .i64 fr, msgV m] w fun e w' => e = .returned (.int .i64 20) ∧ WS w' dB sB mB n d tB cB a b c L W ∧ But (ours dB sB mB cB tB) w w' := by

  have HB0 := Lib.hid ((Below.refl w.heap.size w).alloc (Nat.le_refl _) (.cells m.cells 37))
  have S0 := Lib.hid (h.below HB0.out)
  have HM0 := Lib.hid (Bo.new w m.cells 37)
  have HSt := Lib.hid (state_any _ S0.out)
  have HBt := Lib.hid (fun w' => bit_any w' hf)
  have hok := fx_ok c.text
  have hlw := h.lf
  have hww := h.wt
  have hh1 : ((fx c.text).ho != fr) = false := by rw [bne_eq_false_iff_eq]; exact hn
  have hh2 : (m.epoch != (fx c.text).ep) = true := by rw [bne_iff_ne]; exact he
  clear hn he
  obtain ⟨ok1, ok2, ok3, ok4⟩ := hok
  generalize fx c.text = x at *
  generalize bitI fr = bt at *
  obtain ⟨ep, ho, ma, ch⟩ := x
  obtain ⟨kind, epoch, seq, nn, block, client, e0, t0, t1, t2, t3, data, row⟩ := m
  simp only [fxV, msgV, Mg.cells, big] at *

  go_enter Tryz.func55, Tryz.ntmps55
  go_wp2_with (first
    | (go_at_call 48; with_reducible refine HSt.out.mono ?_; rintro e w1 ⟨rfl, hb1⟩
       have A1 := hb1.alloc hb1.size (.cells #[.int .i64 ep, .int .i64 ho, .int .i64 ma, .int .i64 ch] 105)
       have S1 := Lib.hid (S0.out.below A1)
       have Sw := Lib.hid (S0.out.below hb1)
       have Bw := Lib.hid (HB0.out.trans (hb1.mono HB0.out.size))
       have Hlt : Hid (w.heap.size < w1.heap.size) := Lib.hid (Nat.lt_of_lt_of_le HM0.out.lt hb1.size)
       have Aw : Hid (Below w1.heap.size w1 (w1.alloc (.cells #[.int .i64 ep, .int .i64 ho, .int .i64 ma, .int .i64 ch] 105))) := Lib.hid ((Below.refl w1.heap.size w1).alloc (Nat.le_refl _) _)
       have B1 := Lib.hid (HB0.out.trans (A1.mono HB0.out.size))
       have XM := Lib.hid (HM0.out.below A1 HM0.out.lt)
       have XS := Lib.hid (Bo.new w1 #[.int .i64 ep, .int .i64 ho, .int .i64 ma, .int .i64 ch] 105)
       have y1 := XM.out.cell 1
       have z0 := XS.out.cell 0
       have z1 := XS.out.cell 1
       simp only [List.getElem?_toArray, List.getElem?_cons_zero, List.getElem?_cons_succ] at y1 z0 z1
       clear A1 hb1))
  go_ret
  exact ⟨rfl, S1.out, (But.of_below B1.out).mono (by simp)⟩


set_option maxHeartbeats 4000000 in
theorem cha_in (w : World) {tB cB a b : Nat} {c : M.Cl} {L W : Int} (h : WS w dB sB mB n d tB cB a b c L W) (fr : Int) (hf : 0 ≤ fr ∧ fr ≤ 1) (m : Mg) (hn : (fx c.text).ho = fr) (he : m.epoch = (fx c.text).ep) (hs : m.seq < 1 ∨ 3 < m.seq) :
    Calls Tryz.prog 55 #[.pointer (some ⟨tB, 0, none⟩), .int .i64 fr, msgV m] w fun e w' => e = .returned (.int .i64 1) ∧ WS w' dB sB mB n d tB cB a b c L W ∧ But (ours dB sB mB cB tB) w w' := by

  have HB0 := Lib.hid ((Below.refl w.heap.size w).alloc (Nat.le_refl _) (.cells m.cells 37))
  have S0 := Lib.hid (h.below HB0.out)
  have HM0 := Lib.hid (Bo.new w m.cells 37)
  have HSt := Lib.hid (state_any _ S0.out)
  have HBt := Lib.hid (fun w' => bit_any w' hf)
  have hok := fx_ok c.text
  have hlw := h.lf
  have hww := h.wt
  have hh1 : ((fx c.text).ho != fr) = false := by rw [bne_eq_false_iff_eq]; exact hn
  have hh2 : (m.epoch != (fx c.text).ep) = false := by rw [bne_eq_false_iff_eq]; exact he
  have HWi := Lib.hid (fun w' => within_any m.seq 1 3 w')
  have hwb : (decide (1 ≤ m.seq) && decide (m.seq ≤ 3)) = false := by rw [Bool.and_eq_false_iff, decide_eq_false_iff_not, decide_eq_false_iff_not]; omega
  rw [hwb] at HWi
  clear hwb
  clear hn he hs
  obtain ⟨ok1, ok2, ok3, ok4⟩ := hok
  generalize fx c.text = x at *
  generalize bitI fr = bt at *
  obtain ⟨ep, ho, ma, ch⟩ := x
  obtain ⟨kind, epoch, seq, nn, block, client, e0, t0, t1, t2, t3, data, row⟩ := m
  simp only [fxV, msgV, Mg.cells, big] at *

  go_enter Tryz.func55, Tryz.ntmps55
  go_upto_region 4 with (first
    | (go_at_call 48; with_reducible refine HSt.out.mono ?_; rintro e w1 ⟨rfl, hb1⟩
       have A1 := hb1.alloc hb1.size (.cells #[.int .i64 ep, .int .i64 ho, .int .i64 ma, .int .i64 ch] 105)
       have S1 := Lib.hid (S0.out.below A1)
       have Sw := Lib.hid (S0.out.below hb1)
       have Bw := Lib.hid (HB0.out.trans (hb1.mono HB0.out.size))
       have Hlt : Hid (w.heap.size < w1.heap.size) := Lib.hid (Nat.lt_of_lt_of_le HM0.out.lt hb1.size)
       have Aw : Hid (Below w1.heap.size w1 (w1.alloc (.cells #[.int .i64 ep, .int .i64 ho, .int .i64 ma, .int .i64 ch] 105))) := Lib.hid ((Below.refl w1.heap.size w1).alloc (Nat.le_refl _) _)
       have B1 := Lib.hid (HB0.out.trans (A1.mono HB0.out.size))
       have XM := Lib.hid (HM0.out.below A1 HM0.out.lt)
       have XS := Lib.hid (Bo.new w1 #[.int .i64 ep, .int .i64 ho, .int .i64 ma, .int .i64 ch] 105)
       have y1 := XM.out.cell 1
       have z0 := XS.out.cell 0
       have z1 := XS.out.cell 1
       simp only [List.getElem?_toArray, List.getElem?_cons_zero, List.getElem?_cons_succ] at y1 z0 z1
       clear A1 hb1))
  clear HSt S0 HB0 HM0
  generalize w1.alloc (.cells #[.int .i64 ep, .int .i64 ho, .int .i64 ma, .int .i64 ch] 105) = W1 at *
  generalize hGS : w1.heap.size = GS at *
  have HG := Lib.hid hGS
  clear hGS
  have y2 := XM.out.cell 2
  simp only [List.getElem?_toArray, List.getElem?_cons_zero, List.getElem?_cons_succ] at y2
  have HQw : Hid (∀ m, Calls Tryz.prog 27 #[.int .i64 seq, .int .i64 1, .int .i64 3] (W1.drewN m) fun e w' => e = .returned (.bool false) ∧ ∃ m', w' = W1.drewN m') := Lib.hid fun m => (HWi.out _).mono fun _ _ h => ⟨h.1, m, h.2.symm⟩
  go_quiet ((go_at_call 27; with_reducible exact HQw.out _))
  generalize hWq : W1.drewN nq = W2 at *
  have hbq : Below W1.heap.size W1 W2 := by rw [← hWq]; exact below_drewN _ _ _
  have hbG : Below GS W1 W2 := by rw [← hWq]; exact below_drewN _ _ _
  clear hWq
  have S2 := Lib.hid (S1.out.below hbq)
  have B2 := Lib.hid (B1.out.trans (hbq.mono B1.out.size))
  have XM2 := Lib.hid (XM.out.below hbq XM.out.lt)
  have XS2 := Lib.hid (XS.out.below hbq XS.out.lt)
  have Aw2 := Lib.hid (Aw.out.trans hbG)
  clear y1 y2 z0 z1 XM XS S1 B1
  go_wp2
  go_ret
  exact ⟨rfl, S2.out, (But.of_below B2.out).mono (by simp)⟩


set_option maxHeartbeats 4000000 in
theorem cha_not (w : World) {tB cB a b : Nat} {c : M.Cl} {L W : Int} (h : WS w dB sB mB n d tB cB a b c L W) (fr : Int) (hf : 0 ≤ fr ∧ fr ≤ 1) (m : Mg) (hn : (fx c.text).ho = fr) (he : m.epoch = (fx c.text).ep) (hs : 1 ≤ m.seq ∧ m.seq ≤ 3) (hA : inM m.seq fr = false) :
    Calls Tryz.prog 55 #[.pointer (some ⟨tB, 0, none⟩), .int .i64 fr, msgV m] w fun e w' => e = .returned (.int .i64 1) ∧ WS w' dB sB mB n d tB cB a b c L W ∧ But (ours dB sB mB cB tB) w w' := by

  have HB0 := Lib.hid ((Below.refl w.heap.size w).alloc (Nat.le_refl _) (.cells m.cells 37))
  have S0 := Lib.hid (h.below HB0.out)
  have HM0 := Lib.hid (Bo.new w m.cells 37)
  have HSt := Lib.hid (state_any _ S0.out)
  have HBt := Lib.hid (fun w' => bit_any w' hf)
  have hok := fx_ok c.text
  have hlw := h.lf
  have hww := h.wt
  have hh1 : ((fx c.text).ho != fr) = false := by rw [bne_eq_false_iff_eq]; exact hn
  have hh2 : (m.epoch != (fx c.text).ep) = false := by rw [bne_eq_false_iff_eq]; exact he
  have HWi := Lib.hid (fun w' => within_any m.seq 1 3 w')
  have hwb : (decide (1 ≤ m.seq) && decide (m.seq ≤ 3)) = true := by rw [decide_eq_true hs.1, decide_eq_true hs.2]; rfl
  rw [hwb] at HWi
  clear hwb
  obtain ⟨av, hand, hin, hout⟩ := and_is hf hs
  have hz := hout hA
  clear hin hout hA hs hn he

  obtain ⟨ok1, ok2, ok3, ok4⟩ := hok
  generalize fx c.text = x at *
  generalize bitI fr = bt at *
  obtain ⟨ep, ho, ma, ch⟩ := x
  obtain ⟨kind, epoch, seq, nn, block, client, e0, t0, t1, t2, t3, data, row⟩ := m
  simp only [fxV, msgV, Mg.cells, big] at *

  go_enter Tryz.func55, Tryz.ntmps55
  go_upto_region 4 with (first
    | (go_at_call 48; with_reducible refine HSt.out.mono ?_; rintro e w1 ⟨rfl, hb1⟩
       have A1 := hb1.alloc hb1.size (.cells #[.int .i64 ep, .int .i64 ho, .int .i64 ma, .int .i64 ch] 105)
       have S1 := Lib.hid (S0.out.below A1)
       have Sw := Lib.hid (S0.out.below hb1)
       have Bw := Lib.hid (HB0.out.trans (hb1.mono HB0.out.size))
       have Hlt : Hid (w.heap.size < w1.heap.size) := Lib.hid (Nat.lt_of_lt_of_le HM0.out.lt hb1.size)
       have Aw : Hid (Below w1.heap.size w1 (w1.alloc (.cells #[.int .i64 ep, .int .i64 ho, .int .i64 ma, .int .i64 ch] 105))) := Lib.hid ((Below.refl w1.heap.size w1).alloc (Nat.le_refl _) _)
       have B1 := Lib.hid (HB0.out.trans (A1.mono HB0.out.size))
       have XM := Lib.hid (HM0.out.below A1 HM0.out.lt)
       have XS := Lib.hid (Bo.new w1 #[.int .i64 ep, .int .i64 ho, .int .i64 ma, .int .i64 ch] 105)
       have y1 := XM.out.cell 1
       have z0 := XS.out.cell 0
       have z1 := XS.out.cell 1
       simp only [List.getElem?_toArray, List.getElem?_cons_zero, List.getElem?_cons_succ] at y1 z0 z1
       clear A1 hb1))
  clear HSt S0 HB0 HM0
  generalize w1.alloc (.cells #[.int .i64 ep, .int .i64 ho, .int .i64 ma, .int .i64 ch] 105) = W1 at *
  generalize hGS : w1.heap.size = GS at *
  have HG := Lib.hid hGS
  clear hGS
  have y2 := XM.out.cell 2
  simp only [List.getElem?_toArray, List.getElem?_cons_zero, List.getElem?_cons_succ] at y2
  have HQw : Hid (∀ m, Calls Tryz.prog 27 #[.int .i64 seq, .int .i64 1, .int .i64 3] (W1.drewN m) fun e w' => e = .returned (.bool true) ∧ ∃ m', w' = W1.drewN m') := Lib.hid fun m => (HWi.out _).mono fun _ _ h => ⟨h.1, m, h.2.symm⟩
  have HQb : Hid (∀ m, Calls Tryz.prog 72 #[.int .i64 fr] (W1.drewN m) fun e w' => e = .returned (.int .i64 bt) ∧ ∃ m', w' = W1.drewN m') := Lib.hid fun m => (HBt.out _).mono fun _ _ h => ⟨h.1, m, h.2.symm⟩
  go_quiet ((first | (go_at_call 27; with_reducible exact HQw.out _) | (go_at_call 72; with_reducible exact HQb.out _)))
  generalize hWq : W1.drewN nq = W2 at *
  have hbq : Below W1.heap.size W1 W2 := by rw [← hWq]; exact below_drewN _ _ _
  have hbG : Below GS W1 W2 := by rw [← hWq]; exact below_drewN _ _ _
  clear hWq
  have S2 := Lib.hid (S1.out.below hbq)
  have B2 := Lib.hid (B1.out.trans (hbq.mono B1.out.size))
  have XM2 := Lib.hid (XM.out.below hbq XM.out.lt)
  have XS2 := Lib.hid (XS.out.below hbq XS.out.lt)
  have Aw2 := Lib.hid (Aw.out.trans hbG)
  clear y1 y2 z0 z1 XM XS S1 B1
  go_wp2
  go_ret
  exact ⟨rfl, S2.out, (But.of_below B2.out).mono (by simp)⟩


set_option maxHeartbeats 4000000 in
theorem cha_old (w : World) {tB cB a b : Nat} {c : M.Cl} {L W : Int} (h : WS w dB sB mB n d tB cB a b c L W) (fr : Int) (hf : 0 ≤ fr ∧ fr ≤ 1) (m : Mg) (hn : (fx c.text).ho = fr) (he : m.epoch = (fx c.text).ep) (hs : 1 ≤ m.seq ∧ m.seq ≤ 3) (hA : inM m.seq fr = true) (hq : m.n ≤ (fx c.text).ch) :
    Calls Tryz.prog 55 #[.pointer (some ⟨tB, 0, none⟩), .int .i64 fr, msgV m] w fun e w' => e = .returned (.int .i64 0) ∧ WS w' dB sB mB n d tB cB a b c L W ∧ But (ours dB sB mB cB tB) w w' := by

  have HB0 := Lib.hid ((Below.refl w.heap.size w).alloc (Nat.le_refl _) (.cells m.cells 37))
  have S0 := Lib.hid (h.below HB0.out)
  have HM0 := Lib.hid (Bo.new w m.cells 37)
  have HSt := Lib.hid (state_any _ S0.out)
  have HBt := Lib.hid (fun w' => bit_any w' hf)
  have hok := fx_ok c.text
  have hlw := h.lf
  have hww := h.wt
  have hh1 : ((fx c.text).ho != fr) = false := by rw [bne_eq_false_iff_eq]; exact hn
  have hh2 : (m.epoch != (fx c.text).ep) = false := by rw [bne_eq_false_iff_eq]; exact he
  have HWi := Lib.hid (fun w' => within_any m.seq 1 3 w')
  have hwb : (decide (1 ≤ m.seq) && decide (m.seq ≤ 3)) = true := by rw [decide_eq_true hs.1, decide_eq_true hs.2]; rfl
  rw [hwb] at HWi
  clear hwb
  obtain ⟨av, hand, hin, hout⟩ := and_is hf hs
  have hz := hin hA
  clear hin hout hA hs hn he

  obtain ⟨ok1, ok2, ok3, ok4⟩ := hok
  generalize fx c.text = x at *
  generalize bitI fr = bt at *
  obtain ⟨ep, ho, ma, ch⟩ := x
  obtain ⟨kind, epoch, seq, nn, block, client, e0, t0, t1, t2, t3, data, row⟩ := m
  simp only [fxV, msgV, Mg.cells, big] at *

  go_enter Tryz.func55, Tryz.ntmps55
  go_upto_region 4 with (first
    | (go_at_call 48; with_reducible refine HSt.out.mono ?_; rintro e w1 ⟨rfl, hb1⟩
       have A1 := hb1.alloc hb1.size (.cells #[.int .i64 ep, .int .i64 ho, .int .i64 ma, .int .i64 ch] 105)
       have S1 := Lib.hid (S0.out.below A1)
       have Sw := Lib.hid (S0.out.below hb1)
       have Bw := Lib.hid (HB0.out.trans (hb1.mono HB0.out.size))
       have Hlt : Hid (w.heap.size < w1.heap.size) := Lib.hid (Nat.lt_of_lt_of_le HM0.out.lt hb1.size)
       have Aw : Hid (Below w1.heap.size w1 (w1.alloc (.cells #[.int .i64 ep, .int .i64 ho, .int .i64 ma, .int .i64 ch] 105))) := Lib.hid ((Below.refl w1.heap.size w1).alloc (Nat.le_refl _) _)
       have B1 := Lib.hid (HB0.out.trans (A1.mono HB0.out.size))
       have XM := Lib.hid (HM0.out.below A1 HM0.out.lt)
       have XS := Lib.hid (Bo.new w1 #[.int .i64 ep, .int .i64 ho, .int .i64 ma, .int .i64 ch] 105)
       have y1 := XM.out.cell 1
       have z0 := XS.out.cell 0
       have z1 := XS.out.cell 1
       simp only [List.getElem?_toArray, List.getElem?_cons_zero, List.getElem?_cons_succ] at y1 z0 z1
       clear A1 hb1))
  clear HSt S0 HB0 HM0
  generalize w1.alloc (.cells #[.int .i64 ep, .int .i64 ho, .int .i64 ma, .int .i64 ch] 105) = W1 at *
  generalize hGS : w1.heap.size = GS at *
  have HG := Lib.hid hGS
  clear hGS
  have y2 := XM.out.cell 2
  simp only [List.getElem?_toArray, List.getElem?_cons_zero, List.getElem?_cons_succ] at y2
  have HQw : Hid (∀ m, Calls Tryz.prog 27 #[.int .i64 seq, .int .i64 1, .int .i64 3] (W1.drewN m) fun e w' => e = .returned (.bool true) ∧ ∃ m', w' = W1.drewN m') := Lib.hid fun m => (HWi.out _).mono fun _ _ h => ⟨h.1, m, h.2.symm⟩
  have HQb : Hid (∀ m, Calls Tryz.prog 72 #[.int .i64 fr] (W1.drewN m) fun e w' => e = .returned (.int .i64 bt) ∧ ∃ m', w' = W1.drewN m') := Lib.hid fun m => (HBt.out _).mono fun _ _ h => ⟨h.1, m, h.2.symm⟩
  go_quiet ((first | (go_at_call 27; with_reducible exact HQw.out _) | (go_at_call 72; with_reducible exact HQb.out _)))
  generalize hWq : W1.drewN nq = W2 at *
  have hbq : Below W1.heap.size W1 W2 := by rw [← hWq]; exact below_drewN _ _ _
  have hbG : Below GS W1 W2 := by rw [← hWq]; exact below_drewN _ _ _
  clear hWq
  have S2 := Lib.hid (S1.out.below hbq)
  have B2 := Lib.hid (B1.out.trans (hbq.mono B1.out.size))
  have XM2 := Lib.hid (XM.out.below hbq XM.out.lt)
  have XS2 := Lib.hid (XS.out.below hbq XS.out.lt)
  have Aw2 := Lib.hid (Aw.out.trans hbG)
  clear y1 y2 z0 z1 XM XS S1 B1
  have y3 := XM2.out.cell 3
  have z3 := XS2.out.cell 3
  simp only [List.getElem?_toArray, List.getElem?_cons_zero, List.getElem?_cons_succ] at y3 z3
  go_wp2
  go_ret
  exact ⟨rfl, S2.out, (But.of_below B2.out).mono (by simp)⟩


set_option maxHeartbeats 4000000 in
theorem cha_put (w : World) {tB cB a b : Nat} {c : M.Cl} {L W : Int} (h : WS w dB sB mB n d tB cB a b c L W) (fr : Int) (hf : 0 ≤ fr ∧ fr ≤ 1) (m : Mg) (hn : (fx c.text).ho = fr) (he : m.epoch = (fx c.text).ep) (hs : 1 ≤ m.seq ∧ m.seq ≤ 3) (hA : inM m.seq fr = true) (hq : ¬ m.n ≤ (fx c.text).ch) (hmb : m.n ≤ big) :
    Calls Tryz.prog 55 #[.pointer (some ⟨tB, 0, none⟩), .int .i64 fr, msgV m] w fun e w' => e = .returned (.int .i64 (M.puE n d a b c (fxT ⟨(fx c.text).ep, (fx c.text).ho, m.seq, m.n⟩))) ∧ WS w' dB sB mB n (M.puD n d a b c (fxT ⟨(fx c.text).ep, (fx c.text).ho, m.seq, m.n⟩)) tB cB a b (M.puC n d a b c (fxT ⟨(fx c.text).ep, (fx c.text).ho, m.seq, m.n⟩)) L W ∧ But (ours dB sB mB cB tB) w w' := by

  have HB0 := Lib.hid ((Below.refl w.heap.size w).alloc (Nat.le_refl _) (.cells m.cells 37))
  have S0 := Lib.hid (h.below HB0.out)
  have HM0 := Lib.hid (Bo.new w m.cells 37)
  have HSt := Lib.hid (state_any _ S0.out)
  have HBt := Lib.hid (fun w' => bit_any w' hf)
  have hok := fx_ok c.text
  have hlw := h.lf
  have hww := h.wt
  have hh1 : ((fx c.text).ho != fr) = false := by rw [bne_eq_false_iff_eq]; exact hn
  have hh2 : (m.epoch != (fx c.text).ep) = false := by rw [bne_eq_false_iff_eq]; exact he
  have HWi := Lib.hid (fun w' => within_any m.seq 1 3 w')
  have hwb : (decide (1 ≤ m.seq) && decide (m.seq ≤ 3)) = true := by rw [decide_eq_true hs.1, decide_eq_true hs.2]; rfl
  rw [hwb] at HWi
  clear hwb
  have HPut := Lib.hid (fun (w' : World) (h : WS w' dB sB mB n d tB cB a b c L W) => Wt.put_any w' h ⟨(fx c.text).ep, (fx c.text).ho, m.seq, m.n⟩ ⟨hok.1, hok.2.1, hs, by simp only; have := hok.2.2.2; omega⟩)
  generalize M.puE n d a b c (fxT ⟨(fx c.text).ep, (fx c.text).ho, m.seq, m.n⟩) = E at *
  generalize M.puD n d a b c (fxT ⟨(fx c.text).ep, (fx c.text).ho, m.seq, m.n⟩) = D at *
  generalize M.puC n d a b c (fxT ⟨(fx c.text).ep, (fx c.text).ho, m.seq, m.n⟩) = C2 at *
  obtain ⟨av, hand, hin, hout⟩ := and_is hf hs
  have hz := hin hA
  clear hin hout hA hs hn he
  have hq2 : (fx c.text).ch < m.n := by omega
  clear hq hmb
  obtain ⟨ok1, ok2, ok3, ok4⟩ := hok
  generalize fx c.text = x at *
  generalize bitI fr = bt at *
  obtain ⟨ep, ho, ma, ch⟩ := x
  obtain ⟨kind, epoch, seq, nn, block, client, e0, t0, t1, t2, t3, data, row⟩ := m
  simp only [fxV, msgV, Mg.cells, big] at *

  go_enter Tryz.func55, Tryz.ntmps55
  go_upto_region 4 with (first
    | (go_at_call 48; with_reducible refine HSt.out.mono ?_; rintro e w1 ⟨rfl, hb1⟩
       have A1 := hb1.alloc hb1.size (.cells #[.int .i64 ep, .int .i64 ho, .int .i64 ma, .int .i64 ch] 105)
       have S1 := Lib.hid (S0.out.below A1)
       have Sw := Lib.hid (S0.out.below hb1)
       have Bw := Lib.hid (HB0.out.trans (hb1.mono HB0.out.size))
       have Hlt : Hid (w.heap.size < w1.heap.size) := Lib.hid (Nat.lt_of_lt_of_le HM0.out.lt hb1.size)
       have Aw : Hid (Below w1.heap.size w1 (w1.alloc (.cells #[.int .i64 ep, .int .i64 ho, .int .i64 ma, .int .i64 ch] 105))) := Lib.hid ((Below.refl w1.heap.size w1).alloc (Nat.le_refl _) _)
       have B1 := Lib.hid (HB0.out.trans (A1.mono HB0.out.size))
       have XM := Lib.hid (HM0.out.below A1 HM0.out.lt)
       have XS := Lib.hid (Bo.new w1 #[.int .i64 ep, .int .i64 ho, .int .i64 ma, .int .i64 ch] 105)
       have y1 := XM.out.cell 1
       have z0 := XS.out.cell 0
       have z1 := XS.out.cell 1
       simp only [List.getElem?_toArray, List.getElem?_cons_zero, List.getElem?_cons_succ] at y1 z0 z1
       clear A1 hb1))
  clear HSt S0 HB0 HM0
  generalize w1.alloc (.cells #[.int .i64 ep, .int .i64 ho, .int .i64 ma, .int .i64 ch] 105) = W1 at *
  generalize hGS : w1.heap.size = GS at *
  have HG := Lib.hid hGS
  clear hGS
  have y2 := XM.out.cell 2
  simp only [List.getElem?_toArray, List.getElem?_cons_zero, List.getElem?_cons_succ] at y2
  have HQw : Hid (∀ m, Calls Tryz.prog 27 #[.int .i64 seq, .int .i64 1, .int .i64 3] (W1.drewN m) fun e w' => e = .returned (.bool true) ∧ ∃ m', w' = W1.drewN m') := Lib.hid fun m => (HWi.out _).mono fun _ _ h => ⟨h.1, m, h.2.symm⟩
  have HQb : Hid (∀ m, Calls Tryz.prog 72 #[.int .i64 fr] (W1.drewN m) fun e w' => e = .returned (.int .i64 bt) ∧ ∃ m', w' = W1.drewN m') := Lib.hid fun m => (HBt.out _).mono fun _ _ h => ⟨h.1, m, h.2.symm⟩
  go_quiet ((first | (go_at_call 27; with_reducible exact HQw.out _) | (go_at_call 72; with_reducible exact HQb.out _)))
  generalize hWq : W1.drewN nq = W2 at *
  have hbq : Below W1.heap.size W1 W2 := by rw [← hWq]; exact below_drewN _ _ _
  have hbG : Below GS W1 W2 := by rw [← hWq]; exact below_drewN _ _ _
  clear hWq
  have S2 := Lib.hid (S1.out.below hbq)
  have B2 := Lib.hid (B1.out.trans (hbq.mono B1.out.size))
  have XM2 := Lib.hid (XM.out.below hbq XM.out.lt)
  have XS2 := Lib.hid (XS.out.below hbq XS.out.lt)
  have Aw2 := Lib.hid (Aw.out.trans hbG)
  clear y1 y2 z0 z1 XM XS S1 B1
  have y3 := XM2.out.cell 3
  have z3 := XS2.out.cell 3
  simp only [List.getElem?_toArray, List.getElem?_cons_zero, List.getElem?_cons_succ] at y3 z3
  have HW : Hid (∀ w', Below GS W2 w' → WS w' dB sB mB n d tB cB a b c L W ∧ Below w.heap.size w w') := Lib.hid fun w' hb => by
    have h1 : Below w1.heap.size w1 w' := by rw [HG.out]; exact Aw2.out.trans hb
    exact ⟨Sw.out.below h1, Bw.out.trans (h1.mono Bw.out.size)⟩
  go_upto_region 8 with fail
  clear S2 B2 Aw2
  have y2 := XM2.out.cell 2
  have z0 := XS2.out.cell 0
  have z1 := XS2.out.cell 1
  have z2 := XS2.out.cell 2
  have zf := XS2.out.fz
  simp only [List.getElem?_toArray, List.getElem?_cons_zero, List.getElem?_cons_succ] at y2 z0 z1 z2
  have hgm : ¬ w.heap.size = GS := by have h1 := HG.out; have h2 := Bw.out.size; have h3 := Hlt.out; omega
  go_region
  all_goals
    go_wp2_with (first
    | (go_at_call 73; with_reducible refine (HPut.out _ (HW.out _ (by first | exact bl2 _ _ _ _ _ _ | exact bl1 _ _ _ _ | exact bl2d _ _ _ _ _ _)).1).mono ?_; rintro e5 w5 ⟨rfl, hs5, hb5⟩
       have S5 := Lib.hid hs5
       have B5 : Hid (But (ours dB sB mB cB tB) w w5) := Lib.hid (((But.of_below (HW.out _ (by first | exact bl2 _ _ _ _ _ _ | exact bl1 _ _ _ _ | exact bl2d _ _ _ _ _ _)).2).mono (by simp)).trans hb5)
       clear hs5 hb5))
    go_ret
    exact ⟨rfl, S5.out, B5.out⟩

end Go.Proofs.YtpoolpckabpnfaaGreat.Wt
namespace Go.Proofs.YtpoolpckabpnfaaGreat.Wt
open Go.RowKit
open Ml (Mg may msgV)
set_option linter.unusedVariables false
set_option linter.unusedSimpArgs false
set_option maxRecDepth 20000

variable {dB sB mB n : Nat} {d : M.Dv}


set_option maxHeartbeats 4000000 in
theorem los_any (w : World) {tB cB a b : Nat} {c : M.Cl} {L W : Int} (h : WS w dB sB mB n d tB cB a b c L W) (fr : Int) (hf : 0 ≤ fr ∧ fr ≤ 1) (m : Mg) :
    Calls Tryz.prog 56 #[.pointer (some ⟨tB, 0, none⟩), .int .i64 fr, msgV m] w fun e w' => e = .returned (.int .i64 (M.puE n d a b c (fxT ⟨(fx c.text).ep, -1, lostM (fx c.text).ma fr, (fx c.text).ch⟩))) ∧ WS w' dB sB mB n (M.puD n d a b c (fxT ⟨(fx c.text).ep, -1, lostM (fx c.text).ma fr, (fx c.text).ch⟩)) tB cB a b (M.puC n d a b c (fxT ⟨(fx c.text).ep, -1, lostM (fx c.text).ma fr, (fx c.text).ch⟩)) L W ∧ But (ours dB sB mB cB tB) w w' := by

  have HB0 := Lib.hid ((Below.refl w.heap.size w).alloc (Nat.le_refl _) (.cells m.cells 37))
  have S0 := Lib.hid (h.below HB0.out)
  have HM0 := Lib.hid (Bo.new w m.cells 37)
  have HSt := Lib.hid (state_any _ S0.out)
  have HBt := Lib.hid (fun w' => bit_any w' hf)
  have hok := fx_ok c.text
  have hlw := h.lf
  have hww := h.wt
  have HPut := Lib.hid (fun (w' : World) (h : WS w' dB sB mB n d tB cB a b c L W) => Wt.put_any w' h ⟨(fx c.text).ep, -1, lostM (fx c.text).ma fr, (fx c.text).ch⟩ ⟨hok.1, by simp, lostM_in hf hok.2.2.1, hok.2.2.2⟩)
  generalize M.puE n d a b c (fxT ⟨(fx c.text).ep, -1, lostM (fx c.text).ma fr, (fx c.text).ch⟩) = E at *
  generalize M.puD n d a b c (fxT ⟨(fx c.text).ep, -1, lostM (fx c.text).ma fr, (fx c.text).ch⟩) = D at *
  generalize M.puC n d a b c (fxT ⟨(fx c.text).ep, -1, lostM (fx c.text).ma fr, (fx c.text).ch⟩) = C2 at *
  obtain ⟨v, hnot, hv⟩ := not_is hf hok.2.2.1
  obtain ⟨ok1, ok2, ok3, ok4⟩ := hok
  generalize fx c.text = x at *
  generalize bitI fr = bt at *
  obtain ⟨ep, ho, ma, ch⟩ := x
  obtain ⟨kind, epoch, seq, nn, block, client, e0, t0, t1, t2, t3, data, row⟩ := m
  simp only [fxV, msgV, Mg.cells, big] at *

  go_enter Tryz.func56, Tryz.ntmps56
  go_upto_region 2 with (first
    | (go_at_call 48; with_reducible refine HSt.out.mono ?_; rintro e w1 ⟨rfl, hb1⟩
       have A1 := hb1.alloc hb1.size (.cells #[.int .i64 ep, .int .i64 ho, .int .i64 ma, .int .i64 ch] 105)
       have S1 := Lib.hid (S0.out.below A1)
       have Sw := Lib.hid (S0.out.below hb1)
       have Bw := Lib.hid (HB0.out.trans (hb1.mono HB0.out.size))
       have Aw : Hid (Below w1.heap.size w1 (w1.alloc (.cells #[.int .i64 ep, .int .i64 ho, .int .i64 ma, .int .i64 ch] 105))) := Lib.hid ((Below.refl w1.heap.size w1).alloc (Nat.le_refl _) _)
       have B1 := Lib.hid (HB0.out.trans (A1.mono HB0.out.size))
       have XM := Lib.hid (HM0.out.below A1 HM0.out.lt)
       have XS := Lib.hid (Bo.new w1 #[.int .i64 ep, .int .i64 ho, .int .i64 ma, .int .i64 ch] 105)
       clear A1 hb1))
  clear HSt S0 HB0 HM0
  generalize w1.alloc (.cells #[.int .i64 ep, .int .i64 ho, .int .i64 ma, .int .i64 ch] 105) = W1 at *
  generalize hGS : w1.heap.size = GS at *
  have HG := Lib.hid hGS
  clear hGS
  have z2 := XS.out.cell 2
  simp only [List.getElem?_toArray, List.getElem?_cons_zero, List.getElem?_cons_succ] at z2
  have HQb : Hid (∀ m, Calls Tryz.prog 72 #[.int .i64 fr] (W1.drewN m) fun e w' => e = .returned (.int .i64 bt) ∧ ∃ m', w' = W1.drewN m') := Lib.hid fun m => (HBt.out _).mono fun _ _ h => ⟨h.1, m, h.2.symm⟩
  go_quiet ((go_at_call 72; with_reducible exact HQb.out _))
  generalize hWq : W1.drewN nq = W2 at *
  have hbq : Below W1.heap.size W1 W2 := by rw [← hWq]; exact below_drewN _ _ _
  have hbG : Below GS W1 W2 := by rw [← hWq]; exact below_drewN _ _ _
  clear hWq
  have S2 := Lib.hid (S1.out.below hbq)
  have B2 := Lib.hid (B1.out.trans (hbq.mono B1.out.size))
  have XM2 := Lib.hid (XM.out.below hbq XM.out.lt)
  have XS2 := Lib.hid (XS.out.below hbq XS.out.lt)
  have Aw2 := Lib.hid (Aw.out.trans hbG)
  clear S1 B1 XM XS z2
  have z0 := XS2.out.cell 0
  have z1 := XS2.out.cell 1
  have z2 := XS2.out.cell 2
  have z3 := XS2.out.cell 3
  have zf := XS2.out.fz
  simp only [List.getElem?_toArray, List.getElem?_cons_zero, List.getElem?_cons_succ] at z0 z1 z2 z3
  have HW : Hid (∀ w', Below GS W2 w' → WS w' dB sB mB n d tB cB a b c L W ∧ Below w.heap.size w w') := Lib.hid fun w' hb => by
    have h1 : Below w1.heap.size w1 w' := by rw [HG.out]; exact Aw2.out.trans hb
    exact ⟨Sw.out.below h1, Bw.out.trans (h1.mono Bw.out.size)⟩
  clear S2 B2 Aw2
  rcases hv with ⟨hv1, hv2⟩ | ⟨hv1, hv2⟩
  all_goals
    rw [hv2] at HPut
    clear hv2
    go_wp2_with (first
    | (go_at_call 73; with_reducible refine (HPut.out _ (HW.out _ (by first | exact bl2 _ _ _ _ _ _ | exact bl1 _ _ _ _ | exact bl2d _ _ _ _ _ _)).1).mono ?_; rintro e5 w5 ⟨rfl, hs5, hb5⟩
       have S5 := Lib.hid hs5
       have B5 : Hid (But (ours dB sB mB cB tB) w w5) := Lib.hid (((But.of_below (HW.out _ (by first | exact bl2 _ _ _ _ _ _ | exact bl1 _ _ _ _ | exact bl2d _ _ _ _ _ _)).2).mono (by simp)).trans hb5)
       clear hs5 hb5))
    go_ret
    exact ⟨rfl, S5.out, B5.out⟩

end Go.Proofs.YtpoolpckabpnfaaGreat.Wt
namespace Go.Proofs.YtpoolpckabpnfaaGreat.Wt
open Go.RowKit
open Ml (Mg may msgV)
set_option linter.unusedVariables false
set_option linter.unusedSimpArgs false
set_option maxRecDepth 20000

variable {dB sB mB n : Nat} {d : M.Dv}

theorem ask_any (w : World) {tB cB a b : Nat} {c : M.Cl} {L W : Int} (h : WS w dB sB mB n d tB cB a b c L W) (fr : Int) (hf : 0 ≤ fr ∧ fr ≤ 1) (m : Mg) :
    Calls Tryz.prog 54 #[.pointer (some ⟨tB, 0, none⟩), .int .i64 fr, msgV m] w fun e w' => e = .returned (.int .i64 (doE n a b d c (askP (fx c.text) L fr m))) ∧ WS w' dB sB mB n (doD n a b d c (askP (fx c.text) L fr m)) tB cB a b (doC n a b d c (askP (fx c.text) L fr m)) (if doE n a b d c (askP (fx c.text) L fr m) = 0 then W else L) W ∧ But (ours dB sB mB cB tB) w w' := by
  cases hA : inM (fx c.text).ma fr with
  | false =>
    have e : askP (fx c.text) L fr m = (20, none) := by unfold askP; rw [if_pos hA]
    rw [e]
    exact ask_prim w h fr hf m hA
  | true =>
    have hA' : ¬ inM (fx c.text).ma fr = false := by rw [hA]; simp
    by_cases hl : longer (fx c.text) fr m = true
    · have e : askP (fx c.text) L fr m = (0, none) := by unfold askP; rw [if_neg hA', if_pos hl]
      rw [e]
      exact ask_long w h fr hf m hA hl
    · have hl2 : (fx c.text).ho ≠ fr ∨ ((fx c.text).ho = fr ∧ m.seq ≠ 0) ∨ ((fx c.text).ho = fr ∧ m.seq = 0 ∧ m.epoch ≠ (fx c.text).ep) := by
        simp [longer] at hl
        by_cases h1 : (fx c.text).ho = fr
        · by_cases h2 : m.seq = 0
          · exact .inr (.inr ⟨h1, h2, hl h1 h2⟩)
          · exact .inr (.inl ⟨h1, h2⟩)
        · exact .inl h1
      by_cases hb : (fx c.text).ho ≠ fr ∧ 0 < L
      · have e : askP (fx c.text) L fr m = (25, none) := by unfold askP; rw [if_neg hA', if_neg hl, if_pos hb]
        rw [e]
        exact ask_busy w h fr hf m hA hb.1 hb.2
      · by_cases hE : (fx c.text).ep = big
        · have e : askP (fx c.text) L fr m = (22, none) := by unfold askP; rw [if_neg hA', if_neg hl, if_neg hb, if_pos hE]
          rw [e]
          rcases hl2 with h1 | ⟨h1, h2⟩ | ⟨h1, h2, h3⟩
          · exact ask_fullD w h fr hf m hA h1 (fun h2 => hb ⟨h1, h2⟩) hE
          · exact ask_fullE w h fr hf m hA h1 h2 hE
          · exact ask_fullF w h fr hf m hA h1 h2 h3 hE
        · have e : askP (fx c.text) L fr m = (0, some ⟨(fx c.text).ep + 1, fr, (fx c.text).ma, 0⟩) := by unfold askP; rw [if_neg hA', if_neg hl, if_neg hb, if_neg hE]
          rw [e]
          by_cases hp : doE n a b d c (0, some ⟨(fx c.text).ep + 1, fr, (fx c.text).ma, 0⟩) = 0
          · rw [if_pos hp, hp]
            rcases hl2 with h1 | ⟨h1, h2⟩ | ⟨h1, h2, h3⟩
            · exact ask_putD0 w h fr hf m hA h1 (fun h2 => hb ⟨h1, h2⟩) hE hp
            · exact ask_putE0 w h fr hf m hA h1 h2 hE hp
            · exact ask_putF0 w h fr hf m hA h1 h2 h3 hE hp
          · rw [if_neg hp]
            rcases hl2 with h1 | ⟨h1, h2⟩ | ⟨h1, h2, h3⟩
            · exact ask_putD1 w h fr hf m hA h1 (fun h2 => hb ⟨h1, h2⟩) hE hp
            · exact ask_putE1 w h fr hf m hA h1 h2 hE hp
            · exact ask_putF1 w h fr hf m hA h1 h2 h3 hE hp

theorem cha_any (w : World) {tB cB a b : Nat} {c : M.Cl} {L W : Int} (h : WS w dB sB mB n d tB cB a b c L W) (fr : Int) (hf : 0 ≤ fr ∧ fr ≤ 1) (m : Mg) (hm : may m = true) :
    Calls Tryz.prog 55 #[.pointer (some ⟨tB, 0, none⟩), .int .i64 fr, msgV m] w fun e w' => e = .returned (.int .i64 (doE n a b d c (chaP (fx c.text) fr m))) ∧ WS w' dB sB mB n (doD n a b d c (chaP (fx c.text) fr m)) tB cB a b (doC n a b d c (chaP (fx c.text) fr m)) L W ∧ But (ours dB sB mB cB tB) w w' := by
  by_cases h1 : (fx c.text).ho = fr
  · by_cases h2 : m.epoch = (fx c.text).ep
    · have hn : ¬ ((fx c.text).ho ≠ fr ∨ m.epoch ≠ (fx c.text).ep) := by simp [h1, h2]
      by_cases h3 : m.seq < 1 ∨ 3 < m.seq
      · have e : chaP (fx c.text) fr m = (1, none) := by unfold chaP; rw [if_neg hn, if_pos (.inl h3)]
        rw [e]
        exact cha_in w h fr hf m h1 h2 h3
      · cases hA : inM m.seq fr with
        | false =>
          have e : chaP (fx c.text) fr m = (1, none) := by unfold chaP; rw [if_neg hn, if_pos (.inr hA)]
          rw [e]
          exact cha_not w h fr hf m h1 h2 (by omega) hA
        | true =>
          have hA' : ¬ ((m.seq < 1 ∨ 3 < m.seq) ∨ inM m.seq fr = false) := by rw [hA]; simpa using h3
          by_cases h4 : m.n ≤ (fx c.text).ch
          · have e : chaP (fx c.text) fr m = (0, none) := by unfold chaP; rw [if_neg hn, if_neg hA', if_pos h4]
            rw [e]
            exact cha_old w h fr hf m h1 h2 (by omega) hA h4
          · have e : chaP (fx c.text) fr m = (0, some ⟨(fx c.text).ep, (fx c.text).ho, m.seq, m.n⟩) := by unfold chaP; rw [if_neg hn, if_neg hA', if_neg h4]
            rw [e]
            exact cha_put w h fr hf m h1 h2 (by omega) hA h4 ((Ml.may_iff m).1 hm).2.2.2.1.2
    · have e : chaP (fx c.text) fr m = (20, none) := by unfold chaP; rw [if_pos (.inr h2)]
      rw [e]
      exact cha_ep w h fr hf m h1 h2
  · have e : chaP (fx c.text) fr m = (20, none) := by unfold chaP; rw [if_pos (.inl h1)]
    rw [e]
    exact cha_ho w h fr hf m h1
theorem lost_any (w : World) {tB cB a b : Nat} {c : M.Cl} {L W : Int} (h : WS w dB sB mB n d tB cB a b c L W) (fr : Int) (hf : 0 ≤ fr ∧ fr ≤ 1) (m : Mg) :
    Calls Tryz.prog 56 #[.pointer (some ⟨tB, 0, none⟩), .int .i64 fr, msgV m] w fun e w' => e = .returned (.int .i64 (doE n a b d c (losP (fx c.text) fr))) ∧ WS w' dB sB mB n (doD n a b d c (losP (fx c.text) fr)) tB cB a b (doC n a b d c (losP (fx c.text) fr)) L W ∧ But (ours dB sB mB cB tB) w w' := los_any w h fr hf m
end Go.Proofs.YtpoolpckabpnfaaGreat.Wt
