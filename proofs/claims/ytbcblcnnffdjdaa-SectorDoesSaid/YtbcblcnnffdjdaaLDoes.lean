/-
  PROVED: Whatever is done to a device, all that it tells is as the document says, act by act. CONDITIONS: none (any number of sectors, any acts, any sector).
-/
import Derived.Test.YtbcblcnnffdjdaaOpen
import Derived.Test.YtbcblcnnffdjdaaRef8
import Derived.Deep.CutBlock
import Derived.Deep.DeepCutAuto
import Derived.Deep.RegionHeldLaw
import Derived.BigQuiet
namespace Go.Proofs.Ytbcblcnnffdjdaa.sectorDoes
open Go.ChangeShapes Go.WideShapes Go.ChangeAt Go.RowKit Go.Joins
set_option linter.unusedVariables false
set_option linter.unusedSimpArgs false
set_option maxRecDepth 20000


set_option maxHeartbeats 40000000 in
theorem walk (x0 : Int) (a1 : Option Addr) (n1 c1 : Nat) (l1 : List A) (x2 : Int) (w : World) (w0 : (Lit.int .i64 x0).wf = true) (w1 : Acts w a1 n1 c1 l1) (w2 : (Lit.int .i64 x2).wf = true) :
    Calls Try.prog 3 #[.int .i64 x0, .slice a1 n1 c1, .int .i64 x2] w fun e w' => e = .returned (.bool true) ∧ Below w.heap.size w w' := by
  have HA := Lib.hid (awake_any w)
  have HW1 := Lib.hid w1
  have HX0 := Lib.hid (wf_int w0)
  have HX2 := Lib.hid (wf_int w2)
  clear w0 w1 w2
  by_cases hn : x0 < 0 ∨ 512 < x0
  · have HN := Lib.hid hn
    clear hn
    go_enter Try.func3, Try.ntmps3
    go_wp2_with (first
      | (go_at_call 9; refine HA.out.mono ?_; rintro e w1 ⟨rfl, hb1⟩; have HB1 := Lib.hid hb1; clear hb1)
      | (go_at_call 10; refine (new_no x0 HN.out _).mono ?_; rintro e w2 ⟨rfl, rfl⟩)
      | (go_at_call 11; refine (rnew_no x0 HN.out _).mono ?_; rintro e w2 ⟨rfl, rfl⟩))
    go_ret
    exact ⟨rfl, HB1.out⟩
  · obtain ⟨n, rfl⟩ : ∃ n : Nat, x0 = (n : Int) := ⟨x0.toNat, by omega⟩
    have hn512 : n ≤ 512 := by omega
    have HN := Lib.hid hn512
    clear hn hn512
    go_enter Try.func3, Try.ntmps3
    go_wp2_with (first
      | (go_at_call 9; refine HA.out.mono ?_; rintro e w1 ⟨rfl, hb1⟩; have HB1 := Lib.hid hb1; clear hb1)
      | (go_at_call 10; refine (new_yes n HN.out _).mono ?_; rintro e w2 ⟨dB, sB, mB, rfl, hd2, hb2, l1, l2, l3⟩
         have HD2 := Lib.hid hd2
         have HB2 := Lib.hid (HB1.out.trans (hb2.mono HB1.out.size))
         have HL : Hid (w.heap.size ≤ dB ∧ w.heap.size ≤ sB ∧ w.heap.size ≤ mB) := Lib.hid ⟨by have := HB1.out.size; omega, by have := HB1.out.size; omega, by have := HB1.out.size; omega⟩
         clear hd2 hb2 l1 l2 l3)
      | (go_at_call 11; refine (rnew_yes n HN.out _).mono ?_; rintro e w3 ⟨rB, LB, rfl, hr3, hb3, l1, l2⟩
         have HR3 := Lib.hid hr3
         have HD3 := Lib.hid (HD2.out.below hb3 ⟨HD2.out.ltD, HD2.out.lt, HD2.out.pend.lt⟩)
         have HB3 := Lib.hid (HB2.out.trans (hb3.mono HB2.out.size))
         have HL3 : Hid (w.heap.size ≤ rB ∧ w.heap.size ≤ LB) := Lib.hid ⟨by have := HB2.out.size; omega, by have := HB2.out.size; omega⟩
         have HAp : Hid (rB ∉ [dB, sB, mB]) := Lib.hid (by have := HD2.out.ltD; have := HD2.out.lt; have := HD2.out.pend.lt; simp; omega)
         have HAp2 : Hid (LB ∉ [dB, sB, mB]) := Lib.hid (by have := HD2.out.ltD; have := HD2.out.lt; have := HD2.out.pend.lt; simp; omega)
         clear hr3 hb3 l1 l2))
    go_loopw [9] (fun i wr => ∃ (k : Nat) (d : M.Dv) (LB : Nat), k ≤ 80 ∧ k ≤ n1 ∧ i = .int .i64 k ∧ DevAt wr dB sB mB n d ∧ RefAt wr rB LB n d ∧ Below w.heap.size w wr ∧ w.heap.size ≤ LB ∧ LB ∉ [dB, sB, mB]) (fun i _ => 80 - (intOf i).toNat)
    case atStart => exact ⟨0, M.fresh, LB, by omega, by omega, rfl, HD3.out, HR3.out, HB3.out, HL3.out.2, HAp2.out⟩
    case round =>
      obtain ⟨k, d, LB, hk, hkn, rfl, hdv, hrv, hbel, hlb, hap⟩ := hrel
      have HDv := Lib.hid hdv
      have HRv := Lib.hid hrv
      have HBel := Lib.hid hbel
      have HLb : Hid (w.heap.size ≤ LB ∧ LB ∉ [dB, sB, mB]) := Lib.hid ⟨hlb, hap⟩
      clear hdv hrv hbel hlb hap HD3 HR3 HB3 HD2 HB2
      have hk0 : (0 : Int) ≤ (k : Int) := by omega
      by_cases hend : k = n1
      · have hge : ¬ ((k : Int) < (n1 : Int)) := by omega
        clear hend
        go_wp2_with fail
        go_ret
        exact ⟨rfl, HBel.out⟩
      · have hlt : (k : Int) < (n1 : Int) := by omega
        by_cases h80 : k = 80
        · have hge : ¬ ((k : Int) < 80) := by omega
          clear h80 hend
          go_wp2_with fail
          go_ret
          exact ⟨rfl, HBel.out⟩
        · have hlt8 : (k : Int) < 80 := by omega
          obtain ⟨b, off, x, rfl, hx, hok0, hok, g1, g2, g3, g4, hbl⟩ := acts_at HW1.out HBel.out (show k < n1 by omega)
          have HX := Lib.hid (And.intro hx (And.intro hok0 (And.intro hok hbl)))
          clear hx hok0 hok hbl hend h80
          have HLg : Hid (∀ w', Calls Try.prog 12 #[.agg #[.int .i64 x.kind, .int .i64 x.i, .slice x.aB x.m x.c, .slice x.aL x.k x.cL]] w' fun e w'' => e = .returned (.bool (largeB x)) ∧ Below w'.heap.size w' w'') := Lib.hid (fun w' => large_any w' x)
          cases hlg : largeB x with
          | true =>
            rw [hlg] at HLg
            clear hlg
            go_wp2_with (go_at_call 12; refine (HLg.out _).mono ?_; rintro e w4 ⟨rfl, hb4⟩; have HB4 := Lib.hid hb4; clear hb4)
            go_ret
            exact ⟨rfl, (HBel.out.alloc HBel.out.size _).trans (HB4.out.mono (by have := HBel.out.size; simp; omega))⟩
          | false =>
            rw [hlg] at HLg
            have HSm : Hid (x.m ≤ 1000 ∧ x.k ≤ 600) := Lib.hid (by
              have := HX.out.2.2.1.len
              unfold largeB at hlg
              simp at hlg
              omega)
            clear hlg
            go_upto_block 2 with (first
              | (go_at_call 12; refine (HLg.out _).mono ?_; rintro e w4 ⟨rfl, hb4⟩
                 have HBO : Hid (But [] wr w4) := Lib.hid (((But.refl [] _).alloc _).below hb4 (by simp))
                 have hx0 := (hb4.cell (p := ⟨wr.heap.size, 0, none⟩) (by simp)).trans (show _ = some (.int .i64 x.kind) by rw [World.cell?_alloc_mark]; rfl)
                 have hx1 := (hb4.cell (p := ⟨wr.heap.size, 1, none⟩) (by simp)).trans (show _ = some (.int .i64 x.i) by rw [World.cell?_alloc_mark]; rfl)
                 have hx2 := (hb4.cell (p := ⟨wr.heap.size, 2, none⟩) (by simp)).trans (show _ = some (.slice x.aB x.m x.c) by rw [World.cell?_alloc_mark]; rfl)
                 have hx3 := (hb4.cell (p := ⟨wr.heap.size, 3, none⟩) (by simp)).trans (show _ = some (.slice x.aL x.k x.cL) by rw [World.cell?_alloc_mark]; rfl)
                 have HSz : Hid (wr.heap.size < w4.heap.size) := Lib.hid (by have := hb4.size; simp at this; omega)
                 have hx2a : (w4.alloc (.cells #[] 5)).cell? ⟨wr.heap.size, 2, none⟩ = some (.slice x.aB x.m x.c) := by rw [World.cell?_alloc_lt _ _ _ HSz.out]; exact hx2
                 have HO4 := Lib.hid (own_lit 5 w4 w4.heap.size [] (Nat.le_refl _) (by simp))
                 have HRow4 := Lib.hid (row_but HX.out.2.2.1.row (HBO.out.alloc (.cells #[] 5)) (.inr (by simp)))
                 clear hb4)
              | (refine wpList_append_row rfl (.tmp 56) (.tmp 58) rfl w4.heap.size (some ⟨w4.heap.size, 0, none⟩) 0 rfl HO4.out x.aB x.m x.c x.b rfl HRow4.out (by have := HSm.out.1; omega) (by simp) ?_
                 intro aO cO w5 hown5 hb5
                 have HO5 := Lib.hid hown5
                 have hb45 := (But.alloc (But.refl [] w4) (.cells #[] 5)).below hb5 (Nat.le_refl _)
                 have HBO5 := Lib.hid (HBO.out.trans hb45)
                 have hx0 := (hb45.cell (b := wr.heap.size) (o := 0) HSz.out (by simp)).trans hx0
                 have hx1 := (hb45.cell (b := wr.heap.size) (o := 1) HSz.out (by simp)).trans hx1
                 have hx2 := (hb45.cell (b := wr.heap.size) (o := 2) HSz.out (by simp)).trans hx2
                 have hx3 := (hb45.cell (b := wr.heap.size) (o := 3) HSz.out (by simp)).trans hx3
                 have HSz5 : Hid (wr.heap.size < w4.heap.size ∧ w4.heap.size ≤ w5.heap.size) := Lib.hid ⟨HSz.out, hb45.size⟩
                 clear hown5 hb5 hb45 HO4 HRow4 hx2a))
            have HFx : Hid (Fix w dB sB mB rB wr.heap.size w4.heap.size) := Lib.hid (by
              have h1 := HDv.out.ltD
              have h2 := HDv.out.lt
              have h3 := HDv.out.pend.lt
              have h4 := HRv.out.ltR
              have h5 := HSz5.out
              have h6 := HBel.out.size
              have h7 := HAp.out
              simp at h7
              exact ⟨HL.out.1, HL.out.2.1, HL.out.2.2, HL3.out.1, by omega, by omega, by omega, by omega, by omega, by omega, by omega, by omega, by omega, by omega, by omega, by omega, by omega⟩)
            have hLBlt := HRv.out.lt
            have HLw : Hid (LB < w4.heap.size ∧ wr.heap.size < w5.heap.size) := Lib.hid ⟨by have := HSz5.out; omega, by have := HSz5.out; omega⟩
            have HM5 : Hid (Mid w dB sB mB n rB wr.heap.size w4.heap.size x.i aO x.m w5 d d LB) := Lib.hid (by
              have h7 := HLb.out.2
              simp at h7
              exact ⟨HDv.out.but HBO5.out (by simp) (by simp) (by simp), HRv.out.but HBO5.out (by simp) (by simp), HBel.out.trans (HBO5.out.to_below (by simp) HBel.out.size), Wr.of_own HO5.out, hx1, HLb.out.1, by omega, by omega, by omega, by omega, fun b hb => .inr (by have := (HO5.out.row.2 b 0 hb).1; have := HLw.out; omega), HSz5.out.2⟩)
            clear hLBlt
            have HRow5 := Lib.hid HO5.out.row
            have HRx5 := Lib.hid (row_but HX.out.2.2.1.row HBO5.out (.inr (by simp)))
            have HK5 := Lib.hid (krow_but HX.out.2.2.1.keep HBO5.out (.inr (by simp)))
            have HF1 := Lib.hid (row_old HX.out.2.1.row (l := [rB, LB]) (by have := HL3.out.1; have := HLb.out.1; simp; omega))
            have HF2 := Lib.hid (krow_old HX.out.2.1.keep (l := [dB, sB, mB]) (by have := HL.out; simp; omega))
            have HI : Hid (-9223372036854775808 ≤ x.i ∧ x.i ≤ 9223372036854775807) := Lib.hid ⟨HX.out.2.1.i1, HX.out.2.1.i2⟩
            have HX0w := Lib.hid HX.out.2.1.row
            clear HO5 HSz HSz5 HBO HBO5 HX HBel HDv HRv HA HB1
            generalize wr.heap.size = x0 at *
            generalize w4.heap.size = B at *
            go_cut [12, 13] (fun ea eb wx => ∃ (e9 : Int) (d9 : M.Dv) (LB9 : Nat), ea = .int .i64 e9 ∧ eb = .int .i64 e9 ∧ Mid w dB sB mB n rB x0 B x.i aO x.m wx d9 d9 LB9)
            case first =>
              by_cases h0 : x.kind = 0
              · have hk0 : (x.kind == 0) = true := by simp [h0]
                clear h0
                have CW : Hid (∀ w', But [rB, LB] w5 w' → Calls Try.prog 13 #[.pointer (some ⟨dB, 0, none⟩), .int .i64 x.i, .slice aO x.m cO] w' fun e w'' => e = .returned (.int .i64 (M.writeE n d x.i x.b)) ∧ DevAt w'' dB sB mB n (M.writeD n d x.i x.b) ∧ But [dB, mB] w' w'') := Lib.hid (fun w' hb =>
                  write_any w' (HM5.out.ref HFx.out (HM5.out.rf) (But.refl [] w5) |>.dv.but hb (by have := HFx.out.rd; have := HM5.out.ld; simp; omega) (by have := HFx.out.rs; have := HM5.out.ls; simp; omega) (by have := HFx.out.rm; have := HM5.out.lm; simp; omega)) x.i HI.out.1 HI.out.2 aO x.m cO x.b (row_but HRow5.out.1 hb (.inr fun b off hb' => by have := (HRow5.out.2 b off hb').1; have := HFx.out.rl; have := HLw.out.1; simp; omega)) (.inr fun b off hb' => by have := (HRow5.out.2 b off hb').1; have := HFx.out.dl; simp; omega))
                have CR : Hid (∀ w', But [dB, mB] w5 w' → Calls Try.prog 14 #[.pointer (some ⟨rB, 0, none⟩), .int .i64 x.i, .slice x.aB x.m x.c] w' fun e w'' => e = .returned (.int .i64 (M.writeE n d x.i x.b)) ∧ RefAt w'' rB LB n (M.writeD n d x.i x.b) ∧ But [rB, LB] w' w'') := Lib.hid (fun w' hb =>
                  rwrite_any w' (HM5.out.rf.but hb (by have := HFx.out.rd; have := HFx.out.rm; simp; omega) (by have := HM5.out.ld; have := HM5.out.lm; simp; omega)) x.i HI.out.1 HI.out.2 x.aB x.m x.c x.b (row_but HRx5.out hb (row_old HX0w.out (l := [dB, mB]) (by have := HL.out; simp; omega))) (by
                    rcases HF1.out with h | h
                    · exact .inl h
                    · exact .inr fun b off hb' => by have := h b off hb'; simp at this; simp; omega))
                have HKS : Hid (∀ w', But [dB, mB, rB, LB] w5 w' → (w'.cell? ⟨x0, 1, none⟩ = some (.int .i64 x.i) ∧ w'.cell? ⟨x0, 2, none⟩ = some (.slice x.aB x.m x.c))) := Lib.hid (fun w' hb =>
                  have hn : x0 ∉ [dB, mB, rB, LB] := by have := HFx.out.xd; have := HFx.out.xm; have := HFx.out.xr; have := HM5.out.lx; simp; omega
                  ⟨(hb.cell HLw.out.2 hn).trans hx1, (hb.cell HLw.out.2 hn).trans hx2⟩)
                have CWa := Lib.hid (CW.out _ (But.refl _ _).drew)
                have CWb : Hid (∀ w', But [rB, LB] w5.drew w' → _) := Lib.hid (fun w' hb => CW.out w' ((But.refl _ _).drew.trans hb))
                have CRa := Lib.hid (CR.out _ (But.refl _ _).drew)
                have CRb : Hid (∀ w', But [dB, mB] w5.drew w' → _) := Lib.hid (fun w' hb => CR.out w' ((But.refl _ _).drew.trans hb))
                have K0 := Lib.hid (HKS.out _ (But.refl _ _))
                have K1 := Lib.hid (HKS.out _ (But.refl _ _).drew)
                have K2 : Hid (∀ w', But [dB, mB] w5.drew w' → _) := Lib.hid (fun w' hb => HKS.out w' ((But.refl _ _).drew.trans (hb.mono (by simp))))
                have K3 : Hid (∀ w', But [rB, LB] w5.drew w' → _) := Lib.hid (fun w' hb => HKS.out w' ((But.refl _ _).drew.trans (hb.mono (by simp))))
                have K4 : Hid (∀ w' w'', But [dB, mB] w5.drew w' → But [rB, LB] w' w'' → _) := Lib.hid (fun w' w'' hb hb' => HKS.out w'' (((But.refl _ _).drew.trans (hb.mono (by simp))).trans (hb'.mono (by simp))))
                have K5 : Hid (∀ w' w'', But [rB, LB] w5.drew w' → But [dB, mB] w' w'' → _) := Lib.hid (fun w' w'' hb hb' => HKS.out w'' (((But.refl _ _).drew.trans (hb.mono (by simp))).trans (hb'.mono (by simp))))
                clear CW CR HKS
                go_wp2_with fail
                go_region_held_law (fun w' => w'.cell? ⟨x0, 1, none⟩ = some (.int .i64 x.i) ∧ w'.cell? ⟨x0, 2, none⟩ = some (.slice x.aB x.m x.c))
                  (first
                    | exact K0.out
                    | exact K1.out
                    | exact K4.out _ _ hbD hbR
                    | exact K5.out _ _ hbR hbD
                    | exact K2.out _ hbD
                    | exact K3.out _ hbR)
                  ((first
                    | (with_reducible refine CWa.out.mono ?_; rintro e w6 ⟨rfl, hdD, hbD⟩)
                    | (with_reducible refine (CWb.out _ hbR).mono ?_; rintro e w6 ⟨rfl, hdD, hbD⟩)
                    | (with_reducible refine CRa.out.mono ?_; rintro e w7 ⟨rfl, hrR, hbR⟩)
                    | (with_reducible refine (CRb.out _ hbD).mono ?_; rintro e w7 ⟨rfl, hrR, hbR⟩)))
                all_goals
                  go_wp2_with fail
                  go_meet
                  exact ⟨_, _, LB, rfl, rfl, by first | exact (HM5.out.drew.dev HFx.out hdD hbD).ref HFx.out hrR hbR | exact (HM5.out.drew.ref HFx.out hrR hbR).dev HFx.out hdD hbD⟩
              · have hk0 : (x.kind == 0) = false := by simp [h0]
                clear h0
                by_cases h1 : x.kind = 1
                · have hk1 : (x.kind == 1) = true := by simp [h1]
                  clear h1
                  go_wp2_with (first
                    | (go_at_call 15; refine (barrier_any _ HM5.out.dv).mono ?_; rintro e w6 ⟨rfl, hd6, hb6⟩; have HM6 := Lib.hid (HM5.out.dev HFx.out hd6 hb6); clear hd6 hb6)
                    | (go_at_call 16; refine (rbarrier_any _ HM6.out.rf).mono ?_; rintro e w7 ⟨rfl, hr7, hb7⟩; have HM7 := Lib.hid (HM6.out.ref HFx.out hr7 hb7); clear hr7 hb7))
                  go_meet
                  exact ⟨_, _, LB, rfl, rfl, HM7.out⟩
                · have hk1 : (x.kind == 1) = false := by simp [h1]
                  clear h1
                  by_cases h2 : x.kind = 2
                  · have hk2 : (x.kind == 2) = true := by simp [h2]
                    clear h2
                    go_wp2_with (first
                      | (go_at_call 17; refine (fuse_any _ HM5.out.dv x.i HI.out.1 HI.out.2).mono ?_; rintro e w6 ⟨rfl, hd6, hb6⟩; have hm6 := HM5.out.dev HFx.out hd6 hb6; have hx1' := hm6.cell; have HM6 := Lib.hid hm6; clear hd6 hb6 hm6)
                      | (go_at_call 18; refine (rfuse_any _ HM6.out.rf x.i HI.out.1 HI.out.2).mono ?_; rintro e w7 ⟨rfl, hr7, hb7⟩; have HM7 := Lib.hid (HM6.out.ref HFx.out hr7 hb7); clear hr7 hb7))
                    go_meet
                    exact ⟨_, _, LB, rfl, rfl, HM7.out⟩
                  · have hk2 : (x.kind == 2) = false := by simp [h2]
                    clear h2
                    by_cases h3 : x.kind = 3
                    · have hk3 : (x.kind == 3) = true := by simp [h3]
                      clear h3
                      go_wp2_with (first
                        | (go_at_call 19; refine (crash_any _ HM5.out.dv _ _ _ _ HK5.out HF2.out).mono ?_; rintro e w6 ⟨rfl, hd6, hb6⟩
                           have HM6 := Lib.hid (HM5.out.dev HFx.out hd6 hb6)
                           have HK6 := Lib.hid (krow_but HK5.out hb6 HF2.out)
                           have hx3' := (hb6.cell HLw.out.2 (by have := HFx.out.xd; have := HFx.out.xm; have := HFx.out.xs; simp; omega)).trans hx3
                           clear hd6 hb6)
                        | (go_at_call 21; refine (keeps_any _ _ _ _ _ HK6.out HSm.out.2).mono ?_; rintro e w7 ⟨aK, cK, rfl, hk7, hnk, hb7⟩
                           have HM7 := Lib.hid (HM6.out.fresh HFx.out (But.of_below hb7))
                           have HK7 := Lib.hid hk7
                           have HN7 : Hid (x.l = [] ∨ ∀ b off, aK = some ⟨b, off, none⟩ → b ∉ [rB, LB]) := Lib.hid (.inr fun b off hb => by have := hnk b off hb; have := HM6.out.rf.ltR; have := HM6.out.rf.lt; simp; omega)
                           clear hk7 hnk hb7)
                        | (go_at_call 20; refine (rcrash_any _ HM7.out.rf _ _ _ _ HK7.out HN7.out).mono ?_; rintro e w8 ⟨rfl, hr8, hb8⟩; have HM8 := Lib.hid (HM7.out.ref HFx.out hr8 hb8); clear hr8 hb8))
                      go_meet
                      exact ⟨_, _, LB, rfl, rfl, HM8.out⟩
                    · have hk3 : (x.kind == 3) = false := by simp [h3]
                      clear h3
                      by_cases h4 : x.kind = 4
                      · have hk4 : (x.kind == 4) = true := by simp [h4]
                        clear h4
                        go_wp2_with (first
                          | (go_at_call 22; refine (lose_any _ HM5.out.dv).mono ?_; rintro e w6 ⟨rfl, hd6, hb6⟩; have HM6 := Lib.hid (HM5.out.dev HFx.out hd6 hb6); clear hd6 hb6)
                          | (go_at_call 23; refine (rlose_any _ HM6.out.rf).mono ?_; rintro e w7 ⟨rfl, LB', hr7, hb7, hl7⟩; have HM7 := Lib.hid (HM6.out.lose HFx.out hr7 hb7 hl7); clear hr7 hb7 hl7))
                        go_meet
                        exact ⟨_, _, LB', rfl, rfl, HM7.out⟩
                      · have hk4 : (x.kind == 4) = false := by simp [h4]
                        clear h4
                        go_wp2_with fail
                        go_meet
                        exact ⟨_, _, LB, rfl, rfl, HM5.out⟩
            case rest =>
              obtain ⟨e9, d9, LB9, rfl, rfl, hm⟩ := hcut
              have HM9 := Lib.hid hm
              have hm1000 : x.m ≤ 1000 := HSm.out.1
              clear hm hx0 hx1 hx2 hx3 HM5 HRow5 HRx5 HK5 HF1 HF2 HX0w HLw HLb
              go_wp2_with fail
              go_loopw [110] (fun t wr => ∃ j : Nat, j ≤ x.m ∧ t = .int .i64 j ∧ Mid w dB sB mB n rB x0 B x.i aO x.m wr d9 d9 LB9) (fun t _ => x.m - (intOf t).toNat)
              case atStart => exact ⟨0, by omega, rfl, HM9.out⟩
              case round =>
                obtain ⟨j, hj, rfl, hm⟩ := hrel
                have HMr := Lib.hid hm
                clear hm HM9
                have hj0 : (0 : Int) ≤ (j : Int) := by omega
                by_cases hje : j = x.m
                · have hge : ¬ ((j : Int) < (x.m : Int)) := by omega
                  clear hje
                  have hcx := HMr.out.cell
                  go_wp2_with fail
                  have HMd := Lib.hid ((HMr.out.fresh HFx.out ((But.refl [] wr).alloc (.cells #[.int .i64 x2, .int .i64 x.i] 3))).done)
                  have hP1 : (wr.alloc (.cells #[.int .i64 x2, .int .i64 x.i] 3)).cell? ⟨wr.heap.size, 0, none⟩ = some (.int .i64 x2) := by rw [World.cell?_alloc_mark]; rfl
                  have hP2 : (wr.alloc (.cells #[.int .i64 x2, .int .i64 x.i] 3)).cell? ⟨wr.heap.size, 1, none⟩ = some (.int .i64 x.i) := by rw [World.cell?_alloc_mark]; rfl
                  have HP : Hid ((wr.alloc (.cells #[.int .i64 x2, .int .i64 x.i] 3)).cell? ⟨wr.heap.size, 0, none⟩ = some (.int .i64 x2) ∧ (wr.alloc (.cells #[.int .i64 x2, .int .i64 x.i] 3)).cell? ⟨wr.heap.size, 1, none⟩ = some (.int .i64 x.i) ∧ wr.heap.size < (wr.alloc (.cells #[.int .i64 x2, .int .i64 x.i] 3)).heap.size) := Lib.hid ⟨hP1, hP2, by simp⟩
                  clear hP1 hP2 hcx HMr
                  generalize wr.alloc (.cells #[.int .i64 x2, .int .i64 x.i] 3) = wp at *
                  generalize wr.heap.size = P at *
                  go_loopw [125] (fun t wr => ∃ j : Nat, j ≤ 2 ∧ t = .int .i64 j ∧ Mid w dB sB mB n rB x0 B x.i none 0 wr d9 d9 LB9 ∧ wr.cell? ⟨P, 0, none⟩ = some (.int .i64 x2) ∧ wr.cell? ⟨P, 1, none⟩ = some (.int .i64 x.i) ∧ P < wr.heap.size) (fun t _ => 2 - (intOf t).toNat)
                  case atStart => exact ⟨0, by omega, rfl, HMd.out, HP.out⟩
                  case round =>
                    obtain ⟨q, hq, rfl, hm, hp1, hp2, hpl⟩ := hrel
                    have HMq := Lib.hid hm
                    have HPq := Lib.hid (And.intro hp1 (And.intro hp2 hpl))
                    clear hm hp1 hp2 hpl HMd HP
                    have hq0 : (0 : Int) ≤ (q : Int) := by omega
                    by_cases hqe : q = 2
                    · subst hqe
                      try rw [show ((2 : Nat) : Int) = 2 from rfl]
                      have C27 := Lib.hid (pending_row _ HMq.out.dv.drew)
                      have C28 : Hid (∀ w', But [] wr.drew w' → _) := Lib.hid (fun w' hb => rpending_any w' (HMq.out.drew.rf.but hb (by simp) (by simp)))
                      have C29 : Hid (∀ w', But [] wr.drew w' → _) := Lib.hid (fun w' hb => dead_any w' (HMq.out.drew.dv.but hb (by simp) (by simp) (by simp)))
                      have C30 : Hid (∀ w', But [] wr.drew w' → _) := Lib.hid (fun w' hb => sectors_any w' (HMq.out.drew.dv.but hb (by simp) (by simp) (by simp)))
                      have HDd : Hid (∀ w', But [] wr w' → w'.cell? ⟨rB, 1, none⟩ = some (.bool d9.dead)) := Lib.hid (fun w' hb => HMq.out.dead hb)
                      have K0 := Lib.hid (HDd.out _ (But.refl _ _))
                      have K1 := Lib.hid (HDd.out _ (But.refl _ _).drew)
                      have K2 : Hid (∀ w', But [] wr.drew w' → _) := Lib.hid (fun w' hb => HDd.out w' ((But.refl _ _).drew.trans hb))
                      have Hpl : Hid ((M.pendL n d9.P).length ≤ 1000) := Lib.hid (by have := M.pendL_len n d9.P; have := HN.out; omega)
                      clear HDd
                      go_wp2_with fail
                      generalize hLq : M.pendL n d9.P = Lq at *
                      clear hLq
                      go_region_held_law (fun w' => w'.cell? ⟨rB, 1, none⟩ = some (.bool d9.dead))
                        (first
                          | exact K0.out
                          | exact K1.out
                          | exact K2.out _ hbc
                          | exact K2.out _ hbb
                          | exact K2.out _ hba)
                        ((first
                          | (with_reducible refine C27.out.mono ?_; rintro e wa ⟨aP, cP, rfl, hrp, hba'⟩; have hba := But.of_below hba'; clear hba')
                          | (with_reducible refine (C28.out _ hba).mono ?_; rintro e wb ⟨aQ, cQ, rfl, hrq, hbb'⟩; have hbb := hba.trans (But.of_below hbb'); have hrp' := row_but hrp (But.of_below hbb') (.inr (by simp)); clear hbb')
                          | (with_reducible refine (ints_any _ aP cP aQ cQ Lq.length Lq hrp' hrq Hpl.out).mono ?_; rintro e wc ⟨rfl, hbc'⟩; have hbc := hbb.trans (But.of_below hbc'); clear hbc')
                          | (with_reducible refine (C29.out _ hbc).mono ?_; rintro e wd ⟨rfl, rfl⟩)
                          | (with_reducible refine (C30.out _ hbc).mono ?_; rintro e wd ⟨rfl, rfl⟩)))
                      have HMz := Lib.hid (HMq.out.drew.fresh HFx.out hbc)
                      clear hba hbb hbc hrp hrp' hrq C27 C28 C29 C30 K0 K1 K2
                      go_wp2_with fail
                      go_roundw
                      case rel => exact ⟨k + 1, d9, LB9, by omega, by omega, by go_num, HMz.out.dv, HMz.out.rf, HMz.out.bel, HMz.out.lb, by have := HMz.out.ld; have := HMz.out.ls; have := HMz.out.lm; simp; omega⟩
                      case measure => simp [intOf]; omega
                    · have hqlt : (q : Int) < 2 := by omega
                      obtain ⟨s, hs1, hs2, hcell⟩ : ∃ s : Int, -9223372036854775808 ≤ s ∧ s ≤ 9223372036854775807 ∧ wr.cell? ⟨P, q, none⟩ = some (.int .i64 s) := by
                        match q, hq, hqe with
                        | 0, _, _ => exact ⟨x2, HX2.out.1, HX2.out.2, HPq.out.1⟩
                        | 1, _, _ => exact ⟨x.i, HI.out.1, HI.out.2, HPq.out.2.1⟩
                        | 2, _, h => exact absurd rfl h
                        | q + 3, h, _ => omega
                      clear hqe
                      by_cases hr : M.reach n d9 s = 0
                      · obtain ⟨b1, b2, b3⟩ := reach_bounds hr
                        obtain ⟨s, rfl⟩ : ∃ s' : Nat, s = (s' : Int) := ⟨s.toNat, by omega⟩
                        have HR1 := Lib.hid (read_yes _ HMq.out.dv s hr)
                        have HR2 : Hid (∀ w', But [] wr w' → _) := Lib.hid (fun w' hb => rread_yes w' (HMq.out.rf.but hb (by simp) (by simp)) s hr)
                        have Hsl : Hid ((M.seen d9 s).length = 144) := Lib.hid (M.sure_len HMq.out.dv.wf s)
                        clear hr b1 b2 b3
                        go_upto_region 39 with (first
                          | (go_at_call 24; refine HR1.out.mono ?_; rintro e w6 ⟨bR, rfl, hbR, hltR, hrg, hth, hb6⟩
                             have HB6 := Lib.hid (But.of_below hb6)
                             have HW6 := Lib.hid (And.intro hbR (And.intro hltR (And.intro hrg hth)))
                             clear hbR hltR hrg hth hb6)
                          | (go_at_call 25; refine (HR2.out _ HB6.out).mono ?_; rintro e w7 ⟨aQ, cQ, rfl, hrow, hb7⟩
                             have hb67 := But.of_below hb7
                             have HB7 := Lib.hid (HB6.out.trans hb67)
                             have hrg7 := rangeAt_block HW6.out.2.2.1 (hb67.block bR HW6.out.2.1 (by simp))
                             have hth7 := there_block HW6.out.2.2.2 (hb67.block bR HW6.out.2.1 (by simp))
                             have hlt7 := Nat.lt_of_lt_of_le HW6.out.2.1 hb67.size
                             have hc1 : (convert 28 9 (.slice (some ⟨bR, 0, none⟩) 144 144)).run Try.prog w7 = .ok (.string (str (M.seen d9 s))) w7 := by
                               have h1 := conv_take (k := 144) hrg7 hlt7 Hsl.out (by omega)
                               rw [List.take_of_length_le (by have := Hsl.out; omega)] at h1
                               exact h1
                             have hc2 := conv_row hrow
                             have HW7 : Hid (Wr w7 wr.heap.size (some ⟨bR, 0, none⟩) 144) := Lib.hid (.inr ⟨bR, _, rfl, Hsl.out, hrg7, hth7, HW6.out.1, hlt7⟩)
                             have HM7 := Lib.hid (HMq.out.fresh HFx.out HB7.out)
                             have HP7 : Hid (w7.cell? ⟨P, 0, none⟩ = some (.int .i64 x2) ∧ w7.cell? ⟨P, 1, none⟩ = some (.int .i64 x.i) ∧ P < w7.heap.size) := Lib.hid ⟨(HB7.out.cell HPq.out.2.2 (by simp)).trans HPq.out.1, (HB7.out.cell HPq.out.2.2 (by simp)).trans HPq.out.2.1, Nat.lt_of_lt_of_le HPq.out.2.2 HB7.out.size⟩
                             have HLt : Hid (B ≤ wr.heap.size ∧ LB9 < wr.heap.size ∧ P < wr.heap.size) := Lib.hid ⟨HMq.out.sz, HMq.out.rf.lt, HPq.out.2.2⟩
                             clear hrow hb7 hb67 hrg7 hth7 hlt7))
                        generalize str (M.seen d9 s) = sv at *
                        clear hcell
                        generalize wr.heap.size = B2 at *
                        go_wp2_with fail
                        go_loopw [153] (fun t wr => ∃ j : Nat, j ≤ 144 ∧ t = .int .i64 j ∧ Mid w dB sB mB n rB x0 B x.i none 0 wr d9 d9 LB9 ∧ wr.cell? ⟨P, 0, none⟩ = some (.int .i64 x2) ∧ wr.cell? ⟨P, 1, none⟩ = some (.int .i64 x.i) ∧ P < wr.heap.size ∧ Wr wr B2 (some ⟨bR, 0, none⟩) 144) (fun t _ => 144 - (intOf t).toNat)
                        case atStart => exact ⟨0, by omega, rfl, HM7.out, HP7.out.1, HP7.out.2.1, HP7.out.2.2, HW7.out⟩
                        case round =>
                          obtain ⟨v, hv, rfl, hm, hp1, hp2, hpl, hw⟩ := hrel
                          have HMv := Lib.hid hm
                          have HPv := Lib.hid (And.intro hp1 (And.intro hp2 hpl))
                          have HWv := Lib.hid hw
                          clear hm hp1 hp2 hpl hw HM7 HP7 HW7 hc1 hc2
                          have hv0 : (0 : Int) ≤ (v : Int) := by omega
                          by_cases hve : v = 144
                          · subst hve
                            try rw [show ((144 : Nat) : Int) = 144 from rfl]
                            go_wp2_with fail
                            go_roundw
                            case rel => exact ⟨q + 1, by omega, by go_num, HMv.out, HPv.out⟩
                            case measure => simp [intOf]; omega
                          · have hvlt : (v : Int) < 144 := by omega
                            obtain ⟨bv, c, hbv, hcv, hfv, hgv, hlv, hTv⟩ := HWv.out.at (show v < 144 by omega)
                            injection hbv with hbv
                            injection hbv with hbv
                            subst hbv
                            have hxor := turn_byte c
                            obtain ⟨hcr0, hcr1⟩ := byte_range c
                            have hb := (But.refl [bR] wr).set (p := ⟨bR, v, none⟩) (.int .u8 ((c ^^^ 1).toNat : Int)) (.inl (by simp))
                            have HMw := Lib.hid (HMv.out.far HFx.out hb (by have := HLt.out; omega) (by have := HLt.out; omega))
                            have HPw : Hid ((wr.setCell ⟨bR, v, none⟩ (.int .u8 ((c ^^^ 1).toNat : Int))).cell? ⟨P, 0, none⟩ = some (.int .i64 x2) ∧ (wr.setCell ⟨bR, v, none⟩ (.int .u8 ((c ^^^ 1).toNat : Int))).cell? ⟨P, 1, none⟩ = some (.int .i64 x.i) ∧ P < (wr.setCell ⟨bR, v, none⟩ (.int .u8 ((c ^^^ 1).toNat : Int))).heap.size) := Lib.hid ⟨(hb.cell HPv.out.2.2 (by have := HLt.out; simp; omega)).trans HPv.out.1, (hb.cell HPv.out.2.2 (by have := HLt.out; simp; omega)).trans HPv.out.2.1, Nat.lt_of_lt_of_le HPv.out.2.2 hb.size⟩
                            have HWw := Lib.hid (hTv (c ^^^ 1))
                            clear hb hTv hve hgv hlv
                            go_wp2_with fail
                            go_roundw
                            case rel => exact ⟨v + 1, by omega, by go_num, HMw.out, HPw.out.1, HPw.out.2.1, HPw.out.2.2, HWw.out⟩
                            case measure => simp [intOf]; omega
                      · have HR1 := Lib.hid (read_no _ HMq.out.dv s hs1 hs2 hr)
                        have HR2 := Lib.hid (rread_no _ HMq.out.rf s hs1 hs2 hr)
                        have hc1 := conv_row (l := []) (row_nil wr)
                        generalize M.reach n d9 s = e5 at *
                        clear hr
                        go_wp2_with (first
                          | (go_at_call 24; refine HR1.out.mono ?_; rintro e w6 ⟨rfl, rfl⟩)
                          | (go_at_call 25; refine HR2.out.mono ?_; rintro e w7 ⟨rfl, rfl⟩))
                        clear hcell hc1 HR1 HR2
                        go_loopw [153] (fun t wr => t = .int .i64 0 ∧ Mid w dB sB mB n rB x0 B x.i none 0 wr d9 d9 LB9 ∧ wr.cell? ⟨P, 0, none⟩ = some (.int .i64 x2) ∧ wr.cell? ⟨P, 1, none⟩ = some (.int .i64 x.i) ∧ P < wr.heap.size) (fun t _ => 0)
                        case atStart => exact ⟨rfl, HMq.out, HPq.out⟩
                        case round =>
                          obtain ⟨rfl, hm, hp⟩ := hrel
                          have HMv := Lib.hid hm
                          have HPv := Lib.hid hp
                          clear hm hp
                          go_wp2_with fail
                          go_roundw
                          case rel => exact ⟨q + 1, by omega, by go_num, HMv.out, HPv.out⟩
                          case measure => simp [intOf]; omega
                · have hjlt : (j : Int) < (x.m : Int) := by omega
                  obtain ⟨b, c, rfl, hc, hf, hT⟩ := HMr.out.turn HFx.out (show j < x.m by omega)
                  have hxor := turn_byte c
                  obtain ⟨hcr0, hcr1⟩ := byte_range c
                  have HMs := Lib.hid (hT (c ^^^ 1))
                  clear hT hje
                  go_wp2_with fail
                  go_roundw
                  case rel => exact ⟨j + 1, by omega, by go_num, HMs.out⟩
                  case measure => simp [intOf]; omega

set_option maxRecDepth 100000 in
theorem lifted (os : Os) (started : os.Started) (H : Type) (enc : TypeId × Value → H) :
    ReturnsInHanded {} Try.checked os 3 .any (Rows.sectorDoesSpec.pre6 enc Try.prog Try.f3 Rows.sectorDoesRow.domain false) (Rows.sectorDoesSpec.post enc Try.prog Try.f3 false true false false) := by
  refine returnsInHanded_of_change (C := Try.checked) own started (by kernel_rfl) Try.func3
    (ChangeSpec.witness6 (enc := enc) (C := Try.checked) false ⟨#[], #[.int .i64 0, .slice none 0 0, .int .i64 0], []⟩ 8 (by kernel_rfl) (by kernel_rfl) (by kernel_rfl) (by kernel_rfl)) ?_
  intro W base args ds gs before hval0 hW hcnd _
  have hval : ∀ (j : Nat) t v, Try.f3.params[j]? = some t → args[j]? = some v → Value.okWide Try.prog W .any base t v := hval0
  have hW' := hW
  obtain ⟨p, q, hA0, hV, rfl, hfz, hnd⟩ := hW
  have hA : DataW.TrodAll enc Try.prog W 0 (fun _ => true) true Try.f3.params.toList args.toList ds p := hA0
  rw [Try.params3] at hA hval
  obtain ⟨v0, vs0, d0, ds0, p0, q0, hargs, rfl, rfl, h0, r0'⟩ := trodAll_cons hA
  obtain ⟨v1, vs1, d1, ds1, p1, q1, rfl, rfl, rfl, h1, r1'⟩ := trodAll_cons r0'
  obtain ⟨v2, vs2, d2, ds2, p2, q2, rfl, rfl, rfl, h2, r2'⟩ := trodAll_cons r1'
  obtain ⟨rfl, rfl, rfl⟩ := trodAll_nil r2'
  obtain rfl : args = #[v0, v1, v2] := by cases args; simp_all
  obtain ⟨rfl, rfl⟩ := trodVars_none hV
  obtain ⟨x0, rfl, rfl, rfl, w0⟩ := open_int Try.underlying3 (hval 0 3 v0 rfl rfl) h0
  have k1 := h1
  have lt1 : ∀ x ∈ p1, x.block < W.heap.size := by obtain ⟨m, hm⟩ := k1; exact DataW.trod_lt m _ _ _ hm
  obtain ⟨a1, n1, c1, l1, rfl, w1⟩ := open_lot h1 (okWide_slice Try.underlying22 (hval 1 22 v1 rfl rfl))
  obtain ⟨x2, rfl, rfl, rfl, w2⟩ := open_int Try.underlying3 (hval 2 3 v2 rfl rfl) h2
  clear hA0 hval0
  refine (walk x0 a1 n1 c1 l1 x2 W w0 w1 w2).mono fun e W' ⟨he, bel⟩ => ?_
  subst he
  exact ⟨_, rfl, _, _, _, [], _, [], hW', trodAll_mk1 (shut_bool Try.underlying4 _), (trodAll_cons_mk (shut_int Try.underlying3 w0) (trodAll_cons_mk (Below.trod laidOut (by kernel_rfl) (of_decide_eq_true (by kernel_rfl)) k1 bel lt1) (trodAll_cons_mk (shut_int Try.underlying3 w2) trodAll_mk0))), rfl, bel.frame _, fun h => by cases h⟩

theorem over : Rows.sectorDoesRow.holds Try.pinned (OpenSpec.ofChange Rows.sectorDoesSpec) :=
  OpenClaim.holds_of_wide 3 Try.f3 rfl rfl rfl rfl rfl rfl rfl ⟨rfl, rfl, rfl, rfl, rfl⟩ rfl rfl rfl rfl rfl (by kernel_rfl) Try.func3 (by kernel_rfl)
    (of_decide_eq_true (by kernel_rfl)) (by unfold Func.isWrapper; first | (rw [if_pos (by decide +kernel)]; kernel_rfl) | (rw [if_neg (by decide +kernel)]; exact ⟨rfl, rfl⟩))
    (fun os started H enc _ => lifted os started H enc)

/-- the statement -/
theorem proved : Rows.SectorDoesSaid := over
#print axioms proved
end Go.Proofs.Ytbcblcnnffdjdaa.sectorDoes
