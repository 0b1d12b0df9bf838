/-
  PROVED: whatever is done to a list, with whatever crashes, and whatever lies in its sectors, all that it tells, and the sectors, are as the document says, act by act. CONDITIONS: none (any number of sectors, any two, any number of blocks; any acts, of which up to 60 are done; any block).
-/
import Derived.Test.YtcofahpeinkhfaaGreatRBo
import Derived.Deep.CutBlock
import Derived.Deep.DeepCutAuto
import Derived.Deep.RegionHeldLaw
import Derived.BigQuiet
namespace Go.Proofs.YtcofahpeinkhfaaGreat.drlDoes
open Go.ChangeShapes Go.WideShapes Go.ChangeAt Go.RowKit Go.Joins
open Go.ChangeMaps (open_string shut_string)
set_option linter.unusedVariables false
set_option linter.unusedSimpArgs false
set_option maxRecDepth 20000

theorem str_of {s : ByteArray} {n : Nat} (h : s.size ≤ n) : ∃ t : List UInt8, s = str t ∧ t.length ≤ n := ⟨s.data.toList, by unfold str; rfl, by rw [Array.length_toList]; exact h⟩
theorem kq {f : Nat} {args : Array Value} {e0 : Ending} (w0 : World) (H : ∀ w, Below w0.heap.size w0 w → Calls Tryz.prog f args w fun e w' => e = e0 ∧ Below w.heap.size w w') :
    Hid (∀ w, Below w0.heap.size w0 w → Calls Tryz.prog f args w fun e w' => e = e0 ∧ Below w0.heap.size w0 w') := Lib.hid fun w hw => (H w hw).mono (by
  rintro e w' ⟨rfl, hb⟩
  exact ⟨rfl, B.below_up hw hb hw.size⟩)
theorem kr {f : Nat} {args : Array Value} {c : Nat} {l : List Value} (w0 : World) (H : ∀ w, Below w0.heap.size w0 w → Calls Tryz.prog f args w fun e w' => ∃ a cap, e = .returned (.slice a c cap) ∧ B.Row w' a c cap l ∧ Below w.heap.size w w') :
    Hid (∀ w, Below w0.heap.size w0 w → Calls Tryz.prog f args w fun e w' => ∃ a cap, e = .returned (.slice a c cap) ∧ B.Row w' a c cap l ∧ Below w0.heap.size w0 w' ∧ Below w.heap.size w w') := Lib.hid fun w hw => (H w hw).mono (by
  rintro e w' ⟨a, cap, rfl, hr, hb⟩
  exact ⟨a, cap, rfl, hr, B.below_up hw hb hw.size, hb⟩)

set_option maxHeartbeats 40000000 in
theorem walk (x0 : Int) (x1 : Int) (x2 : Int) (x3 : Int) (a4 : Option Addr) (n4 c4 : Nat) (l4 : List A) (x5 : Int) (w : World) (w0 : (Lit.int .i64 x0).wf = true) (w1 : (Lit.int .i64 x1).wf = true) (w2 : (Lit.int .i64 x2).wf = true) (w3 : (Lit.int .i64 x3).wf = true) (w4 : Acts w a4 n4 c4 l4) (w5 : (Lit.int .i64 x5).wf = true) :
    Calls Tryz.prog 3 #[.int .i64 x0, .int .i64 x1, .int .i64 x2, .int .i64 x3, .slice a4 n4 c4, .int .i64 x5] w fun e w' => e = .returned (.bool true) ∧ Below w.heap.size w w' := by
  have HA := Lib.hid (awake_any w)
  have HW1 := Lib.hid w4
  have HX0 := Lib.hid (wf_int w0)
  have HX1 := Lib.hid (wf_int w1)
  have HX2 := Lib.hid (wf_int w2)
  have HX3 := Lib.hid (wf_int w3)
  have HX5 := Lib.hid (wf_int w5)
  clear w0 w1 w2 w3 w4 w5
  by_cases hn : x0 < 0 ∨ 512 < x0
  · have HN := Lib.hid hn
    clear hn
    go_enter Tryz.func3, Tryz.ntmps3
    go_wp2_with (first
      | (go_at_call 4; with_reducible refine HA.out.mono ?_; rintro e w1 ⟨rfl, hb1⟩; have HB1 := Lib.hid hb1; clear hb1)
      | (go_at_call 5; with_reducible refine (new_no x0 HN.out _).mono ?_; rintro e w2 ⟨rfl, rfl⟩)
      | (go_at_call 6; with_reducible refine (rnew_no x0 HN.out _).mono ?_; rintro e w2 ⟨rfl, rfl⟩))
    go_ret
    exact ⟨rfl, HB1.out⟩
  · obtain ⟨n, rfl⟩ : ∃ n : Nat, x0 = (n : Int) := ⟨x0.toNat, by omega⟩
    have hn512 : n ≤ 512 := by omega
    have HN := Lib.hid hn512
    clear hn hn512
    by_cases hgood : (1 ≤ x3 ∧ x3 ≤ 32) ∧ ¬ Bad n x1 x2
    · obtain ⟨⟨g1, g2⟩, g3⟩ := hgood
      obtain ⟨bl, rfl⟩ : ∃ bl : Nat, x3 = (bl : Int) := ⟨x3.toNat, by omega⟩
      obtain ⟨a, rfl⟩ : ∃ a : Nat, x1 = (a : Int) := ⟨x1.toNat, by unfold Bad at g3; omega⟩
      obtain ⟨b, rfl⟩ : ∃ b : Nat, x2 = (b : Int) := ⟨x2.toNat, by unfold Bad at g3; omega⟩
      have hab : (a ≠ b ∧ a < n ∧ b < n) ∧ (1 ≤ bl ∧ bl ≤ 32) := by unfold Bad at g3; omega
      have HG := Lib.hid hab
      clear g1 g2 g3 hab HX1 HX2 HX3
      go_enter Tryz.func3, Tryz.ntmps3
      go_wp2_with (first
        | (go_at_call 4; with_reducible refine HA.out.mono ?_; rintro e w1 ⟨rfl, hb1⟩; have HB1 := Lib.hid hb1; clear hb1)
        | (go_at_call 5; with_reducible refine (new_yes n HN.out _).mono ?_; rintro e w2 ⟨dB, sB, mB, rfl, hd2, hb2, l1, l2, l3⟩
           have HD2 := Lib.hid hd2
           have HB2 := Lib.hid (HB1.out.trans (hb2.mono HB1.out.size))
           have HL : Hid (w.heap.size ≤ dB ∧ w.heap.size ≤ sB ∧ w.heap.size ≤ mB) := Lib.hid ⟨by have := HB1.out.size; omega, by have := HB1.out.size; omega, by have := HB1.out.size; omega⟩
           clear hd2 hb2 l1 l2 l3)
        | (go_at_call 6; with_reducible refine (rnew_yes n HN.out _).mono ?_; rintro e w3 ⟨rB, LB, rfl, hr3, hb3, l1, l2⟩
           have HR3 := Lib.hid hr3
           have HD3 := Lib.hid (HD2.out.below hb3 ⟨HD2.out.ltD, HD2.out.lt, HD2.out.pend.lt⟩)
           have HB3 := Lib.hid (HB2.out.trans (hb3.mono HB2.out.size))
           have HL3 : Hid (w.heap.size ≤ rB ∧ w.heap.size ≤ LB) := Lib.hid ⟨by have := HB2.out.size; omega, by have := HB2.out.size; omega⟩
           have HAp : Hid (Ap0 w w3 [dB, sB, mB] [rB, LB]) := Lib.hid ⟨HB3.out, by have := HL.out; simp; omega, by have := HL3.out; simp; omega, by have := HD2.out.ltD; have := HD2.out.lt; have := HD2.out.pend.lt; simp; omega⟩
           clear hr3 hb3 l1 l2)
        | (go_at_call 7; with_reducible refine (lopen_yes w3 HD3.out rfl a b HG.out.1.1 HG.out.1.2.1 HG.out.1.2.2 bl HG.out.2).mono ?_; rintro e w5 ⟨lB, cB, rfl, h1, h2, h3, h4, h5⟩
           have HLd5 := Lib.hid h4
           have HAp5 := Lib.hid (HAp.out.openL h5 h1 h2 HR3.out.ltR HR3.out.lt)
           have HR5 := Lib.hid (HR3.out.but (But.of_below h5) (by simp) (by simp))
           clear h1 h2 h3 h4 h5)
        | (go_at_call 8; with_reducible refine (rlopen_yes w5 HR5.out rfl a b HG.out.1.1 HG.out.1.2.1 HG.out.1.2.2 bl HG.out.2).mono ?_; rintro e w6 ⟨kB, lR, rfl, h1, h2, h3, h4⟩
           have HRd6 := Lib.hid h3
           have HLd6 := Lib.hid (HLd5.out.below h4)
           have HAp6 := Lib.hid (HAp5.out.openR h4 h1 h2 HLd5.out.dev.ltD HLd5.out.dev.lt HLd5.out.dev.pend.lt HLd5.out.cel.lt HLd5.out.li.lt)
           clear h1 h2 h3 h4))
      clear HD2 HB2 HL HR3 HD3 HB3 HL3 HAp HLd5 HAp5 HR5 HB1 HA
      go_loopw [15, 16, 17, 18, 19] (fun l e q f i wr => ∃ (k : Nat) (d : M.Dv) (c : M.Cl) (lB cB kB lR : Nat), k ≤ 60 ∧ k ≤ n4 ∧ i = .int .i64 k ∧ l = .pointer (some ⟨lB, 0, none⟩) ∧ q = .pointer (some ⟨lR, 0, none⟩) ∧ e = .int .i64 0 ∧ f = .int .i64 0 ∧ LD wr dB sB mB n d lB cB a b bl c ∧ RD wr rB LB n d kB lR a b bl c ∧ Ap0 w wr [dB, sB, mB, cB, lB] [rB, LB, kB, lR]) (fun _ _ _ _ i _ => 60 - (RowKit.intOf i).toNat)
      case atStart => exact ⟨0, _, _, _, _, _, _, by omega, by omega, rfl, rfl, rfl, rfl, rfl, HLd6.out, HRd6.out, HAp6.out⟩
      case round =>
        obtain ⟨k, d, c, lB, cB, kB, lR, hk, hkn, rfl, rfl, rfl, rfl, rfl, hld, hrd, hap⟩ := hrel
        have HLw := Lib.hid hld
        have HRw := Lib.hid hrd
        have HAw := Lib.hid hap
        clear hld hrd hap HLd6 HRd6 HAp6
        have hk0 : (0 : Int) ≤ (k : Int) := by omega
        by_cases hend : k = n4
        · have hge : ¬ ((k : Int) < (n4 : Int)) := by omega
          clear hend
          go_wp2_with fail
          go_ret
          exact ⟨rfl, HAw.out.bel⟩
        · have hlt : (k : Int) < (n4 : Int) := by omega
          by_cases h80 : k = 60
          · have hge : ¬ ((k : Int) < 60) := by omega
            clear h80 hend
            go_wp2_with fail
            go_ret
            exact ⟨rfl, HAw.out.bel⟩
          · have hlt8 : (k : Int) < 60 := by omega
            obtain ⟨b4, off4, x, rfl, hx, hok0, hok, y0, y1, y2, y3, hbl⟩ := acts_at HW1.out HAw.out.bel (show k < n4 by omega)
            have HX := Lib.hid (And.intro hok0 (And.intro hok hbl))
            have HKn : Hid (k < 60 ∧ k < n4) := Lib.hid ⟨by omega, by omega⟩
            clear hx hok0 hok hbl hend h80 hk hkn
            have HLg : Hid (∀ w', Calls Tryz.prog 9 #[.agg #[.int .i64 x.kind, .int .i64 x.i, .string x.s, .slice x.aL x.k x.cL]] w' fun e w'' => e = .returned (.bool (largeB x)) ∧ Below w'.heap.size w' w'') := Lib.hid (fun w' => large_any w' x)
            cases hlg : largeB x with
            | true =>
              rw [hlg] at HLg
              clear hlg
              go_wp2_with (first
                | (go_at_call 9; refine (HLg.out _).mono ?_; rintro e w4 ⟨rfl, hb4⟩; have HB4 := Lib.hid hb4; clear hb4))
              go_ret
              exact ⟨rfl, (HAw.out.bel.alloc HAw.out.bel.size _).trans (HB4.out.mono (by have := HAw.out.bel.size; simp; omega))⟩
            | false =>
              rw [hlg] at HLg
              have HSm : Hid (x.k ≤ 600) := Lib.hid (by unfold largeB at hlg; simp at hlg; omega)
              have HSs : Hid (x.s.size ≤ 1000) := Lib.hid (by unfold largeB at hlg; simp at hlg; omega)
              clear hlg
              go_upto_block 2 with (first
                | (go_at_call 9; refine (HLg.out _).mono ?_; rintro e w4 ⟨rfl, hb4⟩
                   have HBO : Hid (But [] wr w4) := Lib.hid (((But.refl [] _).alloc _).below hb4 (by simp))
                   have HXA : Hid (XA w4 wr.heap.size x) := Lib.hid ((xa_new wr x).but (But.of_below hb4) (by simp))
                   have hx0 := HXA.out.c0
                   have hx1 := HXA.out.c1
                   have hx2 := HXA.out.c2
                   have hx3 := HXA.out.c3
                   clear hb4))
              have HM4 : Hid (Md w w4 dB sB mB rB LB lB cB kB lR n a b bl wr.heap.size x d c d c) := Lib.hid ⟨HLw.out.but HBO.out (by simp), HRw.out.but HBO.out (by simp), HAw.out.act HBO.out HXA.out (by have h1 := HLw.out.dev.ltD; have h2 := HLw.out.dev.lt; have h3 := HLw.out.dev.pend.lt; have h4 := HLw.out.cel.lt; have h5 := HLw.out.li.lt; simp; omega) (by have h1 := HRw.out.rf.ltR; have h2 := HRw.out.rf.lt; have h3 := HRw.out.klt; have h4 := HRw.out.li.lt; simp; omega)⟩
              have HK4 := Lib.hid (krow_but HX.out.2.1.keep HBO.out (.inr (by simp)))
              have HF2 := Lib.hid (krow_old HX.out.1.keep (l := [dB, sB, mB]) (by have := HAw.out.gl; simp at this; simp; omega))
              have HI : Hid (-9223372036854775808 ≤ x.i ∧ x.i ≤ 9223372036854775807) := Lib.hid ⟨HX.out.1.i1, HX.out.1.i2⟩
              clear HBO HX HLw HRw HAw HXA
              generalize wr.heap.size = P at *
              go_cut [15, 16, 17, 18] (fun l e q f wx => ∃ (wz : World) (d : M.Dv) (c : M.Cl) (lB cB kB lR : Nat), wz = wx ∧ l = .pointer (some ⟨lB, 0, none⟩) ∧ q = .pointer (some ⟨lR, 0, none⟩) ∧ e = .int .i64 0 ∧ f = .int .i64 0 ∧ Md w wz dB sB mB rB LB lB cB kB lR n a b bl P x d c d c)
              case first =>
                by_cases h0 : x.kind = 0
                · have hk0 : (x.kind == 0) = true := by simp [h0]
                  have hn1 : (x.kind == 1) = false := by simp [h0]
                  have hn2 : (x.kind == 2) = false := by simp [h0]
                  have hn3 : (x.kind == 3) = false := by simp [h0]
                  have hn4 : (x.kind == 4) = false := by simp [h0]
                  clear h0
                  as_aux_lemma =>
                    obtain ⟨eM, dM, cM, hML, hMR⟩ := mark_both n d a b bl c HG.out.2.2 x.i
                    have CLa := Lib.hid (hML w4.drew dB sB mB lB cB (HM4.out.l.but (But.refl [] w4).drew (by simp)))
                    have CLb : Hid (∀ w', But [rB, LB, kB, lR] w4.drew w' → Calls Tryz.prog 10 _ w' _) := Lib.hid (fun w' hb => hML w' dB sB mB lB cB ((HM4.out.fresh (But.refl [] w4).drew).other hb).1)
                    have CRa := Lib.hid (hMR w4.drew rB LB kB lR (HM4.out.r.but (But.refl [] w4).drew (by simp)))
                    have CRb : Hid (∀ w', But [dB, sB, mB, cB] w4.drew w' → Calls Tryz.prog 11 _ w' _) := Lib.hid (fun w' hb => hMR w' rB LB kB lR ((HM4.out.fresh (But.refl [] w4).drew).other2 hb).1)
                    have K0 := Lib.hid HM4.out.ap.xa.c1
                    have K2 : Hid (∀ w', But [dB, sB, mB, cB] w4.drew w' → w'.cell? ⟨P, 1, none⟩ = some (.int .i64 x.i)) := Lib.hid (fun w' hb => ((HM4.out.fresh (But.refl [] w4).drew).other2 hb).2.c1)
                    have K3 : Hid (∀ w', But [rB, LB, kB, lR] w4.drew w' → w'.cell? ⟨P, 1, none⟩ = some (.int .i64 x.i)) := Lib.hid (fun w' hb => ((HM4.out.fresh (But.refl [] w4).drew).other hb).2.c1)
                    have K4 : Hid (∀ w' w'', But [dB, sB, mB, cB] w4.drew w' → But [rB, LB, kB, lR] w' w'' → w''.cell? ⟨P, 1, none⟩ = some (.int .i64 x.i)) := Lib.hid (fun w' w'' hb hb' => (((HM4.out.fresh (But.refl [] w4).drew).ap.left hb (by simp)).right hb' (by simp)).xa.c1)
                    have K5 : Hid (∀ w' w'', But [rB, LB, kB, lR] w4.drew w' → But [dB, sB, mB, cB] w' w'' → w''.cell? ⟨P, 1, none⟩ = some (.int .i64 x.i)) := Lib.hid (fun w' w'' hb hb' => (((HM4.out.fresh (But.refl [] w4).drew).ap.right hb (by simp)).left hb' (by simp)).xa.c1)
                    have HMq := Lib.hid (HM4.out.fresh (But.refl [] w4).drew)
                    clear hML hMR
                    go_wp2_with fail
                    go_region_held_law (fun w' => w'.cell? ⟨P, 1, none⟩ = some (.int .i64 x.i))
                      (first
                        | exact K0.out
                        | exact K4.out _ _ hbD hbR
                        | exact K5.out _ _ hbR hbD
                        | exact K2.out _ hbD
                        | exact K3.out _ hbR)
                      ((first
                        | (with_reducible refine CLa.out.mono ?_; rintro e w6 ⟨rfl, hdD, hbD⟩)
                        | (with_reducible refine (CLb.out _ hbR).mono ?_; rintro e w6 ⟨rfl, hdD, hbD⟩)
                        | (with_reducible refine CRa.out.mono ?_; rintro e w7 ⟨rfl, hrR, hbR⟩)
                        | (with_reducible refine (CRb.out _ hbD).mono ?_; rintro e w7 ⟨rfl, hrR, hbR⟩)))
                    all_goals
                      go_wp2_with fail
                      go_meet
                      exact ⟨_, dM, cM, lB, cB, kB, lR, rfl, rfl, rfl, rfl, rfl, by first | exact (HMq.out.left hdD hbD).right hrR hbR | exact (HMq.out.right hrR hbR).left hdD hbD⟩
                · have hk0 : (x.kind == 0) = false := by simp [h0]
                  clear h0
                  by_cases h1 : x.kind = 1
                  · have hk1 : (x.kind == 1) = true := by simp [h1]
                    have hn2 : (x.kind == 2) = false := by simp [h1]
                    have hn3 : (x.kind == 3) = false := by simp [h1]
                    have hn4 : (x.kind == 4) = false := by simp [h1]
                    clear h1
                    as_aux_lemma =>
                      obtain ⟨eM, dM, cM, hML, hMR⟩ := clear_both n d a b bl c HG.out.2.2
                      have CLa := Lib.hid (hML w4 dB sB mB lB cB HM4.out.l)
                      have CRb : Hid (∀ w', But [dB, sB, mB, cB] w4 w' → Calls Tryz.prog 13 _ w' _) := Lib.hid (fun w' hb => hMR w' rB LB kB lR (HM4.out.other2 hb).1)
                      clear hML hMR
                      go_wp2_with (first
                        | (go_at_call 12; with_reducible refine CLa.out.mono ?_; rintro e w6 ⟨rfl, hdD, hbD⟩; have HD6 := Lib.hid (And.intro hdD hbD); clear hdD hbD)
                        | (go_at_call 13; with_reducible refine (CRb.out _ HD6.out.2).mono ?_; rintro e w7 ⟨rfl, hrR, hbR⟩; have HM7 := Lib.hid ((HM4.out.left HD6.out.1 HD6.out.2).right hrR hbR); clear hrR hbR))
                      go_meet
                      exact ⟨_, dM, cM, lB, cB, kB, lR, rfl, rfl, rfl, rfl, rfl, HM7.out⟩
                  · have hk1 : (x.kind == 1) = false := by simp [h1]
                    clear h1
                    by_cases h2 : x.kind = 2
                    · have hk2 : (x.kind == 2) = true := by simp [h2]
                      clear h2
                      as_aux_lemma =>
                        go_wp2_with (first
                          | (go_at_call 14; with_reducible refine (fuse_any w4 HM4.out.dv x.i HI.out.1 HI.out.2).mono ?_; rintro e w6 ⟨rfl, hd6, hb6⟩; have HM6 := Lib.hid (HM4.out.dev hd6 hb6); have x1 := HM6.out.ap.xa.c1; clear hd6 hb6)
                          | (go_at_call 15; with_reducible refine (rfuse_any w6 HM6.out.rf x.i HI.out.1 HI.out.2).mono ?_; rintro e w7 ⟨rfl, hr7, hb7⟩; have HM7 := Lib.hid (HM6.out.ref hr7 hb7); clear hr7 hb7))
                        go_meet
                        exact ⟨_, _, _, lB, cB, kB, lR, rfl, rfl, rfl, rfl, rfl, HM7.out⟩
                    · have hk2 : (x.kind == 2) = false := by simp [h2]
                      clear h2
                      by_cases h3 : x.kind = 3
                      · have hk3 : (x.kind == 3) = true := by simp [h3]
                        clear h3
                        as_aux_lemma =>
                          go_wp2_with (first
                            | (go_at_call 16; with_reducible refine (crash_any w4 HM4.out.dv _ _ _ _ HK4.out HF2.out).mono ?_; rintro e w6 ⟨rfl, hd6, hb6⟩
                               have HM6 := Lib.hid (HM4.out.dev hd6 hb6)
                               have x3c := HM6.out.ap.xa.c3
                               have HK6 := Lib.hid (krow_but HK4.out hb6 HF2.out)
                               clear hd6 hb6)
                            | (go_at_call 18; with_reducible refine (keeps_any w6 _ _ _ _ HK6.out HSm.out).mono ?_; rintro e w7 ⟨aK, cK, rfl, hk7, hnk, hb7⟩
                               have HM7 := Lib.hid (HM6.out.fresh (But.of_below hb7))
                               have HK7 := Lib.hid hk7
                               have HN7 : Hid (x.l = [] ∨ ∀ b off, aK = some ⟨b, off, none⟩ → b ∉ [rB, LB]) := Lib.hid (.inr fun b off hb => by have := hnk b off hb; have := HM6.out.rf.ltR; have := HM6.out.rf.lt; simp; omega)
                               clear hk7 hnk hb7)
                            | (go_at_call 17; with_reducible refine (rcrash_any w7 HM7.out.rf _ _ _ _ HK7.out HN7.out).mono ?_; rintro e w8 ⟨rfl, hr8, hb8⟩; have HM8 := Lib.hid (HM7.out.ref hr8 hb8); clear hr8 hb8)
                            | (go_at_call 7; with_reducible refine (lopen_yes w8 HM8.out.dv rfl a b HG.out.1.1 HG.out.1.2.1 HG.out.1.2.2 bl HG.out.2).mono ?_; rintro e w9 ⟨lB', cB', rfl, h1, h2, h3, h4, h5⟩
                               have HM9 := Lib.hid (HM8.out.openL h4 h5 h1 h2)
                               clear h1 h2 h3 h4 h5)
                            | (go_at_call 8; with_reducible refine (rlopen_yes w9 HM9.out.rf rfl a b HG.out.1.1 HG.out.1.2.1 HG.out.1.2.2 bl HG.out.2).mono ?_; rintro e w10 ⟨kB', lR', rfl, h1, h2, h3, h4⟩
                               have HM10 := Lib.hid (HM9.out.openR h3 h4 h1 h2)
                               clear h1 h2 h3 h4))
                          go_meet
                          exact ⟨_, _, _, lB', cB', kB', lR', rfl, rfl, rfl, rfl, rfl, HM10.out⟩
                      · have hk3 : (x.kind == 3) = false := by simp [h3]
                        clear h3
                        by_cases h4 : x.kind = 4
                        · have hk4 : (x.kind == 4) = true := by simp [h4]
                          clear h4
                          as_aux_lemma =>
                            obtain ⟨t, ht, hts⟩ := str_of HSs.out
                            obtain ⟨cC, wc, hrun, hrow, hbc⟩ := conv_str w4 t hts
                            rw [← ht] at hrun
                            have HRow := Lib.hid hrow
                            have HMc := Lib.hid (HM4.out.fresh (But.of_below hbc))
                            have HNc : Hid (u8s t = [] ∨ ∀ b off, (some ⟨w4.heap.size, 0, none⟩ : Option Addr) = some ⟨b, off, none⟩ → b ∉ [dB]) := Lib.hid (.inr fun b off hb => by injection hb with hb; injection hb with hb; have := HM4.out.dv.ltD; simp; omega)
                            have Ht := Lib.hid ht
                            have Hts := Lib.hid hts
                            clear hrow hbc ht hts
                            go_wp2_with (first
                              | (go_at_call 19; with_reducible refine (write_any wc HMc.out.dv x.i HI.out.1 HI.out.2 _ _ _ t HRow.out HNc.out).mono ?_; rintro e w6 ⟨rfl, hd6, hb6⟩
                                 have HM6 := Lib.hid (HMc.out.dev hd6 hb6)
                                 obtain ⟨cE, we, hrun2, hrow2, hbe⟩ := conv_str w6 t Hts.out
                                 rw [← Ht.out] at hrun2
                                 have y1 := HM6.out.ap.xa.c1
                                 have y2 := HM6.out.ap.xa.c2
                                 have HRow2 := Lib.hid hrow2
                                 have HMe := Lib.hid (HM6.out.fresh (But.of_below hbe))
                                 have HNe : Hid (u8s t = [] ∨ ∀ b off, (some ⟨w6.heap.size, 0, none⟩ : Option Addr) = some ⟨b, off, none⟩ → b ∉ [rB]) := Lib.hid (.inr fun b off hb => by injection hb with hb; injection hb with hb; have := HM6.out.rf.ltR; simp; omega)
                                 clear hd6 hb6 hrow2 hbe)
                              | (go_at_call 20; with_reducible refine (rwrite_any we HMe.out.rf x.i HI.out.1 HI.out.2 _ _ _ t HRow2.out HNe.out).mono ?_; rintro e w7 ⟨rfl, hr7, hb7⟩; have HM7 := Lib.hid (HMe.out.ref hr7 hb7); clear hr7 hb7))
                            go_meet
                            exact ⟨_, _, _, lB, cB, kB, lR, rfl, rfl, rfl, rfl, rfl, HM7.out⟩
                        · have hk4 : (x.kind == 4) = false := by simp [h4]
                          clear h4
                          as_aux_lemma =>
                            go_wp2_with fail
                            go_meet
                            exact ⟨_, _, _, lB, cB, kB, lR, rfl, rfl, rfl, rfl, rfl, HM4.out⟩
              case rest =>
                as_aux_lemma =>
                  obtain ⟨wz, d, c, lB, cB, kB, lR, hwz, rfl, rfl, rfl, rfl, hm⟩ := hcut
                  subst hwz
                  have HM9 := Lib.hid hm
                  clear hm hx0 hx1 hx2 hx3 HM4 HK4 HF2 HI HSm HSs HLg
                  have HRl := Lib.hid HM9.out.r.li
                  have HRlt := Lib.hid HM9.out.r.li.lt
                  have HMl := Lib.hid (D.marks_lt bl c.text)
                  have h8 : D.regs bl ≤ 64 := by have := D.regs_le HG.out.2.2; omega
                  have hD32 := D.blocks_len bl (D.marks bl c.text)
                  have hD33 : (D.blocks bl (D.marks bl c.text)).length ≤ 1000 := by have := HG.out.2.2; omega
                  have K22 := kr wz (f := 22) (args := #[.pointer (some ⟨lB, 0, none⟩)]) (c := (D.blocks bl (D.marks bl c.text)).length) (l := B.ints (D.blocks bl (D.marks bl c.text))) (fun w' hb => (blocks_any w' (HM9.out.l.below hb).li (HM9.out.l.below hb).cel HG.out.2 HM9.out.l.tx).mono (by rintro e w' ⟨x, cap, rfl, ho, hb⟩; exact ⟨x, cap, rfl, (B.own_row ho).1, hb⟩))
                  have K23 := kr wz (f := 23) (args := #[.pointer (some ⟨lR, 0, none⟩)]) (c := (D.blocks bl (D.marks bl c.text)).length) (l := B.ints (D.blocks bl (D.marks bl c.text))) (fun w' hb => rlall_any w' (HM9.out.r.below hb).li HG.out.2)
                  have K21 : Hid (∀ w' a1 c1 a2 c2, Below wz.heap.size wz w' → B.Row w' a1 (D.blocks bl (D.marks bl c.text)).length c1 (B.ints (D.blocks bl (D.marks bl c.text))) → B.Row w' a2 (D.blocks bl (D.marks bl c.text)).length c2 (B.ints (D.blocks bl (D.marks bl c.text))) → Calls Tryz.prog 21 #[.slice a1 (D.blocks bl (D.marks bl c.text)).length c1, .slice a2 (D.blocks bl (D.marks bl c.text)).length c2] w' fun e w'' => e = .returned (.bool true) ∧ Below wz.heap.size wz w'') := Lib.hid fun w' a1 c1 a2 c2 hb h1 h2 => (ints_nat w' a1 c1 a2 c2 _ _ h1 h2 hD33).mono (by rintro e w'' ⟨rfl, hb'⟩; exact ⟨rfl, B.below_up hb hb' hb.size⟩)
                  have K24 := kq wz (f := 24) (args := #[.pointer (some ⟨lB, 0, none⟩), .int .i64 x5]) (fun w' hb => lhas_any w' (HM9.out.l.below hb).li (HM9.out.l.below hb).cel HG.out.2 HM9.out.l.tx x5)
                  have K25 := kq wz (f := 25) (args := #[.pointer (some ⟨lR, 0, none⟩), .int .i64 x5]) (fun w' hb => rlhas_any w' (HM9.out.r.below hb).li HG.out.2 x5)
                  have K26 := kq wz (f := 26) (args := #[.pointer (some ⟨lB, 0, none⟩)]) (fun w' hb => row_any w' (HM9.out.l.below hb).li (HM9.out.l.below hb).cel HG.out.2 HM9.out.l.tx)
                  have K27 := kq wz (f := 27) (args := #[B.V (D.regs bl) (D.marks bl c.text)]) (fun w' _ => B.text_any (D.regs bl) (D.marks bl c.text) w' h8 HMl.out)
                  have K28 := kq wz (f := 28) (args := #[B.RV (D.regs bl) (D.marks bl c.text)]) (fun w' _ => B.rtext_any (D.regs bl) (D.marks bl c.text) w' h8 HMl.out)
                  clear h8 hD32 hD33 HMl
                  have HMm := Lib.hid HM9.out
                  generalize hLq : D.blocks bl (D.marks bl c.text) = Lq at *
                  generalize hHq : D.has bl (D.marks bl c.text) x5 = Hq at *
                  generalize hTq : B.str (B.M.txt (D.regs bl) (D.marks bl c.text)) = Tq at *
                  generalize hmq : D.marks bl c.text = m at *
                  clear hLq hHq hTq hmq
                  unfold B.V at *
                  go_wp2_with fail
                  have hb0 := Below.drew (Below.refl wz.heap.size wz)
                  refine wp_region_noPanic ?_
                  refine wp_region_held_drew (S := fun w' => RList w' lR kB bl m) (by kernel_rfl) (HRl.out.of_block rfl) (fun hHeld => ?_)
                  refine wpAnyH_take (i := 0) (v := ?_) rfl (by kernel_rfl) (by kernel_rfl) (by kernel_rfl) (fun _ _ _ h => h) (Or.inl ⟨by rfl, ?_⟩) hHeld ?_
                  rotate_left 1
                  · (intro w hSw; (try dsimp only at hSw); go_simp; try with_reducible rfl)
                  change wpAnyH _ _ _ _ _ _ _ (Act.put _ (some 185) _) _
                  try simp only [Act.put, List.setIfInBounds_toArray, List.set_cons_zero, List.set_cons_succ]
                  refine wpAnyH_take (i := 1) (v := ?_) rfl (by kernel_rfl) (by kernel_rfl) (by kernel_rfl) (fun _ _ _ h => h) (Or.inl ⟨by rfl, ?_⟩) hHeld ?_
                  rotate_left 1
                  · (intro w hSw; (try dsimp only at hSw); go_simp; try with_reducible rfl)
                  change wpAnyH _ _ _ _ _ _ _ (Act.put _ (some 186) _) _
                  try simp only [Act.put, List.setIfInBounds_toArray, List.set_cons_zero, List.set_cons_succ]
                  refine wpAnyH_take (i := 2) (v := ?_) rfl (by kernel_rfl) (by kernel_rfl) (by kernel_rfl) (fun _ _ _ h => h) (Or.inl ⟨by rfl, ?_⟩) hHeld ?_
                  rotate_left 1
                  · (intro w hSw; (try dsimp only at hSw); go_simp; try with_reducible rfl)
                  change wpAnyH _ _ _ _ _ _ _ (Act.put _ (some 187) _) _
                  try simp only [Act.put, List.setIfInBounds_toArray, List.set_cons_zero, List.set_cons_succ]
                  refine wpAnyH_take (i := 3) (v := ?_) rfl (by kernel_rfl) (by kernel_rfl) (by kernel_rfl) (fun _ _ _ h => h) (Or.inl ⟨by rfl, ?_⟩) hHeld ?_
                  rotate_left 1
                  · (intro w hSw; (try dsimp only at hSw); go_simp; try with_reducible rfl)
                  change wpAnyH _ _ _ _ _ _ _ (Act.put _ (some 188) _) _
                  try simp only [Act.put, List.setIfInBounds_toArray, List.set_cons_zero, List.set_cons_succ]
                  refine wpAnyH_take (i := 5) (v := ?_) rfl (by kernel_rfl) (by kernel_rfl) (by kernel_rfl) (fun _ _ _ h => h) (Or.inl ⟨by rfl, ?_⟩) hHeld ?_
                  rotate_left 1
                  · (intro w hSw; (try dsimp only at hSw); go_simp; try with_reducible rfl)
                  change wpAnyH _ _ _ _ _ _ _ (Act.put _ (some 190) _) _
                  try simp only [Act.put, List.setIfInBounds_toArray, List.set_cons_zero, List.set_cons_succ]
                  refine wpAnyH_ready (rs := [4]) (by kernel_rfl) (by simp) ?_
                  refine AllReadyH.cons rfl (fun K hK => ?_) AllReadyH.nil
                  go_simp
                  with_reducible refine (K22.out _ hb0).mono ?_
                  rintro e wa ⟨q1, cap1, rfl, hq1, hl, hx⟩
                  refine hK.out _ _ (HRl.out.below hl HRlt.out) (fun hHeld => ?_)
                  clear hK K
                  try simp only [Act.put, List.setIfInBounds_toArray, List.set_cons_zero, List.set_cons_succ]
                  replace hb0 := hl
                  refine wpAnyH_ready (rs := [6]) (by kernel_rfl) (by simp) ?_
                  refine AllReadyH.cons rfl (fun K hK => ?_) AllReadyH.nil
                  go_simp
                  with_reducible refine (K23.out _ hb0).mono ?_
                  rintro e wb ⟨q2, cap2, rfl, hq2, hl, hx⟩
                  replace hq1 := B.row_below hq1 hx (Nat.le_refl _)
                  refine hK.out _ _ (HRl.out.below hl HRlt.out) (fun hHeld => ?_)
                  clear hK K
                  try simp only [Act.put, List.setIfInBounds_toArray, List.set_cons_zero, List.set_cons_succ]
                  replace hb0 := hl
                  refine wpAnyH_ready (rs := [7]) (by kernel_rfl) (by simp) ?_
                  refine AllReadyH.cons rfl (fun K hK => ?_) AllReadyH.nil
                  go_simp
                  with_reducible refine (K21.out _ _ _ _ _ hb0 hq1 hq2).mono ?_
                  rintro e wl ⟨rfl, hl⟩
                  refine hK.out _ _ (HRl.out.below hl HRlt.out) (fun hHeld => ?_)
                  clear hK K
                  try simp only [Act.put, List.setIfInBounds_toArray, List.set_cons_zero, List.set_cons_succ]
                  replace hb0 := hl
                  refine wpAnyH_take (i := 8) (v := ?_) rfl (by kernel_rfl) (by kernel_rfl) (by kernel_rfl) (fun _ _ _ h => h) (Or.inl ⟨by rfl, ?_⟩) hHeld ?_
                  rotate_left 1
                  · (intro w hSw; (try dsimp only at hSw); go_simp; try with_reducible rfl)
                  change wpAnyH _ _ _ _ _ _ _ (Act.put _ (some 193) _) _
                  try simp only [Act.put, List.setIfInBounds_toArray, List.set_cons_zero, List.set_cons_succ]
                  refine wpAnyH_take (i := 9) (v := ?_) rfl (by kernel_rfl) (by kernel_rfl) (by kernel_rfl) (fun _ _ _ h => h) (Or.inl ⟨by rfl, ?_⟩) hHeld ?_
                  rotate_left 1
                  · (intro w hSw; (try dsimp only at hSw); go_simp; try with_reducible rfl)
                  change wpAnyH _ _ _ _ _ _ _ (Act.put _ (some 194) _) _
                  try simp only [Act.put, List.setIfInBounds_toArray, List.set_cons_zero, List.set_cons_succ]
                  refine wpAnyH_take (i := 10) (v := ?_) rfl (by kernel_rfl) (by kernel_rfl) (by kernel_rfl) (fun _ _ _ h => h) (Or.inl ⟨by rfl, ?_⟩) hHeld ?_
                  rotate_left 1
                  · (intro w hSw; (try dsimp only at hSw); go_simp; try with_reducible rfl)
                  change wpAnyH _ _ _ _ _ _ _ (Act.put _ (some 195) _) _
                  try simp only [Act.put, List.setIfInBounds_toArray, List.set_cons_zero, List.set_cons_succ]
                  refine wpAnyH_take (i := 11) (v := ?_) rfl (by kernel_rfl) (by kernel_rfl) (by kernel_rfl) (fun _ _ _ h => h) (Or.inl ⟨by rfl, ?_⟩) hHeld ?_
                  rotate_left 1
                  · (intro w hSw; (try dsimp only at hSw); go_simp; try with_reducible rfl)
                  change wpAnyH _ _ _ _ _ _ _ (Act.put _ (some 196) _) _
                  try simp only [Act.put, List.setIfInBounds_toArray, List.set_cons_zero, List.set_cons_succ]
                  refine wpAnyH_take (i := 13) (v := ?_) rfl (by kernel_rfl) (by kernel_rfl) (by kernel_rfl) (fun _ _ _ h => h) (Or.inl ⟨by rfl, ?_⟩) hHeld ?_
                  rotate_left 1
                  · (intro w hSw; (try dsimp only at hSw); go_simp; try with_reducible rfl)
                  change wpAnyH _ _ _ _ _ _ _ (Act.put _ (some 198) _) _
                  try simp only [Act.put, List.setIfInBounds_toArray, List.set_cons_zero, List.set_cons_succ]
                  refine wpAnyH_take (i := 14) (v := ?_) rfl (by kernel_rfl) (by kernel_rfl) (by kernel_rfl) (fun _ _ _ h => h) (Or.inl ⟨by rfl, ?_⟩) hHeld ?_
                  rotate_left 1
                  · (intro w hSw; (try dsimp only at hSw); go_simp; try with_reducible rfl)
                  change wpAnyH _ _ _ _ _ _ _ (Act.put _ (some 199) _) _
                  try simp only [Act.put, List.setIfInBounds_toArray, List.set_cons_zero, List.set_cons_succ]
                  refine wpAnyH_ready (rs := [12]) (by kernel_rfl) (by simp) ?_
                  refine AllReadyH.cons rfl (fun K hK => ?_) AllReadyH.nil
                  go_simp
                  with_reducible refine (K24.out _ hb0).mono ?_
                  rintro e wl ⟨rfl, hl⟩
                  refine hK.out _ _ (HRl.out.below hl HRlt.out) (fun hHeld => ?_)
                  clear hK K
                  try simp only [Act.put, List.setIfInBounds_toArray, List.set_cons_zero, List.set_cons_succ]
                  replace hb0 := hl
                  refine wpAnyH_ready (rs := [15]) (by kernel_rfl) (by simp) ?_
                  refine AllReadyH.cons rfl (fun K hK => ?_) AllReadyH.nil
                  go_simp
                  with_reducible refine (K25.out _ hb0).mono ?_
                  rintro e wl ⟨rfl, hl⟩
                  refine hK.out _ _ (HRl.out.below hl HRlt.out) (fun hHeld => ?_)
                  clear hK K
                  try simp only [Act.put, List.setIfInBounds_toArray, List.set_cons_zero, List.set_cons_succ]
                  replace hb0 := hl
                  refine wpAnyH_take (i := 16) (v := ?_) rfl (by kernel_rfl) (by kernel_rfl) (by kernel_rfl) (fun _ _ _ h => h) (Or.inl ⟨by rfl, ?_⟩) hHeld ?_
                  rotate_left 1
                  · (intro w hSw; (try dsimp only at hSw); go_simp; try with_reducible rfl)
                  change wpAnyH _ _ _ _ _ _ _ (Act.put _ (some 201) _) _
                  try simp only [Act.put, List.setIfInBounds_toArray, List.set_cons_zero, List.set_cons_succ]
                  refine wpAnyH_take (i := 17) (v := ?_) rfl (by kernel_rfl) (by kernel_rfl) (by kernel_rfl) (fun _ _ _ h => h) (Or.inl ⟨by rfl, ?_⟩) hHeld ?_
                  rotate_left 1
                  · (intro w hSw; (try dsimp only at hSw); go_simp; try with_reducible rfl)
                  change wpAnyH _ _ _ _ _ _ _ (Act.put _ (some 202) _) _
                  try simp only [Act.put, List.setIfInBounds_toArray, List.set_cons_zero, List.set_cons_succ]
                  refine wpAnyH_take (i := 18) (v := ?_) rfl (by kernel_rfl) (by kernel_rfl) (by kernel_rfl) (fun _ _ _ h => h) (Or.inl ⟨by rfl, ?_⟩) hHeld ?_
                  rotate_left 1
                  · (intro w hSw; (try dsimp only at hSw); go_simp; try with_reducible rfl)
                  change wpAnyH _ _ _ _ _ _ _ (Act.put _ (some 203) _) _
                  try simp only [Act.put, List.setIfInBounds_toArray, List.set_cons_zero, List.set_cons_succ]
                  refine wpAnyH_take (i := 19) (v := ?_) rfl (by kernel_rfl) (by kernel_rfl) (by kernel_rfl) (fun _ _ _ h => h) (Or.inl ⟨by rfl, ?_⟩) hHeld ?_
                  rotate_left 1
                  · (intro w hSw; (try dsimp only at hSw); go_simp; try with_reducible rfl)
                  change wpAnyH _ _ _ _ _ _ _ (Act.put _ (some 204) _) _
                  try simp only [Act.put, List.setIfInBounds_toArray, List.set_cons_zero, List.set_cons_succ]
                  refine wpAnyH_take (i := 22) (v := ?_) rfl (by kernel_rfl) (by kernel_rfl) (by kernel_rfl) (fun _ _ _ h => h) (Or.inl ⟨by rfl, ?_⟩) hHeld ?_
                  rotate_left 1
                  · (intro w hSw; (try dsimp only at hSw); go_simp; try with_reducible rfl)
                  change wpAnyH _ _ _ _ _ _ _ (Act.put _ (some 207) _) _
                  try simp only [Act.put, List.setIfInBounds_toArray, List.set_cons_zero, List.set_cons_succ]
                  refine wpAnyH_take (i := 23) (v := ?_) rfl (by kernel_rfl) (by kernel_rfl) (by kernel_rfl) (fun _ _ _ h => h) (Or.inl ⟨by rfl, ?_⟩) hHeld ?_
                  rotate_left 1
                  · (intro w hSw; (try dsimp only at hSw); go_simp; try with_reducible rfl)
                  change wpAnyH _ _ _ _ _ _ _ (Act.put _ (some 208) _) _
                  try simp only [Act.put, List.setIfInBounds_toArray, List.set_cons_zero, List.set_cons_succ]
                  refine wpAnyH_take (i := 24) (v := ?_) rfl (by kernel_rfl) (by kernel_rfl) (by kernel_rfl) (fun _ _ _ h => h) (Or.inl ⟨by rfl, ?_⟩) hHeld ?_
                  rotate_left 1
                  · (intro w hSw; (try dsimp only at hSw); go_simp; try with_reducible rfl)
                  change wpAnyH _ _ _ _ _ _ _ (Act.put _ (some 209) _) _
                  try simp only [Act.put, List.setIfInBounds_toArray, List.set_cons_zero, List.set_cons_succ]
                  refine wpAnyH_take (i := 25) (v := B.RV (D.regs bl) m) rfl (by kernel_rfl) (by kernel_rfl) (by kernel_rfl) (fun _ _ _ h => h) (yieldsIf_load_mid (by rfl) 60 _ rfl lR 2 rfl (B.rl (D.regs bl) m) _ (fun _ h => RList.range h) Tryz.underlying60 rfl (by rw [B.size30, B.rl_len])) hHeld ?_
                  change wpAnyH _ _ _ _ _ _ _ (Act.put _ (some 210) _) _
                  try simp only [Act.put, List.setIfInBounds_toArray, List.set_cons_zero, List.set_cons_succ]
                  refine wpAnyH_ready (rs := [20]) (by kernel_rfl) (by simp) ?_
                  refine AllReadyH.cons rfl (fun K hK => ?_) AllReadyH.nil
                  go_simp
                  with_reducible refine (K26.out _ hb0).mono ?_
                  rintro e wl ⟨rfl, hl⟩
                  refine hK.out _ _ (HRl.out.below hl HRlt.out) (fun hHeld => ?_)
                  clear hK K
                  try simp only [Act.put, List.setIfInBounds_toArray, List.set_cons_zero, List.set_cons_succ]
                  replace hb0 := hl
                  refine wpAnyH_ready (rs := [21]) (by kernel_rfl) (by simp) ?_
                  refine AllReadyH.cons rfl (fun K hK => ?_) AllReadyH.nil
                  go_simp
                  with_reducible refine (K27.out _ hb0).mono ?_
                  rintro e wl ⟨rfl, hl⟩
                  refine hK.out _ _ (HRl.out.below hl HRlt.out) (fun hHeld => ?_)
                  clear hK K
                  try simp only [Act.put, List.setIfInBounds_toArray, List.set_cons_zero, List.set_cons_succ]
                  replace hb0 := hl
                  refine wpAnyH_ready (rs := [26]) (by kernel_rfl) (by simp) ?_
                  refine AllReadyH.cons rfl (fun K hK => ?_) AllReadyH.nil
                  go_simp
                  with_reducible refine (K28.out _ hb0).mono ?_
                  rintro e wl ⟨rfl, hl⟩
                  refine hK.out _ _ (HRl.out.below hl HRlt.out) (fun hHeld => ?_)
                  clear hK K
                  try simp only [Act.put, List.setIfInBounds_toArray, List.set_cons_zero, List.set_cons_succ]
                  replace hb0 := hl
                  refine wpAnyH_take (i := 27) (v := ?_) rfl (by kernel_rfl) (by kernel_rfl) (by kernel_rfl) (fun _ _ _ h => h) (Or.inl ⟨by rfl, ?_⟩) hHeld ?_
                  rotate_left 1
                  · (intro w hSw; (try dsimp only at hSw); go_simp; try with_reducible rfl)
                  change wpAnyH _ _ _ _ _ _ _ (Act.put _ (some 212) _) _
                  try simp only [Act.put, List.setIfInBounds_toArray, List.set_cons_zero, List.set_cons_succ]
                  refine wpAnyH_take (i := 28) (v := ?_) rfl (by kernel_rfl) (by kernel_rfl) (by kernel_rfl) (fun _ _ _ h => h) (Or.inl ⟨by rfl, ?_⟩) hHeld ?_
                  rotate_left 1
                  · (intro w hSw; (try dsimp only at hSw); go_simp; try with_reducible rfl)
                  change wpAnyH _ _ _ _ _ _ _ (Act.put _ (some 213) _) _
                  try simp only [Act.put, List.setIfInBounds_toArray, List.set_cons_zero, List.set_cons_succ]
                  refine wpAnyH_take (i := 29) (v := ?_) rfl (by kernel_rfl) (by kernel_rfl) (by kernel_rfl) (fun _ _ _ h => h) (Or.inl ⟨by rfl, ?_⟩) hHeld ?_
                  rotate_left 1
                  · (intro w hSw; (try dsimp only at hSw); go_simp; try with_reducible rfl)
                  change wpAnyH _ _ _ _ _ _ _ (Act.put _ (some 214) _) _
                  try simp only [Act.put, List.setIfInBounds_toArray, List.set_cons_zero, List.set_cons_succ]
                  refine wpAnyH_done (by kernel_rfl) ?_ _
                  refine NoPanic.normal ?_
                  have HM20 := Lib.hid (HMm.out.fresh (But.of_below hb0))
                  clear hHeld hb0 hq1 hq2 hl K21 K22 K23 K24 K25 K26 K27 K28 HRl HRlt HMm HM9
                  go_wp2_with fail

                  go_loopw [21] (fun t wr => ∃ s : Nat, s ≤ 6 ∧ s ≤ n ∧ t = .int .i64 s ∧ Md w wr dB sB mB rB LB lB cB kB lR n a b bl P x d c d c) (fun t _ => 6 - (RowKit.intOf t).toNat)
                  case atStart => exact ⟨0, by omega, by omega, rfl, HM20.out⟩
                  case round =>
                    obtain ⟨s, hs6, hsn, rfl, hm⟩ := hrel
                    have HMq := Lib.hid hm
                    clear hm HM20
                    have hs0 : (0 : Int) ≤ (s : Int) := by omega
                    by_cases hlt : s < n
                    · have hltI : (s : Int) < (n : Int) := by omega
                      by_cases hlt6 : s < 6
                      · have hlt6I : (s : Int) < 6 := by omega
                        cases hdd : d.dead with
                        | false =>
                          have hr : M.reach n d (s : Int) = 0 := by unfold M.reach; rw [hdd, if_neg (by simp), if_neg (by omega)]
                          have HR1 := Lib.hid (read_yes wr HMq.out.dv s hr)
                          have HR2 : Hid (∀ w', But [] wr w' → _) := Lib.hid (fun w' hb => rread_yes w' (HMq.out.rf.but hb (by simp) (by simp)) s hr)
                          have Hsl : Hid ((M.seen d s).length = 144) := Lib.hid (M.sure_len HMq.out.dv.wf s)
                          have Hst := Lib.hid (And.intro hlt hlt6)
                          clear hr hdd hlt hlt6 hs6 hsn
                          go_wp2_with (first
                            | (go_at_call 29; with_reducible refine HR1.out.mono ?_; rintro e w6 ⟨bR, rfl, hbR, hltR, hrg, hth, hb6⟩
                               have HB6 := Lib.hid (But.of_below hb6)
                               have HW6 := Lib.hid (And.intro hbR (And.intro hltR hrg))
                               clear hbR hltR hrg hth hb6)
                            | (go_at_call 30; with_reducible refine (HR2.out _ HB6.out).mono ?_; rintro e w7 ⟨aQ, cQ, rfl, hrow, hb7⟩
                               have hb67 := But.of_below hb7
                               have HB7 := Lib.hid (HB6.out.trans hb67)
                               have hrg7 := rangeAt_block HW6.out.2.2 (hb67.block bR HW6.out.2.1 (by simp))
                               have hlt7 := Nat.lt_of_lt_of_le HW6.out.2.1 hb67.size
                               have hc1 : (convert 47 9 (.slice (some ⟨bR, 0, none⟩) 144 144)).run Tryz.prog w7 = .ok (.string (str (M.seen d s))) w7 := by
                                 have h1 := conv_take (k := 144) hrg7 hlt7 Hsl.out (by omega)
                                 rw [List.take_of_length_le (by have := Hsl.out; omega)] at h1
                                 exact h1
                               have hc2 := conv_row hrow
                               have HM7 := Lib.hid (HMq.out.fresh HB7.out)
                               clear hrow hb7 hb67 hrg7 hlt7))
                          clear hc1 hc2 HR1 HR2 HB6 HB7 HW6
                          go_roundw
                          case rel => exact ⟨s + 1, by have := Hst.out; omega, by have := Hst.out; omega, by go_num, HM7.out⟩
                          case measure => have := Hst.out; simp [RowKit.intOf]; omega
                        | true =>
                          have hr : M.reach n d (s : Int) = 30 := by unfold M.reach; rw [hdd, if_pos rfl]
                          have HR1 := Lib.hid (read_no wr HMq.out.dv s (by omega) (by have := HN.out; omega) (by rw [hr]; decide))
                          have HR2 := Lib.hid (rread_no wr HMq.out.rf s (by omega) (by have := HN.out; omega) (by rw [hr]; decide))
                          rw [hr] at HR1 HR2
                          have hc1 := conv_row (l := []) (row_nil wr)
                          have Hst := Lib.hid (And.intro hlt hlt6)
                          clear hr hdd hlt hlt6 hs6 hsn
                          go_wp2_with (first
                            | (go_at_call 29; with_reducible refine HR1.out.mono ?_; rintro e w6 ⟨rfl, rfl⟩)
                            | (go_at_call 30; with_reducible refine HR2.out.mono ?_; rintro e w7 ⟨rfl, rfl⟩))
                          clear hc1 HR1 HR2
                          go_roundw
                          case rel => exact ⟨s + 1, by have := Hst.out; omega, by have := Hst.out; omega, by go_num, HMq.out⟩
                          case measure => have := Hst.out; simp [RowKit.intOf]; omega
                      · have hlt6I : ¬ (s : Int) < 6 := by omega
                        clear hlt hlt6 hs6 hsn
                        go_wp2_with fail
                        go_roundw
                        case rel => exact ⟨k + 1, d, c, lB, cB, kB, lR, by have := HKn.out; omega, by have := HKn.out; omega, by go_num, rfl, rfl, rfl, rfl, HMq.out.l, HMq.out.r, HMq.out.ap.base⟩
                        case measure => have := HKn.out; simp [RowKit.intOf]; omega
                    · have hltI : ¬ (s : Int) < (n : Int) := by omega
                      clear hlt hs6 hsn
                      go_wp2_with fail
                      go_roundw
                      case rel => exact ⟨k + 1, d, c, lB, cB, kB, lR, by have := HKn.out; omega, by have := HKn.out; omega, by go_num, rfl, rfl, rfl, rfl, HMq.out.l, HMq.out.r, HMq.out.ap.base⟩
                      case measure => have := HKn.out; simp [RowKit.intOf]; omega
    · have HG : Hid ((x3 < 1 ∨ 32 < x3) ∨ ((1 ≤ x3 ∧ x3 ≤ 32) ∧ Bad n x1 x2)) := Lib.hid (by
        by_cases h1 : 1 ≤ x3 ∧ x3 ≤ 32
        · exact .inr ⟨h1, Classical.byContradiction fun h2 => hgood ⟨h1, h2⟩⟩
        · exact .inl (by omega))
      clear hgood
      have HO7 : Hid (∀ w dB sB mB d, DevAt w dB sB mB n d → Calls Tryz.prog 7 #[.pointer (some ⟨dB, 0, none⟩), .int .i64 x1, .int .i64 x2, .int .i64 x3] w fun e w' => e = .returned (.tuple #[.pointer none, .int .i64 1]) ∧ w = w') := Lib.hid fun w dB sB mB d h => by
        rcases HG.out with h1 | ⟨h1, h2⟩
        · exact lopen_arg w _ x1 x2 x3 h1
        · exact lopen_bad w h x1 x2 x3 h1 h2
      have HO8 : Hid (∀ w rB LB d, RefAt w rB LB n d → Calls Tryz.prog 8 #[.pointer (some ⟨rB, 0, none⟩), .int .i64 x1, .int .i64 x2, .int .i64 x3] w fun e w' => e = .returned (.tuple #[.pointer none, .int .i64 1]) ∧ w = w') := Lib.hid fun w rB LB d h => by
        rcases HG.out with h1 | ⟨h1, h2⟩
        · exact rlopen_arg w _ x1 x2 x3 h1
        · exact rlopen_bad w h x1 x2 x3 h1 h2
      go_enter Tryz.func3, Tryz.ntmps3
      go_wp2_with (first
        | (go_at_call 4; with_reducible refine HA.out.mono ?_; rintro e w1 ⟨rfl, hb1⟩; have HB1 := Lib.hid hb1; clear hb1)
        | (go_at_call 5; with_reducible refine (new_yes n HN.out _).mono ?_; rintro e w2 ⟨dB, sB, mB, rfl, hd2, hb2, l1, l2, l3⟩
           have HD2 := Lib.hid hd2
           have HB2 := Lib.hid (HB1.out.trans (hb2.mono HB1.out.size))
           have HL : Hid (w.heap.size ≤ dB ∧ w.heap.size ≤ sB ∧ w.heap.size ≤ mB) := Lib.hid ⟨by have := HB1.out.size; omega, by have := HB1.out.size; omega, by have := HB1.out.size; omega⟩
           clear hd2 hb2 l1 l2 l3)
        | (go_at_call 6; with_reducible refine (rnew_yes n HN.out _).mono ?_; rintro e w3 ⟨rB, LB, rfl, hr3, hb3, l1, l2⟩
           have HR3 := Lib.hid hr3
           have HD3 := Lib.hid (HD2.out.below hb3 ⟨HD2.out.ltD, HD2.out.lt, HD2.out.pend.lt⟩)
           have HB3 := Lib.hid (HB2.out.trans (hb3.mono HB2.out.size))
           have HL3 : Hid (w.heap.size ≤ rB ∧ w.heap.size ≤ LB) := Lib.hid ⟨by have := HB2.out.size; omega, by have := HB2.out.size; omega⟩
           have HAp : Hid (Ap0 w w3 [dB, sB, mB] [rB, LB]) := Lib.hid ⟨HB3.out, by have := HL.out; simp; omega, by have := HL3.out; simp; omega, by have := HD2.out.ltD; have := HD2.out.lt; have := HD2.out.pend.lt; simp; omega⟩
           clear hr3 hb3 l1 l2)
        | (go_at_call 7; with_reducible refine (HO7.out w3 dB sB mB _ HD3.out).mono ?_; rintro e w5 ⟨rfl, rfl⟩)
        | (go_at_call 8; with_reducible refine (HO8.out w3 rB LB _ HR3.out).mono ?_; rintro e w5 ⟨rfl, rfl⟩))
      clear HD2 HB2 HL HB3 HL3 HB1 HA
      go_loopw [15, 16, 17, 18, 19] (fun l e q f i wr => ∃ (k : Nat) (d : M.Dv), k ≤ 60 ∧ k ≤ n4 ∧ i = .int .i64 k ∧ l = .pointer none ∧ q = .pointer none ∧ e = .int .i64 1 ∧ f = .int .i64 1 ∧ DevAt wr dB sB mB n d ∧ RefAt wr rB LB n d ∧ Ap0 w wr [dB, sB, mB] [rB, LB]) (fun _ _ _ _ i _ => 60 - (RowKit.intOf i).toNat)
      case atStart => exact ⟨0, _, by omega, by omega, rfl, rfl, rfl, rfl, rfl, HD3.out, HR3.out, HAp.out⟩
      case round =>
        obtain ⟨k, d, hk, hkn, rfl, rfl, rfl, rfl, rfl, hld, hrd, hap⟩ := hrel
        have HLw := Lib.hid hld
        have HRw := Lib.hid hrd
        have HAw := Lib.hid hap
        clear hld hrd hap HD3 HR3 HAp
        have hk0 : (0 : Int) ≤ (k : Int) := by omega
        by_cases hend : k = n4
        · have hge : ¬ ((k : Int) < (n4 : Int)) := by omega
          clear hend
          go_wp2_with fail
          go_ret
          exact ⟨rfl, HAw.out.bel⟩
        · have hlt : (k : Int) < (n4 : Int) := by omega
          by_cases h80 : k = 60
          · have hge : ¬ ((k : Int) < 60) := by omega
            clear h80 hend
            go_wp2_with fail
            go_ret
            exact ⟨rfl, HAw.out.bel⟩
          · have hlt8 : (k : Int) < 60 := by omega
            obtain ⟨b4, off4, x, rfl, hx, hok0, hok, y0, y1, y2, y3, hbl⟩ := acts_at HW1.out HAw.out.bel (show k < n4 by omega)
            have HX := Lib.hid (And.intro hok0 (And.intro hok hbl))
            have HKn : Hid (k < 60 ∧ k < n4) := Lib.hid ⟨by omega, by omega⟩
            clear hx hok0 hok hbl hend h80 hk hkn
            have HLg : Hid (∀ w', Calls Tryz.prog 9 #[.agg #[.int .i64 x.kind, .int .i64 x.i, .string x.s, .slice x.aL x.k x.cL]] w' fun e w'' => e = .returned (.bool (largeB x)) ∧ Below w'.heap.size w' w'') := Lib.hid (fun w' => large_any w' x)
            cases hlg : largeB x with
            | true =>
              rw [hlg] at HLg
              clear hlg
              go_wp2_with (first
                | (go_at_call 9; refine (HLg.out _).mono ?_; rintro e w4 ⟨rfl, hb4⟩; have HB4 := Lib.hid hb4; clear hb4))
              go_ret
              exact ⟨rfl, (HAw.out.bel.alloc HAw.out.bel.size _).trans (HB4.out.mono (by have := HAw.out.bel.size; simp; omega))⟩
            | false =>
              rw [hlg] at HLg
              have HSm : Hid (x.k ≤ 600) := Lib.hid (by unfold largeB at hlg; simp at hlg; omega)
              have HSs : Hid (x.s.size ≤ 1000) := Lib.hid (by unfold largeB at hlg; simp at hlg; omega)
              clear hlg
              go_upto_block 2 with (first
                | (go_at_call 9; refine (HLg.out _).mono ?_; rintro e w4 ⟨rfl, hb4⟩
                   have HBO : Hid (But [] wr w4) := Lib.hid (((But.refl [] _).alloc _).below hb4 (by simp))
                   have HXA : Hid (XA w4 wr.heap.size x) := Lib.hid ((xa_new wr x).but (But.of_below hb4) (by simp))
                   have hx0 := HXA.out.c0
                   have hx1 := HXA.out.c1
                   have hx2 := HXA.out.c2
                   have hx3 := HXA.out.c3
                   clear hb4))
              have HM4 : Hid (Nd w w4 dB sB mB rB LB n wr.heap.size x d d) := Lib.hid ⟨HLw.out.but HBO.out (by simp) (by simp) (by simp), HRw.out.but HBO.out (by simp) (by simp), HAw.out.act HBO.out HXA.out (by have h1 := HLw.out.ltD; have h2 := HLw.out.lt; have h3 := HLw.out.pend.lt; simp; omega) (by have h1 := HRw.out.ltR; have h2 := HRw.out.lt; simp; omega)⟩
              have HK4 := Lib.hid (krow_but HX.out.2.1.keep HBO.out (.inr (by simp)))
              have HF2 := Lib.hid (krow_old HX.out.1.keep (l := [dB, sB, mB]) (by have := HAw.out.gl; simp at this; simp; omega))
              have HI : Hid (-9223372036854775808 ≤ x.i ∧ x.i ≤ 9223372036854775807) := Lib.hid ⟨HX.out.1.i1, HX.out.1.i2⟩
              clear HBO HX HLw HRw HAw HXA
              generalize wr.heap.size = P at *
              go_cut [15, 16, 17, 18] (fun l e q f wx => ∃ (wz : World) (d : M.Dv), wz = wx ∧ l = .pointer none ∧ q = .pointer none ∧ e = .int .i64 1 ∧ f = .int .i64 1 ∧ Nd w wz dB sB mB rB LB n P x d d)
              case first =>
                by_cases h0 : x.kind = 0
                · have hk0 : (x.kind == 0) = true := by simp [h0]
                  have hn1 : (x.kind == 1) = false := by simp [h0]
                  have hn2 : (x.kind == 2) = false := by simp [h0]
                  have hn3 : (x.kind == 3) = false := by simp [h0]
                  have hn4 : (x.kind == 4) = false := by simp [h0]
                  clear h0
                  as_aux_lemma =>
                    go_wp2_with fail
                    go_meet
                    exact ⟨_, _, rfl, rfl, rfl, rfl, rfl, HM4.out⟩
                · have hk0 : (x.kind == 0) = false := by simp [h0]
                  clear h0
                  by_cases h1 : x.kind = 1
                  · have hk1 : (x.kind == 1) = true := by simp [h1]
                    have hn2 : (x.kind == 2) = false := by simp [h1]
                    have hn3 : (x.kind == 3) = false := by simp [h1]
                    have hn4 : (x.kind == 4) = false := by simp [h1]
                    clear h1
                    as_aux_lemma =>
                      go_wp2_with fail
                      go_meet
                      exact ⟨_, _, rfl, rfl, rfl, rfl, rfl, HM4.out⟩
                  · have hk1 : (x.kind == 1) = false := by simp [h1]
                    clear h1
                    by_cases h2 : x.kind = 2
                    · have hk2 : (x.kind == 2) = true := by simp [h2]
                      clear h2
                      as_aux_lemma =>
                        go_wp2_with (first
                          | (go_at_call 14; with_reducible refine (fuse_any w4 HM4.out.dv x.i HI.out.1 HI.out.2).mono ?_; rintro e w6 ⟨rfl, hd6, hb6⟩; have HM6 := Lib.hid (HM4.out.dev hd6 hb6); have x1 := HM6.out.ap.xa.c1; clear hd6 hb6)
                          | (go_at_call 15; with_reducible refine (rfuse_any w6 HM6.out.rf x.i HI.out.1 HI.out.2).mono ?_; rintro e w7 ⟨rfl, hr7, hb7⟩; have HM7 := Lib.hid (HM6.out.ref hr7 hb7); clear hr7 hb7))
                        go_meet
                        exact ⟨_, _, rfl, rfl, rfl, rfl, rfl, HM7.out⟩
                    · have hk2 : (x.kind == 2) = false := by simp [h2]
                      clear h2
                      by_cases h3 : x.kind = 3
                      · have hk3 : (x.kind == 3) = true := by simp [h3]
                        clear h3
                        as_aux_lemma =>
                          go_wp2_with (first
                            | (go_at_call 16; with_reducible refine (crash_any w4 HM4.out.dv _ _ _ _ HK4.out HF2.out).mono ?_; rintro e w6 ⟨rfl, hd6, hb6⟩
                               have HM6 := Lib.hid (HM4.out.dev hd6 hb6)
                               have x3c := HM6.out.ap.xa.c3
                               have HK6 := Lib.hid (krow_but HK4.out hb6 HF2.out)
                               clear hd6 hb6)
                            | (go_at_call 18; with_reducible refine (keeps_any w6 _ _ _ _ HK6.out HSm.out).mono ?_; rintro e w7 ⟨aK, cK, rfl, hk7, hnk, hb7⟩
                               have HM7 := Lib.hid (HM6.out.fresh (But.of_below hb7))
                               have HK7 := Lib.hid hk7
                               have HN7 : Hid (x.l = [] ∨ ∀ b off, aK = some ⟨b, off, none⟩ → b ∉ [rB, LB]) := Lib.hid (.inr fun b off hb => by have := hnk b off hb; have := HM6.out.rf.ltR; have := HM6.out.rf.lt; simp; omega)
                               clear hk7 hnk hb7)
                            | (go_at_call 17; with_reducible refine (rcrash_any w7 HM7.out.rf _ _ _ _ HK7.out HN7.out).mono ?_; rintro e w8 ⟨rfl, hr8, hb8⟩; have HM8 := Lib.hid (HM7.out.ref hr8 hb8); clear hr8 hb8)
                            | (go_at_call 7; with_reducible refine (HO7.out w8 dB sB mB _ HM8.out.dv).mono ?_; rintro e w9 ⟨rfl, rfl⟩)
                            | (go_at_call 8; with_reducible refine (HO8.out w8 rB LB _ HM8.out.rf).mono ?_; rintro e w9 ⟨rfl, rfl⟩))
                          go_meet
                          exact ⟨_, _, rfl, rfl, rfl, rfl, rfl, HM8.out⟩
                      · have hk3 : (x.kind == 3) = false := by simp [h3]
                        clear h3
                        by_cases h4 : x.kind = 4
                        · have hk4 : (x.kind == 4) = true := by simp [h4]
                          clear h4
                          as_aux_lemma =>
                            obtain ⟨t, ht, hts⟩ := str_of HSs.out
                            obtain ⟨cC, wc, hrun, hrow, hbc⟩ := conv_str w4 t hts
                            rw [← ht] at hrun
                            have HRow := Lib.hid hrow
                            have HMc := Lib.hid (HM4.out.fresh (But.of_below hbc))
                            have HNc : Hid (u8s t = [] ∨ ∀ b off, (some ⟨w4.heap.size, 0, none⟩ : Option Addr) = some ⟨b, off, none⟩ → b ∉ [dB]) := Lib.hid (.inr fun b off hb => by injection hb with hb; injection hb with hb; have := HM4.out.dv.ltD; simp; omega)
                            have Ht := Lib.hid ht
                            have Hts := Lib.hid hts
                            clear hrow hbc ht hts
                            go_wp2_with (first
                              | (go_at_call 19; with_reducible refine (write_any wc HMc.out.dv x.i HI.out.1 HI.out.2 _ _ _ t HRow.out HNc.out).mono ?_; rintro e w6 ⟨rfl, hd6, hb6⟩
                                 have HM6 := Lib.hid (HMc.out.dev hd6 hb6)
                                 obtain ⟨cE, we, hrun2, hrow2, hbe⟩ := conv_str w6 t Hts.out
                                 rw [← Ht.out] at hrun2
                                 have y1 := HM6.out.ap.xa.c1
                                 have y2 := HM6.out.ap.xa.c2
                                 have HRow2 := Lib.hid hrow2
                                 have HMe := Lib.hid (HM6.out.fresh (But.of_below hbe))
                                 have HNe : Hid (u8s t = [] ∨ ∀ b off, (some ⟨w6.heap.size, 0, none⟩ : Option Addr) = some ⟨b, off, none⟩ → b ∉ [rB]) := Lib.hid (.inr fun b off hb => by injection hb with hb; injection hb with hb; have := HM6.out.rf.ltR; simp; omega)
                                 clear hd6 hb6 hrow2 hbe)
                              | (go_at_call 20; with_reducible refine (rwrite_any we HMe.out.rf x.i HI.out.1 HI.out.2 _ _ _ t HRow2.out HNe.out).mono ?_; rintro e w7 ⟨rfl, hr7, hb7⟩; have HM7 := Lib.hid (HMe.out.ref hr7 hb7); clear hr7 hb7))
                            go_meet
                            exact ⟨_, _, rfl, rfl, rfl, rfl, rfl, HM7.out⟩
                        · have hk4 : (x.kind == 4) = false := by simp [h4]
                          clear h4
                          as_aux_lemma =>
                            go_wp2_with fail
                            go_meet
                            exact ⟨_, _, rfl, rfl, rfl, rfl, rfl, HM4.out⟩
              case rest =>
                as_aux_lemma =>
                  obtain ⟨wz, d, hwz, rfl, rfl, rfl, rfl, hm⟩ := hcut
                  subst hwz
                  have HM9 := Lib.hid hm
                  clear hm hx0 hx1 hx2 hx3 HM4 HK4 HF2 HI HSm HSs HLg
                  go_wp2_with fail
                  refine wp_region_noPanic ?_
                  refine wp_region_held_drew (S := fun w' => True) (by kernel_rfl) trivial (fun hHeld => ?_)
                  refine wpAnyH_take (i := 0) (v := ?_) rfl (by kernel_rfl) (by kernel_rfl) (by kernel_rfl) (fun _ _ _ h => h) (Or.inl ⟨by rfl, ?_⟩) hHeld ?_
                  rotate_left 1
                  · (intro w hSw; (try dsimp only at hSw); go_simp; try with_reducible rfl)
                  change wpAnyH _ _ _ _ _ _ _ (Act.put _ (some 185) _) _
                  try simp only [Act.put, List.setIfInBounds_toArray, List.set_cons_zero, List.set_cons_succ]
                  refine wpAnyH_take (i := 1) (v := ?_) rfl (by kernel_rfl) (by kernel_rfl) (by kernel_rfl) (fun _ _ _ h => h) (Or.inl ⟨by rfl, ?_⟩) hHeld ?_
                  rotate_left 1
                  · (intro w hSw; (try dsimp only at hSw); go_simp; try with_reducible rfl)
                  change wpAnyH _ _ _ _ _ _ _ (Act.put _ (some 186) _) _
                  try simp only [Act.put, List.setIfInBounds_toArray, List.set_cons_zero, List.set_cons_succ]
                  refine wpAnyH_take (i := 2) (v := ?_) rfl (by kernel_rfl) (by kernel_rfl) (by kernel_rfl) (fun _ _ _ h => h) (Or.inl ⟨by rfl, ?_⟩) hHeld ?_
                  rotate_left 1
                  · (intro w hSw; (try dsimp only at hSw); go_simp; try with_reducible rfl)
                  change wpAnyH _ _ _ _ _ _ _ (Act.put _ (some 187) _) _
                  try simp only [Act.put, List.setIfInBounds_toArray, List.set_cons_zero, List.set_cons_succ]
                  refine wpAnyH_take (i := 3) (v := undef) rfl (by kernel_rfl) (by kernel_rfl) (by kernel_rfl) (fun _ _ _ h => h) (Or.inr ⟨by rfl, rfl⟩) hHeld ?_
                  change wpAnyH _ _ _ _ _ _ _ (Act.put _ (some 188) _) _
                  try simp only [Act.put, List.setIfInBounds_toArray, List.set_cons_zero, List.set_cons_succ]
                  refine wpAnyH_take (i := 4) (v := undef) rfl (by kernel_rfl) (by kernel_rfl) (by kernel_rfl) (fun _ _ _ h => h) (Or.inr ⟨by rfl, rfl⟩) hHeld ?_
                  change wpAnyH _ _ _ _ _ _ _ (Act.put _ (some 189) _) _
                  try simp only [Act.put, List.setIfInBounds_toArray, List.set_cons_zero, List.set_cons_succ]
                  refine wpAnyH_take (i := 5) (v := undef) rfl (by kernel_rfl) (by kernel_rfl) (by kernel_rfl) (fun _ _ _ h => h) (Or.inr ⟨by rfl, rfl⟩) hHeld ?_
                  change wpAnyH _ _ _ _ _ _ _ (Act.put _ (some 190) _) _
                  try simp only [Act.put, List.setIfInBounds_toArray, List.set_cons_zero, List.set_cons_succ]
                  refine wpAnyH_take (i := 6) (v := undef) rfl (by kernel_rfl) (by kernel_rfl) (by kernel_rfl) (fun _ _ _ h => h) (Or.inr ⟨by rfl, rfl⟩) hHeld ?_
                  change wpAnyH _ _ _ _ _ _ _ (Act.put _ (some 191) _) _
                  try simp only [Act.put, List.setIfInBounds_toArray, List.set_cons_zero, List.set_cons_succ]
                  refine wpAnyH_take (i := 7) (v := undef) rfl (by kernel_rfl) (by kernel_rfl) (by kernel_rfl) (fun _ _ _ h => h) (Or.inr ⟨by rfl, rfl⟩) hHeld ?_
                  change wpAnyH _ _ _ _ _ _ _ (Act.put _ (some 192) _) _
                  try simp only [Act.put, List.setIfInBounds_toArray, List.set_cons_zero, List.set_cons_succ]
                  refine wpAnyH_take (i := 8) (v := undef) rfl (by kernel_rfl) (by kernel_rfl) (by kernel_rfl) (fun _ _ _ h => h) (Or.inr ⟨by rfl, rfl⟩) hHeld ?_
                  change wpAnyH _ _ _ _ _ _ _ (Act.put _ (some 193) _) _
                  try simp only [Act.put, List.setIfInBounds_toArray, List.set_cons_zero, List.set_cons_succ]
                  refine wpAnyH_take (i := 9) (v := undef) rfl (by kernel_rfl) (by kernel_rfl) (by kernel_rfl) (fun _ _ _ h => h) (Or.inr ⟨by rfl, rfl⟩) hHeld ?_
                  change wpAnyH _ _ _ _ _ _ _ (Act.put _ (some 194) _) _
                  try simp only [Act.put, List.setIfInBounds_toArray, List.set_cons_zero, List.set_cons_succ]
                  refine wpAnyH_take (i := 10) (v := undef) rfl (by kernel_rfl) (by kernel_rfl) (by kernel_rfl) (fun _ _ _ h => h) (Or.inr ⟨by rfl, rfl⟩) hHeld ?_
                  change wpAnyH _ _ _ _ _ _ _ (Act.put _ (some 195) _) _
                  try simp only [Act.put, List.setIfInBounds_toArray, List.set_cons_zero, List.set_cons_succ]
                  refine wpAnyH_take (i := 11) (v := undef) rfl (by kernel_rfl) (by kernel_rfl) (by kernel_rfl) (fun _ _ _ h => h) (Or.inr ⟨by rfl, rfl⟩) hHeld ?_
                  change wpAnyH _ _ _ _ _ _ _ (Act.put _ (some 196) _) _
                  try simp only [Act.put, List.setIfInBounds_toArray, List.set_cons_zero, List.set_cons_succ]
                  refine wpAnyH_take (i := 12) (v := undef) rfl (by kernel_rfl) (by kernel_rfl) (by kernel_rfl) (fun _ _ _ h => h) (Or.inr ⟨by rfl, rfl⟩) hHeld ?_
                  change wpAnyH _ _ _ _ _ _ _ (Act.put _ (some 197) _) _
                  try simp only [Act.put, List.setIfInBounds_toArray, List.set_cons_zero, List.set_cons_succ]
                  refine wpAnyH_take (i := 13) (v := undef) rfl (by kernel_rfl) (by kernel_rfl) (by kernel_rfl) (fun _ _ _ h => h) (Or.inr ⟨by rfl, rfl⟩) hHeld ?_
                  change wpAnyH _ _ _ _ _ _ _ (Act.put _ (some 198) _) _
                  try simp only [Act.put, List.setIfInBounds_toArray, List.set_cons_zero, List.set_cons_succ]
                  refine wpAnyH_take (i := 14) (v := undef) rfl (by kernel_rfl) (by kernel_rfl) (by kernel_rfl) (fun _ _ _ h => h) (Or.inr ⟨by rfl, rfl⟩) hHeld ?_
                  change wpAnyH _ _ _ _ _ _ _ (Act.put _ (some 199) _) _
                  try simp only [Act.put, List.setIfInBounds_toArray, List.set_cons_zero, List.set_cons_succ]
                  refine wpAnyH_take (i := 15) (v := undef) rfl (by kernel_rfl) (by kernel_rfl) (by kernel_rfl) (fun _ _ _ h => h) (Or.inr ⟨by rfl, rfl⟩) hHeld ?_
                  change wpAnyH _ _ _ _ _ _ _ (Act.put _ (some 200) _) _
                  try simp only [Act.put, List.setIfInBounds_toArray, List.set_cons_zero, List.set_cons_succ]
                  refine wpAnyH_take (i := 16) (v := undef) rfl (by kernel_rfl) (by kernel_rfl) (by kernel_rfl) (fun _ _ _ h => h) (Or.inr ⟨by rfl, rfl⟩) hHeld ?_
                  change wpAnyH _ _ _ _ _ _ _ (Act.put _ (some 201) _) _
                  try simp only [Act.put, List.setIfInBounds_toArray, List.set_cons_zero, List.set_cons_succ]
                  refine wpAnyH_take (i := 17) (v := undef) rfl (by kernel_rfl) (by kernel_rfl) (by kernel_rfl) (fun _ _ _ h => h) (Or.inr ⟨by rfl, rfl⟩) hHeld ?_
                  change wpAnyH _ _ _ _ _ _ _ (Act.put _ (some 202) _) _
                  try simp only [Act.put, List.setIfInBounds_toArray, List.set_cons_zero, List.set_cons_succ]
                  refine wpAnyH_take (i := 18) (v := undef) rfl (by kernel_rfl) (by kernel_rfl) (by kernel_rfl) (fun _ _ _ h => h) (Or.inr ⟨by rfl, rfl⟩) hHeld ?_
                  change wpAnyH _ _ _ _ _ _ _ (Act.put _ (some 203) _) _
                  try simp only [Act.put, List.setIfInBounds_toArray, List.set_cons_zero, List.set_cons_succ]
                  refine wpAnyH_take (i := 19) (v := undef) rfl (by kernel_rfl) (by kernel_rfl) (by kernel_rfl) (fun _ _ _ h => h) (Or.inr ⟨by rfl, rfl⟩) hHeld ?_
                  change wpAnyH _ _ _ _ _ _ _ (Act.put _ (some 204) _) _
                  try simp only [Act.put, List.setIfInBounds_toArray, List.set_cons_zero, List.set_cons_succ]
                  refine wpAnyH_take (i := 20) (v := undef) rfl (by kernel_rfl) (by kernel_rfl) (by kernel_rfl) (fun _ _ _ h => h) (Or.inr ⟨by rfl, rfl⟩) hHeld ?_
                  change wpAnyH _ _ _ _ _ _ _ (Act.put _ (some 205) _) _
                  try simp only [Act.put, List.setIfInBounds_toArray, List.set_cons_zero, List.set_cons_succ]
                  refine wpAnyH_take (i := 21) (v := undef) rfl (by kernel_rfl) (by kernel_rfl) (by kernel_rfl) (fun _ _ _ h => h) (Or.inr ⟨by rfl, rfl⟩) hHeld ?_
                  change wpAnyH _ _ _ _ _ _ _ (Act.put _ (some 206) _) _
                  try simp only [Act.put, List.setIfInBounds_toArray, List.set_cons_zero, List.set_cons_succ]
                  refine wpAnyH_take (i := 22) (v := undef) rfl (by kernel_rfl) (by kernel_rfl) (by kernel_rfl) (fun _ _ _ h => h) (Or.inr ⟨by rfl, rfl⟩) hHeld ?_
                  change wpAnyH _ _ _ _ _ _ _ (Act.put _ (some 207) _) _
                  try simp only [Act.put, List.setIfInBounds_toArray, List.set_cons_zero, List.set_cons_succ]
                  refine wpAnyH_take (i := 23) (v := undef) rfl (by kernel_rfl) (by kernel_rfl) (by kernel_rfl) (fun _ _ _ h => h) (Or.inr ⟨by rfl, rfl⟩) hHeld ?_
                  change wpAnyH _ _ _ _ _ _ _ (Act.put _ (some 208) _) _
                  try simp only [Act.put, List.setIfInBounds_toArray, List.set_cons_zero, List.set_cons_succ]
                  refine wpAnyH_take (i := 24) (v := undef) rfl (by kernel_rfl) (by kernel_rfl) (by kernel_rfl) (fun _ _ _ h => h) (Or.inr ⟨by rfl, rfl⟩) hHeld ?_
                  change wpAnyH _ _ _ _ _ _ _ (Act.put _ (some 209) _) _
                  try simp only [Act.put, List.setIfInBounds_toArray, List.set_cons_zero, List.set_cons_succ]
                  refine wpAnyH_take (i := 25) (v := undef) rfl (by kernel_rfl) (by kernel_rfl) (by kernel_rfl) (fun _ _ _ h => h) (Or.inr ⟨by rfl, rfl⟩) hHeld ?_
                  change wpAnyH _ _ _ _ _ _ _ (Act.put _ (some 210) _) _
                  try simp only [Act.put, List.setIfInBounds_toArray, List.set_cons_zero, List.set_cons_succ]
                  refine wpAnyH_take (i := 26) (v := undef) rfl (by kernel_rfl) (by kernel_rfl) (by kernel_rfl) (fun _ _ _ h => h) (Or.inr ⟨by rfl, rfl⟩) hHeld ?_
                  change wpAnyH _ _ _ _ _ _ _ (Act.put _ (some 211) _) _
                  try simp only [Act.put, List.setIfInBounds_toArray, List.set_cons_zero, List.set_cons_succ]
                  refine wpAnyH_take (i := 27) (v := undef) rfl (by kernel_rfl) (by kernel_rfl) (by kernel_rfl) (fun _ _ _ h => h) (Or.inr ⟨by rfl, rfl⟩) hHeld ?_
                  change wpAnyH _ _ _ _ _ _ _ (Act.put _ (some 212) _) _
                  try simp only [Act.put, List.setIfInBounds_toArray, List.set_cons_zero, List.set_cons_succ]
                  refine wpAnyH_take (i := 28) (v := undef) rfl (by kernel_rfl) (by kernel_rfl) (by kernel_rfl) (fun _ _ _ h => h) (Or.inr ⟨by rfl, rfl⟩) hHeld ?_
                  change wpAnyH _ _ _ _ _ _ _ (Act.put _ (some 213) _) _
                  try simp only [Act.put, List.setIfInBounds_toArray, List.set_cons_zero, List.set_cons_succ]
                  refine wpAnyH_take (i := 29) (v := ?_) rfl (by kernel_rfl) (by kernel_rfl) (by kernel_rfl) (fun _ _ _ h => h) (Or.inl ⟨by rfl, ?_⟩) hHeld ?_
                  rotate_left 1
                  · (intro w hSw; (try dsimp only at hSw); go_simp; try with_reducible rfl)
                  change wpAnyH _ _ _ _ _ _ _ (Act.put _ (some 214) _) _
                  try simp only [Act.put, List.setIfInBounds_toArray, List.set_cons_zero, List.set_cons_succ]
                  refine wpAnyH_done (by kernel_rfl) ?_ _
                  refine NoPanic.normal ?_
                  have HM20 := Lib.hid (HM9.out.fresh (But.refl [] wz).drew)
                  clear hHeld HM9
                  go_wp2_with fail

                  go_loopw [21] (fun t wr => ∃ s : Nat, s ≤ 6 ∧ s ≤ n ∧ t = .int .i64 s ∧ Nd w wr dB sB mB rB LB n P x d d) (fun t _ => 6 - (RowKit.intOf t).toNat)
                  case atStart => exact ⟨0, by omega, by omega, rfl, HM20.out⟩
                  case round =>
                    obtain ⟨s, hs6, hsn, rfl, hm⟩ := hrel
                    have HMq := Lib.hid hm
                    clear hm HM20
                    have hs0 : (0 : Int) ≤ (s : Int) := by omega
                    by_cases hlt : s < n
                    · have hltI : (s : Int) < (n : Int) := by omega
                      by_cases hlt6 : s < 6
                      · have hlt6I : (s : Int) < 6 := by omega
                        cases hdd : d.dead with
                        | false =>
                          have hr : M.reach n d (s : Int) = 0 := by unfold M.reach; rw [hdd, if_neg (by simp), if_neg (by omega)]
                          have HR1 := Lib.hid (read_yes wr HMq.out.dv s hr)
                          have HR2 : Hid (∀ w', But [] wr w' → _) := Lib.hid (fun w' hb => rread_yes w' (HMq.out.rf.but hb (by simp) (by simp)) s hr)
                          have Hsl : Hid ((M.seen d s).length = 144) := Lib.hid (M.sure_len HMq.out.dv.wf s)
                          have Hst := Lib.hid (And.intro hlt hlt6)
                          clear hr hdd hlt hlt6 hs6 hsn
                          go_wp2_with (first
                            | (go_at_call 29; with_reducible refine HR1.out.mono ?_; rintro e w6 ⟨bR, rfl, hbR, hltR, hrg, hth, hb6⟩
                               have HB6 := Lib.hid (But.of_below hb6)
                               have HW6 := Lib.hid (And.intro hbR (And.intro hltR hrg))
                               clear hbR hltR hrg hth hb6)
                            | (go_at_call 30; with_reducible refine (HR2.out _ HB6.out).mono ?_; rintro e w7 ⟨aQ, cQ, rfl, hrow, hb7⟩
                               have hb67 := But.of_below hb7
                               have HB7 := Lib.hid (HB6.out.trans hb67)
                               have hrg7 := rangeAt_block HW6.out.2.2 (hb67.block bR HW6.out.2.1 (by simp))
                               have hlt7 := Nat.lt_of_lt_of_le HW6.out.2.1 hb67.size
                               have hc1 : (convert 47 9 (.slice (some ⟨bR, 0, none⟩) 144 144)).run Tryz.prog w7 = .ok (.string (str (M.seen d s))) w7 := by
                                 have h1 := conv_take (k := 144) hrg7 hlt7 Hsl.out (by omega)
                                 rw [List.take_of_length_le (by have := Hsl.out; omega)] at h1
                                 exact h1
                               have hc2 := conv_row hrow
                               have HM7 := Lib.hid (HMq.out.fresh HB7.out)
                               clear hrow hb7 hb67 hrg7 hlt7))
                          clear hc1 hc2 HR1 HR2 HB6 HB7 HW6
                          go_roundw
                          case rel => exact ⟨s + 1, by have := Hst.out; omega, by have := Hst.out; omega, by go_num, HM7.out⟩
                          case measure => have := Hst.out; simp [RowKit.intOf]; omega
                        | true =>
                          have hr : M.reach n d (s : Int) = 30 := by unfold M.reach; rw [hdd, if_pos rfl]
                          have HR1 := Lib.hid (read_no wr HMq.out.dv s (by omega) (by have := HN.out; omega) (by rw [hr]; decide))
                          have HR2 := Lib.hid (rread_no wr HMq.out.rf s (by omega) (by have := HN.out; omega) (by rw [hr]; decide))
                          rw [hr] at HR1 HR2
                          have hc1 := conv_row (l := []) (row_nil wr)
                          have Hst := Lib.hid (And.intro hlt hlt6)
                          clear hr hdd hlt hlt6 hs6 hsn
                          go_wp2_with (first
                            | (go_at_call 29; with_reducible refine HR1.out.mono ?_; rintro e w6 ⟨rfl, rfl⟩)
                            | (go_at_call 30; with_reducible refine HR2.out.mono ?_; rintro e w7 ⟨rfl, rfl⟩))
                          clear hc1 HR1 HR2
                          go_roundw
                          case rel => exact ⟨s + 1, by have := Hst.out; omega, by have := Hst.out; omega, by go_num, HMq.out⟩
                          case measure => have := Hst.out; simp [RowKit.intOf]; omega
                      · have hlt6I : ¬ (s : Int) < 6 := by omega
                        clear hlt hlt6 hs6 hsn
                        go_wp2_with fail
                        go_roundw
                        case rel => exact ⟨k + 1, d, by have := HKn.out; omega, by have := HKn.out; omega, by go_num, rfl, rfl, rfl, rfl, HMq.out.l, HMq.out.r, HMq.out.ap.base⟩
                        case measure => have := HKn.out; simp [RowKit.intOf]; omega
                    · have hltI : ¬ (s : Int) < (n : Int) := by omega
                      clear hlt hs6 hsn
                      go_wp2_with fail
                      go_roundw
                      case rel => exact ⟨k + 1, d, by have := HKn.out; omega, by have := HKn.out; omega, by go_num, rfl, rfl, rfl, rfl, HMq.out.l, HMq.out.r, HMq.out.ap.base⟩
                      case measure => have := HKn.out; simp [RowKit.intOf]; omega

set_option maxRecDepth 100000 in
theorem lifted (os : Os) (started : os.Started) (H : Type) (enc : TypeId × Value → H) :
    ReturnsInHanded {} Tryz.checked os 3 .any (Rows.drlDoesSpec.pre6 enc Tryz.prog Tryz.f3 Rows.drlDoesRow.domain false) (Rows.drlDoesSpec.post enc Tryz.prog Tryz.f3 false true false false) := by
  refine returnsInHanded_of_change (C := Tryz.checked) own started (by kernel_rfl) Tryz.func3
    (ChangeSpec.witness6 (enc := enc) (C := Tryz.checked) false ⟨#[], #[.int .i64 0, .int .i64 0, .int .i64 0, .int .i64 0, .slice none 0 0, .int .i64 0], []⟩ 8 (by kernel_rfl) (by kernel_rfl) (by kernel_rfl) (by kernel_rfl)) ?_
  intro W base args ds gs before hval0 hW hcnd _
  have hval : ∀ (j : Nat) t v, Tryz.f3.params[j]? = some t → args[j]? = some v → Value.okWide Tryz.prog W .any base t v := hval0
  have hW' := hW
  obtain ⟨p, q, hA0, hV, rfl, hfz, hnd⟩ := hW
  have hA : DataW.TrodAll enc Tryz.prog W 0 (fun _ => true) true Tryz.f3.params.toList args.toList ds p := hA0
  rw [Tryz.params3] at hA hval
  obtain ⟨v0, vs0, d0, ds0, p0, q0, hargs, rfl, rfl, h0, r0'⟩ := trodAll_cons hA
  obtain ⟨v1, vs1, d1, ds1, p1, q1, rfl, rfl, rfl, h1, r1'⟩ := trodAll_cons r0'
  obtain ⟨v2, vs2, d2, ds2, p2, q2, rfl, rfl, rfl, h2, r2'⟩ := trodAll_cons r1'
  obtain ⟨v3, vs3, d3, ds3, p3, q3, rfl, rfl, rfl, h3, r3'⟩ := trodAll_cons r2'
  obtain ⟨v4, vs4, d4, ds4, p4, q4, rfl, rfl, rfl, h4, r4'⟩ := trodAll_cons r3'
  obtain ⟨v5, vs5, d5, ds5, p5, q5, rfl, rfl, rfl, h5, r5'⟩ := trodAll_cons r4'
  obtain ⟨rfl, rfl, rfl⟩ := trodAll_nil r5'
  obtain rfl : args = #[v0, v1, v2, v3, v4, v5] := by cases args; simp_all
  obtain ⟨rfl, rfl⟩ := trodVars_none hV
  obtain ⟨x0, rfl, rfl, rfl, w0⟩ := open_int Tryz.underlying3 (hval 0 3 v0 rfl rfl) h0
  obtain ⟨x1, rfl, rfl, rfl, w1⟩ := open_int Tryz.underlying3 (hval 1 3 v1 rfl rfl) h1
  obtain ⟨x2, rfl, rfl, rfl, w2⟩ := open_int Tryz.underlying3 (hval 2 3 v2 rfl rfl) h2
  obtain ⟨x3, rfl, rfl, rfl, w3⟩ := open_int Tryz.underlying3 (hval 3 3 v3 rfl rfl) h3
  have k4 := h4
  have lt4 : ∀ x ∈ p4, x.block < W.heap.size := by obtain ⟨m, hm⟩ := k4; exact DataW.trod_lt m _ _ _ hm
  obtain ⟨a4, n4, c4, l4, rfl, w4⟩ := open_lot h4 (okWide_slice Tryz.underlying22 (hval 4 22 v4 rfl rfl))
  obtain ⟨x5, rfl, rfl, rfl, w5⟩ := open_int Tryz.underlying3 (hval 5 3 v5 rfl rfl) h5
  clear hA0 hval0
  refine (walk x0 x1 x2 x3 a4 n4 c4 l4 x5 W w0 w1 w2 w3 w4 w5).mono fun e W' ⟨he, bel⟩ => ?_
  subst he
  exact ⟨_, rfl, _, _, _, [], _, [], hW', trodAll_mk1 (shut_bool Tryz.underlying4 _), (trodAll_cons_mk (shut_int Tryz.underlying3 w0) (trodAll_cons_mk (shut_int Tryz.underlying3 w1) (trodAll_cons_mk (shut_int Tryz.underlying3 w2) (trodAll_cons_mk (shut_int Tryz.underlying3 w3) (trodAll_cons_mk (Below.trod laidOut (by kernel_rfl) (of_decide_eq_true (by kernel_rfl)) k4 bel lt4) (trodAll_cons_mk (shut_int Tryz.underlying3 w5) trodAll_mk0)))))), rfl, bel.frame _, fun h => by cases h⟩

theorem over : Rows.drlDoesRow.holds Tryz.pinned (OpenSpec.ofChange Rows.drlDoesSpec) :=
  OpenClaim.holds_of_wide 3 Tryz.f3 rfl rfl rfl rfl rfl rfl rfl ⟨rfl, rfl, rfl, rfl, rfl⟩ rfl rfl rfl rfl rfl (by kernel_rfl) Tryz.func3 (by kernel_rfl)
    (of_decide_eq_true (by kernel_rfl)) (by unfold Func.isWrapper; first | (rw [if_pos (by decide +kernel)]; kernel_rfl) | (rw [if_neg (by decide +kernel)]; exact ⟨rfl, rfl⟩))
    (fun os started H enc _ => lifted os started H enc)

/-- the statement -/
theorem proved : Rows.DrlDoesSaid := over
#print axioms proved
end Go.Proofs.YtcofahpeinkhfaaGreat.drlDoes
