/-
  PROVED: whatever comes to a witness, with whatever ticks and crashes, and whatever lies in its sectors, all that it answers and has is as the document says, act by act. CONDITIONS: none (any number of sectors, any two, any wait; any acts, of which up to 100 are done).
-/
import Derived.Test.YtpoolpckabpnfaaGreatJZ
import Derived.BigQuiet
import Derived.Deep.RegionHeld3
import Derived.Deep.DeepCutAuto
import Derived.Deep.CutBlock
namespace Go.Proofs.YtpoolpckabpnfaaGreat.witnessDoes
open Go.ChangeShapes Go.WideShapes Go.ChangeAt Go.RowKit Go.Joins
open Go.ChangeMaps (open_string shut_string)
set_option linter.unusedVariables false
set_option linter.unusedSimpArgs false
set_option maxRecDepth 20000

open Wt

set_option maxHeartbeats 40000000 in
theorem walk (x0 : Int) (x1 : Int) (x2 : Int) (x3 : Int) (a4 : Option Addr) (n4 c4 : Nat) (l4 : List Wt.Ac) (w : World) (w0 : (Lit.int .i64 x0).wf = true) (w1 : (Lit.int .i64 x1).wf = true) (w2 : (Lit.int .i64 x2).wf = true) (w3 : (Lit.int .i64 x3).wf = true) (w4 : Wt.Acts w a4 n4 c4 l4) :
    Calls Tryz.prog 3 #[.int .i64 x0, .int .i64 x1, .int .i64 x2, .int .i64 x3, .slice a4 n4 c4] w fun e w' => e = .returned (.bool true) ∧ Below w.heap.size w w' := by
  have HA := Lib.hid (awake_any w)
  have HW1 := Lib.hid w4
  clear w0 w1 w2 w3 w4
  by_cases hn : x0 < 0 ∨ 512 < x0
  · have HN := Lib.hid hn
    clear hn
    go_enter Tryz.func3, Tryz.ntmps3
    go_wp2_with (first
      | (go_at_call 4; with_reducible refine HA.out.mono ?_; rintro e w1 ⟨rfl, hb1⟩; have HB1 := Lib.hid hb1; clear hb1)
      | (go_at_call 5; with_reducible refine (new_no x0 HN.out _).mono ?_; rintro e w2 ⟨rfl, rfl⟩)
      | (go_at_call 6; with_reducible refine (rnew_no x0 HN.out _).mono ?_; rintro e w2 ⟨rfl, rfl⟩))
    go_ret
    exact ⟨rfl, HB1.out⟩
  · obtain ⟨n, rfl⟩ : ∃ n : Nat, x0 = (n : Int) := ⟨x0.toNat, by omega⟩
    have hn512 : n ≤ 512 := by omega
    have HN := Lib.hid hn512
    clear hn hn512
    by_cases hgood : (1 ≤ x3 ∧ x3 ≤ 1099511627776) ∧ x1 ≠ x2 ∧ (0 ≤ x1 ∧ x1 < (n : Int)) ∧ 0 ≤ x2 ∧ x2 < (n : Int)
    · obtain ⟨hW, g1, ⟨g2, g3⟩, g4, g5⟩ := hgood
      obtain ⟨sa, rfl⟩ : ∃ a : Nat, x1 = (a : Int) := ⟨x1.toNat, by omega⟩
      obtain ⟨sb, rfl⟩ : ∃ b : Nat, x2 = (b : Int) := ⟨x2.toNat, by omega⟩
      have hab : sa ≠ sb ∧ sa < n ∧ sb < n := by omega
      have HG := Lib.hid (And.intro hab hW)
      clear g1 g2 g3 g4 g5 hab hW
      go_enter Tryz.func3, Tryz.ntmps3
      go_wp2_with (first
        | (go_at_call 4; with_reducible refine HA.out.mono ?_; rintro e w1 ⟨rfl, hb1⟩; have HB1 := Lib.hid hb1; clear hb1)
        | (go_at_call 5; with_reducible refine (new_yes n HN.out _).mono ?_; rintro e w2 ⟨dB, sB, mB, rfl, hd2, hb2, l1, l2, l3⟩
           have HD2 := Lib.hid hd2
           have HB2 := Lib.hid (HB1.out.trans (hb2.mono HB1.out.size))
           have HL : Hid (w.heap.size ≤ dB ∧ w.heap.size ≤ sB ∧ w.heap.size ≤ mB) := Lib.hid ⟨by have := HB1.out.size; omega, by have := HB1.out.size; omega, by have := HB1.out.size; omega⟩
           clear hd2 hb2 l1 l2 l3)
        | (go_at_call 6; with_reducible refine (rnew_yes n HN.out _).mono ?_; rintro e w3 ⟨rB, LB, rfl, hr3, hb3, l1, l2⟩
           have HN3 : Hid (ND w w3 dB sB mB rB LB n M.fresh M.fresh) := Lib.hid ⟨HD2.out.below hb3 ⟨HD2.out.ltD, HD2.out.lt, HD2.out.pend.lt⟩, hr3, HB2.out.trans (hb3.mono HB2.out.size), HL.out, ⟨by have := HB2.out.size; omega, by have := HB2.out.size; omega⟩, by have := HD2.out.ltD; have := HD2.out.lt; have := HD2.out.pend.lt; omega⟩
           clear hr3 hb3 l1 l2)
        | (go_at_call 7; with_reducible refine (wopen_yes w3 HN3.out.l rfl HG.out.1 HG.out.2).mono ?_; rintro e w5 ⟨tB0, cB0, rfl, h1, h2, h3, h4⟩
           have HSo := Lib.hid (And.intro h1 (And.intro h2 (And.intro h3 h4)))
           have HR5 := Lib.hid (HN3.out.fresh h4).r
           clear h1 h2 h3 h4)
        | (go_at_call 8; with_reducible refine (ropen_any w5 HR5.out rfl HG.out.1 HG.out.2).mono ?_; rintro e w6 ⟨vB0, kB0, rfl, h1, h2, h4, h5⟩
           have HM6 := Lib.hid (HN3.out.opened HSo.out.2.2.2 HSo.out.2.2.1 HSo.out.1 HSo.out.2.1 h5 h4 h1 h2)
           clear h1 h2 h4 h5))
      clear HD2 HB2 HL HN3 HSo HR5 HB1 HA
      go_loopw [13, 14, 15, 16, 17] (fun sv ev qv fv iv wr => ∃ (k : Nat) (d : M.Dv) (c : M.Cl) (L : Int) (tB cB vB kB : Nat), k ≤ 100 ∧ k ≤ n4 ∧ iv = .int .i64 k ∧ sv = .pointer (some ⟨tB, 0, none⟩) ∧ qv = .pointer (some ⟨vB, 0, none⟩) ∧ ev = .int .i64 0 ∧ fv = .int .i64 0 ∧ MG w wr dB sB mB rB LB n sa sb x3 tB cB vB kB d c L d c L) (fun _ _ _ _ iv _ => 100 - (RowKit.intOf iv).toNat)
      case atStart => exact ⟨0, _, _, _, _, _, _, _, by omega, by omega, rfl, rfl, rfl, rfl, rfl, HM6.out⟩
      case round =>
        obtain ⟨k, d, c, L, tB, cB, vB, kB, hk, hkn, rfl, rfl, rfl, rfl, rfl, hm⟩ := hrel
        have HMw := Lib.hid hm
        clear hm HM6
        have hk0 : (0 : Int) ≤ (k : Int) := by omega
        by_cases hend : k = n4
        · have hge : ¬ ((k : Int) < (n4 : Int)) := by omega
          clear hend
          go_wp2_with fail
          go_ret
          exact ⟨rfl, HMw.out.be⟩
        · have hlt : (k : Int) < (n4 : Int) := by omega
          by_cases h80 : k = 100
          · have hge : ¬ ((k : Int) < 100) := by omega
            clear h80 hend
            go_wp2_with fail
            go_ret
            exact ⟨rfl, HMw.out.be⟩
          · have hlt8 : (k : Int) < 100 := by omega
            obtain ⟨b, off, x, rfl, hxk, hok, hb, hc⟩ := acts_at HW1.out HMw.out.be (show k < n4 by omega)
            have hok0 : x.Ok w := HW1.out.2.2.2.1 x (List.mem_of_getElem? hxk)
            have HF2 := Lib.hid (krow_old hok0.1 (l := [dB, sB, mB]) (by have := HMw.out.nd.gl; simp; omega))
            have HOk := Lib.hid hok
            have HKn : Hid (k < 100 ∧ k < n4) := Lib.hid ⟨by omega, by omega⟩
            have HRg : Hid (wr.rangeAt b (off + k * 18) x.cells) := Lib.hid (fun j v hv => by rw [Nat.add_assoc]; exact hc j v hv)
            have HLg := Lib.hid (fun w' => large_any w' x)
            obtain ⟨lg, hlg⟩ : ∃ lg, decide (Lrg x) = lg := ⟨_, rfl⟩
            rw [hlg] at HLg
            have Hlg := Lib.hid hlg
            have HGl : Hid ((∀ y ∈ ours dB sB mB cB tB, y ≠ wr.heap.size) ∧ (∀ y ∈ theirs rB LB kB vB, y ≠ wr.heap.size)) := Lib.hid ⟨fun y hy => by have := HMw.out.llt y hy; omega, fun y hy => by have := HMw.out.rlt y hy; omega⟩
            have HGd : Hid (wr.heap.size ∉ [dB, sB, mB]) := Lib.hid (by have := HMw.out.nd.lt; simp; omega)
            clear hxk hok hok0 hb hc hend h80 hk hkn hlg
            go_upto_region 15 with (first
              | (refine wpList_loadA rfl _ rfl b (off + k * 18) rfl x HRg.out ?_)
              | (refine wpList_allocA rfl rfl ?_; intro w1 hw1; have X0 := Lib.hid (hw1 ▸ XA.new wr az : XA w1 wr.heap.size az); have B0 := Lib.hid (hw1 ▸ (Below.refl wr.heap.size wr).alloc (Nat.le_refl _) _ : Below wr.heap.size wr w1); clear hw1)
              | (refine wpList_storeA rfl _ _ rfl wr.heap.size rfl x rfl X0.out.there ?_; intro w2 hw2; have X1 := Lib.hid (hw2 ▸ X0.out.store x : XA w2 wr.heap.size x); have B1 := Lib.hid (hw2 ▸ belowA_setCells (Nat.le_refl _) _ _ B0.out : Below wr.heap.size wr w2); clear hw2))
            have R1 := Lib.hid (HMw.out.fresh B1.out)
            have HOk1 := Lib.hid (HOk.out.below B1.out)
            clear X0 B0 B1 HRg HMw HOk
            generalize wr.heap.size = G at *
            cases lg with
            | true =>
              go_wp2_with (first
                | (refine wpList_loadA rfl _ rfl G 0 rfl x X1.out.range ?_)
                | (go_at_call 9; with_reducible refine (HLg.out _).mono ?_; rintro e w4 ⟨rfl, hb4⟩; have R4 := Lib.hid (R1.out.fresh hb4); clear hb4))
              go_ret
              exact ⟨rfl, R4.out.be⟩
            | false =>
              have HSm : Hid (x.nL ≤ 600) := Lib.hid (by have h := of_decide_eq_false Hlg.out; unfold Lrg at h; omega)
              have HSs : Hid (x.s.size ≤ 65536) := Lib.hid (by have h := of_decide_eq_false Hlg.out; unfold Lrg at h; omega)
              go_upto_region 17 with (first
                | (refine wpList_loadA rfl _ rfl G 0 rfl x X1.out.range ?_)
                | (go_at_call 9; with_reducible refine (HLg.out _).mono ?_; rintro e w4 ⟨rfl, hb4⟩
                   have HM4 := Lib.hid (R1.out.fresh hb4)
                   have X4 := Lib.hid (X1.out.below hb4 X1.out.lt)
                   have HOk4 := Lib.hid (HOk1.out.below hb4)
                   clear hb4))
              clear R1 X1 HOk1 HLg Hlg
              have HGn := HGl
              clear HGl
              have y0 := X4.out.cell 0
              simp only [List.getElem?_toArray, Ac.cells, List.getElem?_cons_zero, List.getElem?_cons_succ] at y0
              have HI : Hid (-9223372036854775808 ≤ x.n ∧ x.n ≤ 9223372036854775807) := Lib.hid HOk4.out.2.1
              have HK4 : Hid (KRow w4 x.aL x.nL x.cL x.l) := Lib.hid HOk4.out.1
              go_upto_block 2 with fail
              go_cut [13, 14, 15, 16] (fun sv ev qv fv wx => ∃ (wz : World) (d : M.Dv) (c : M.Cl) (L : Int) (tB cB vB kB : Nat), wz = wx ∧ sv = .pointer (some ⟨tB, 0, none⟩) ∧ qv = .pointer (some ⟨vB, 0, none⟩) ∧ ev = .int .i64 0 ∧ fv = .int .i64 0 ∧ MG w wz dB sB mB rB LB n sa sb x3 tB cB vB kB d c L d c L)
              case first =>
                by_cases h0 : x.kind = 0
                · have hk0 : (x.kind == 0) = true := by simp [h0]
                  have hn1 : (x.kind == 1) = false := by simp [h0]
                  have hn2 : (x.kind == 2) = false := by simp [h0]
                  have hn3 : (x.kind == 3) = false := by simp [h0]
                  clear h0
                  as_aux_lemma =>
                    have HT1 := Lib.hid (fun w' (h : WS w' dB sB mB n d tB cB sa sb c L x3) => take_any w' h x.fr x.m)
                    have HT2 := Lib.hid (fun w' (h : RW w' rB LB n d vB kB sa sb c L x3) => rtake_any w' h x.fr x.m)
                    have mn := fun A w' => Ml.msg_neq A A w'
                    unfold RW at HT2
                    generalize takA n sa sb d c L x.fr x.m = A at *
                    generalize takI n sa sb d c L x.fr x.m = is at *
                    generalize takD n sa sb d c L x.fr x.m = d2 at *
                    generalize takL n sa sb d c L x3 x.fr x.m = L2 at *
                    generalize takC n sa sb d c L x.fr x.m = c2 at *
                    have mn := mn A
                    simp only [decide_true, Bool.not_true] at mn
                    obtain ⟨ak, aep, asq, aN, ab, acl, ae, at0, at1, at2, at3, adt, arw⟩ := A
                    simp only [Ml.msgV, Ml.Mg.cells] at HT1 HT2 mn
                    clear y0
                    have y2 := X4.out.cell 2
                    have y3 := X4.out.cell 3
                    have y4 := X4.out.cell 4
                    have y5 := X4.out.cell 5
                    have y6 := X4.out.cell 6
                    have y7 := X4.out.cell 7
                    have y8 := X4.out.cell 8
                    have y9 := X4.out.cell 9
                    have y10 := X4.out.cell 10
                    have y11 := X4.out.cell 11
                    have y12 := X4.out.cell 12
                    have y13 := X4.out.cell 13
                    have y14 := X4.out.cell 14
                    have y15 := X4.out.cell 15
                    simp only [List.getElem?_toArray, Ac.cells, List.getElem?_cons_zero, List.getElem?_cons_succ] at y2 y3 y4 y5 y6 y7 y8 y9 y10 y11 y12 y13 y14 y15
                    go_upto_region 21 with (first
                      | (go_at_call 10; with_reducible refine (HT1.out _ HM4.out.l).mono ?_; rintro e w5 ⟨rfl, hs5, hb5⟩
                         have HM5 := Lib.hid (HM4.out.left hs5 hb5 (fun y hy => hy))
                         have hn6 := (Below.refl w5.heap.size w5).alloc (Nat.le_refl _) (.cells #[.int .i64 ak, .int .i64 aep, .int .i64 asq, .int .i64 aN, .int .i64 ab, .int .i64 acl, .int .i64 ae, .int .i64 at0, .int .i64 at1, .int .i64 at2, .int .i64 at3, .string adt, .string arw] 37)
                         have HM6 := Lib.hid (HM5.out.fresh hn6)
                         have X6 := Lib.hid ((X4.out.but hb5 (fun hm => HGn.out.1 _ hm rfl)).below hn6 (Nat.lt_of_lt_of_le X4.out.lt hb5.size))
                         have A6 := Lib.hid (Bo.new w5 #[.int .i64 ak, .int .i64 aep, .int .i64 asq, .int .i64 aN, .int .i64 ab, .int .i64 acl, .int .i64 ae, .int .i64 at0, .int .i64 at1, .int .i64 at2, .int .i64 at3, .string adt, .string arw] 37)
                         have HGA : Hid (∀ y ∈ theirs rB LB kB vB, y ≠ w5.heap.size) := Lib.hid (fun y hy => by have := HM5.out.rlt y hy; omega)
                         clear hs5 hb5 hn6))
                    clear HM4 X4 HT1 y2 y3 y4 y5 y6 y7 y8 y9 y10 y11 y12 y13 y14 y15
                    generalize w5.alloc (.cells #[.int .i64 ak, .int .i64 aep, .int .i64 asq, .int .i64 aN, .int .i64 ab, .int .i64 acl, .int .i64 ae, .int .i64 at0, .int .i64 at1, .int .i64 at2, .int .i64 at3, .string adt, .string arw] 37) = W6 at *
                    generalize w5.heap.size = GA at *
                    have y2 := X6.out.cell 2
                    have y3 := X6.out.cell 3
                    have y4 := X6.out.cell 4
                    have y5 := X6.out.cell 5
                    have y6 := X6.out.cell 6
                    have y7 := X6.out.cell 7
                    have y8 := X6.out.cell 8
                    have y9 := X6.out.cell 9
                    have y10 := X6.out.cell 10
                    have y11 := X6.out.cell 11
                    have y12 := X6.out.cell 12
                    have y13 := X6.out.cell 13
                    have y14 := X6.out.cell 14
                    have y15 := X6.out.cell 15
                    simp only [List.getElem?_toArray, Ac.cells, List.getElem?_cons_zero, List.getElem?_cons_succ] at y2 y3 y4 y5 y6 y7 y8 y9 y10 y11 y12 y13 y14 y15
                    go_upto_region 22 with (first
                      | (go_at_call 11; with_reducible refine (HT2.out _ HM6.out.r).mono ?_; rintro e w7 ⟨rfl, hs7, hb7⟩
                         have HM7 := Lib.hid (HM6.out.right hs7 hb7 (fun y hy => hy))
                         have hn8 := (Below.refl w7.heap.size w7).alloc (Nat.le_refl _) (.cells #[.int .i64 ak, .int .i64 aep, .int .i64 asq, .int .i64 aN, .int .i64 ab, .int .i64 acl, .int .i64 ae, .int .i64 at0, .int .i64 at1, .int .i64 at2, .int .i64 at3, .string adt, .string arw] 37)
                         have HM8 := Lib.hid (HM7.out.fresh hn8)
                         have A8 := Lib.hid ((A6.out.but hb7 (fun hm => HGA.out _ hm rfl)).below hn8 (Nat.lt_of_lt_of_le A6.out.lt hb7.size))
                         have B8 := Lib.hid (Bo.new w7 #[.int .i64 ak, .int .i64 aep, .int .i64 asq, .int .i64 aN, .int .i64 ab, .int .i64 acl, .int .i64 ae, .int .i64 at0, .int .i64 at1, .int .i64 at2, .int .i64 at3, .string adt, .string arw] 37)
                         clear hs7 hb7 hn8))
                    clear HM6 X6 A6 HT2 y2 y3 y4 y5 y6 y7 y8 y9 y10 y11 y12 y13 y14 y15
                    generalize w7.alloc (.cells #[.int .i64 ak, .int .i64 aep, .int .i64 asq, .int .i64 aN, .int .i64 ab, .int .i64 acl, .int .i64 ae, .int .i64 at0, .int .i64 at1, .int .i64 at2, .int .i64 at3, .string adt, .string arw] 37) = W8 at *
                    generalize w7.heap.size = GB at *
                    have a0 := A8.out.cell 0
                    have a1 := A8.out.cell 1
                    have a2 := A8.out.cell 2
                    have a3 := A8.out.cell 3
                    have a4 := A8.out.cell 4
                    have a5 := A8.out.cell 5
                    have a6 := A8.out.cell 6
                    have a7 := A8.out.cell 7
                    have a8 := A8.out.cell 8
                    have a9 := A8.out.cell 9
                    have a10 := A8.out.cell 10
                    have a11 := A8.out.cell 11
                    have a12 := A8.out.cell 12
                    have b0 := B8.out.cell 0
                    have b1 := B8.out.cell 1
                    have b2 := B8.out.cell 2
                    have b3 := B8.out.cell 3
                    have b4 := B8.out.cell 4
                    have b5 := B8.out.cell 5
                    have b6 := B8.out.cell 6
                    have b7 := B8.out.cell 7
                    have b8 := B8.out.cell 8
                    have b9 := B8.out.cell 9
                    have b10 := B8.out.cell 10
                    have b11 := B8.out.cell 11
                    have b12 := B8.out.cell 12
                    simp only [List.getElem?_toArray, List.getElem?_cons_zero, List.getElem?_cons_succ] at a0 b0 a1 b1 a2 b2 a3 b3 a4 b4 a5 b5 a6 b6 a7 b7 a8 b8 a9 b9 a10 b10 a11 b11 a12 b12
                    cases is
                    all_goals
                      go_wp2_with fail
                      go_meet
                      exact ⟨_, _, _, _, _, _, _, _, rfl, rfl, rfl, rfl, rfl, HM8.out⟩
                · have hk0 : (x.kind == 0) = false := by simp [h0]
                  clear h0
                  by_cases h1 : x.kind = 1
                  · have hk1 : (x.kind == 1) = true := by simp [h1]
                    clear h1
                    as_aux_lemma =>
                      have hq1 : x.n.tmod 50 < 50 := Int.tmod_lt_of_pos _ (by omega)
                      have hq2 : -50 < x.n.tmod 50 := Int.lt_tmod_of_pos _ (by omega)
                      have HQ1 := Lib.hid (And.intro hq1 hq2)
                      clear hq1 hq2 y0

                      go_wp2_with fail
                      go_loopw [23] (fun jv wj => ∃ (t : Nat) (L : Int), t ≤ 50 ∧ jv = .int .i64 t ∧ XA wj G x ∧ MG w wj dB sB mB rB LB n sa sb x3 tB cB vB kB d c L d c L) (fun jv _ => 50 - (RowKit.intOf jv).toNat)
                      case atStart => exact ⟨0, _, by omega, rfl, X4.out, HM4.out⟩
                      case round =>
                        obtain ⟨t, L, ht, rfl, hx, hm⟩ := hrel
                        have Xj := Lib.hid hx
                        have HMj := Lib.hid hm
                        have y1 := hx.cell 1
                        simp only [List.getElem?_toArray, Ac.cells, List.getElem?_cons_zero, List.getElem?_cons_succ] at y1
                        clear hx hm HM4 X4
                        by_cases hlt : (t : Int) < x.n.tmod 50
                        · have Ht : Hid (t < 50) := Lib.hid (by have := HQ1.out; omega)
                          have ht5 : (t : Int) < 50 := by have := Ht.out; omega
                          clear ht
                          go_wp2_with (first
                            | (go_at_call 12; with_reducible refine (tick_any HMj.out.l).mono ?_; rintro e w5 ⟨rfl, hs5, hb5⟩
                               have HM5 := Lib.hid (HMj.out.left hs5 hb5 (fun y hy => hy))
                               have X5 := Lib.hid (Xj.out.but hb5 (fun hm => HGn.out.1 _ hm rfl))
                               clear hs5 hb5)
                            | (go_at_call 13; with_reducible refine (rtick_any HM5.out.r).mono ?_; rintro e w6 ⟨rfl, hs6, hb6⟩
                               have HM6 := Lib.hid (HM5.out.right hs6 hb6 (fun y hy => hy))
                               have X6 := Lib.hid (X5.out.but hb6 (fun hm => HGn.out.2 _ hm rfl))
                               clear hs6 hb6))
                          go_roundw
                          case rel => exact ⟨t + 1, _, by have := Ht.out; omega, by go_num, X6.out, HM6.out⟩
                          case measure => have := Ht.out; simp [RowKit.intOf]; omega
                        · have hlt2 : decide ((t : Int) < x.n.tmod 50) = false := decide_eq_false hlt
                          clear ht
                          go_wp2_with fail
                          go_meet
                          exact ⟨_, _, _, _, _, _, _, _, rfl, rfl, rfl, rfl, rfl, HMj.out⟩
                  · have hk1 : (x.kind == 1) = false := by simp [h1]
                    clear h1
                    by_cases h2 : x.kind = 2
                    · have hk2 : (x.kind == 2) = true := by simp [h2]
                      clear h2
                      as_aux_lemma =>
                        have y17 := X4.out.cell 17
                        simp only [List.getElem?_toArray, Ac.cells, List.getElem?_cons_zero, List.getElem?_cons_succ] at y17
                        have HN4 := Lib.hid HM4.out.nd
                        go_wp2_with (first
                          | (go_at_call 14; with_reducible refine (crash_any w4 HN4.out.l _ _ _ _ HK4.out HF2.out).mono ?_; rintro e w6 ⟨rfl, hd6, hb6⟩
                             have HN6 := Lib.hid (HN4.out.left hd6 hb6 (by intro y hy; simp at hy; omega))
                             have X6 := Lib.hid (X4.out.but hb6 HGd.out)
                             have y17b := X6.out.cell 17
                             simp only [List.getElem?_toArray, Ac.cells, List.getElem?_cons_zero, List.getElem?_cons_succ] at y17b
                             have HK6 := Lib.hid (krow_but HK4.out hb6 HF2.out)
                             clear hd6 hb6)
                          | (go_at_call 16; with_reducible refine (keeps_any w6 _ _ _ _ HK6.out HSm.out).mono ?_; rintro e w7 ⟨aK, cK, rfl, hk7, hnk, hb7⟩
                             have HN7 := Lib.hid (HN6.out.fresh hb7)
                             have HK7 := Lib.hid hk7
                             have HF7 : Hid (x.l = [] ∨ ∀ b off, aK = some ⟨b, off, none⟩ → b ∉ [rB, LB]) := Lib.hid (.inr fun b off hb => by have := hnk b off hb; have := HN6.out.lt; simp; omega)
                             clear hk7 hnk hb7)
                          | (go_at_call 15; with_reducible refine (rcrash_any w7 HN7.out.r _ _ _ _ HK7.out HF7.out).mono ?_; rintro e w8 ⟨rfl, hr8, hb8⟩; have HN8 := Lib.hid (HN7.out.right hr8 hb8 (by intro y hy; simp at hy; omega)); clear hr8 hb8)
                          | (go_at_call 7; with_reducible refine (wopen_yes w8 HN8.out.l rfl HG.out.1 HG.out.2).mono ?_; rintro e w9 ⟨tB1, cB1, rfl, h1, h2, h3, h4⟩
                             have HSo := Lib.hid (And.intro h1 (And.intro h2 (And.intro h3 h4)))
                             have HR9 := Lib.hid (HN8.out.fresh h4).r
                             clear h1 h2 h3 h4)
                          | (go_at_call 8; with_reducible refine (ropen_any w9 HR9.out rfl HG.out.1 HG.out.2).mono ?_; rintro e w10 ⟨vB1, kB1, rfl, h1, h2, h4, h5⟩
                             have HM10 := Lib.hid (HN8.out.opened HSo.out.2.2.2 HSo.out.2.2.1 HSo.out.1 HSo.out.2.1 h5 h4 h1 h2)
                             clear h1 h2 h4 h5))
                        go_meet
                        exact ⟨_, _, _, _, _, _, _, _, rfl, rfl, rfl, rfl, rfl, HM10.out⟩
                    · have hk2 : (x.kind == 2) = false := by simp [h2]
                      clear h2
                      by_cases h3 : x.kind = 3
                      · have hk3 : (x.kind == 3) = true := by simp [h3]
                        clear h3
                        as_aux_lemma =>
                          have y1 := X4.out.cell 1
                          simp only [List.getElem?_toArray, Ac.cells, List.getElem?_cons_zero, List.getElem?_cons_succ] at y1
                          go_wp2_with (first
                            | (go_at_call 17; with_reducible refine (fuse_any w4 HM4.out.l.dev x.n HI.out.1 HI.out.2).mono ?_; rintro e w6 ⟨rfl, hd6, hb6⟩
                               have HM6 := Lib.hid (HM4.out.dev hd6 hb6 (by intro y hy; simp at hy; omega))
                               have X6 := Lib.hid (X4.out.but hb6 (fun hm => HGd.out (by simp at hm ⊢; omega)))
                               have y1b := X6.out.cell 1
                               simp only [List.getElem?_toArray, Ac.cells, List.getElem?_cons_zero, List.getElem?_cons_succ] at y1b
                               clear hd6 hb6)
                            | (go_at_call 18; with_reducible refine (rfuse_any w6 HM6.out.nd.r x.n HI.out.1 HI.out.2).mono ?_; rintro e w7 ⟨rfl, hr7, hb7⟩; have HM7 := Lib.hid (HM6.out.ref hr7 hb7 (by intro y hy; simp at hy; omega)); clear hr7 hb7))
                          go_meet
                          exact ⟨_, _, _, _, _, _, _, _, rfl, rfl, rfl, rfl, rfl, HM7.out⟩
                      · have hk3 : (x.kind == 3) = false := by simp [h3]
                        clear h3
                        by_cases h4 : x.kind = 4
                        · have hk4 : (x.kind == 4) = true := by simp [h4]
                          clear h4
                          as_aux_lemma =>
                            have y1 := X4.out.cell 1
                            have y16 := X4.out.cell 16
                            simp only [List.getElem?_toArray, Ac.cells, List.getElem?_cons_zero, List.getElem?_cons_succ] at y1 y16
                            have kc := Ml.conv_str w4 x.s
                            have HRow : Hid (Row (Lib.bytesWorld w4 5 x.s) (some ⟨w4.heap.size, 0, none⟩) x.s.size (grownCap w4 x.s.size 0 5) (u8s x.s.data.toList)) := Lib.hid (Ml.bytes_row w4 x.s HSs.out)
                            have HMc := Lib.hid (HM4.out.fresh (Ml.bytes_below w4 x.s))
                            have Xc := Lib.hid (X4.out.below (Ml.bytes_below w4 x.s) X4.out.lt)
                            have HNc : Hid (u8s x.s.data.toList = [] ∨ ∀ b off, (some ⟨w4.heap.size, 0, none⟩ : Option Addr) = some ⟨b, off, none⟩ → b ∉ [dB]) := Lib.hid (.inr fun b off hb => by injection hb with hb; injection hb with hb; have := HM4.out.l.dev.ltD; simp; omega)
                            go_wp2_with (first
                              | (go_at_call 19; with_reducible refine (write_any _ HMc.out.l.dev x.n HI.out.1 HI.out.2 _ _ _ x.s.data.toList HRow.out HNc.out).mono ?_; rintro e w6 ⟨rfl, hd6, hb6⟩
                                 have HM6 := Lib.hid (HMc.out.dev hd6 hb6 (by intro y hy; simp at hy; omega))
                                 have X6 := Lib.hid (Xc.out.but hb6 (fun hm => HGd.out (by simp at hm ⊢; omega)))
                                 have y1b := X6.out.cell 1
                                 have y16b := X6.out.cell 16
                                 simp only [List.getElem?_toArray, Ac.cells, List.getElem?_cons_zero, List.getElem?_cons_succ] at y1b y16b
                                 have kc2 := Ml.conv_str w6 x.s
                                 have HRow2 : Hid (Row (Lib.bytesWorld w6 5 x.s) (some ⟨w6.heap.size, 0, none⟩) x.s.size (grownCap w6 x.s.size 0 5) (u8s x.s.data.toList)) := Lib.hid (Ml.bytes_row w6 x.s HSs.out)
                                 have HMe := Lib.hid (HM6.out.fresh (Ml.bytes_below w6 x.s))
                                 have HNe : Hid (u8s x.s.data.toList = [] ∨ ∀ b off, (some ⟨w6.heap.size, 0, none⟩ : Option Addr) = some ⟨b, off, none⟩ → b ∉ [rB]) := Lib.hid (.inr fun b off hb => by injection hb with hb; injection hb with hb; have := HM6.out.nd.r.ltR; simp; omega)
                                 clear hd6 hb6)
                              | (go_at_call 20; with_reducible refine (rwrite_any _ HMe.out.nd.r x.n HI.out.1 HI.out.2 _ _ _ x.s.data.toList HRow2.out HNe.out).mono ?_; rintro e w7 ⟨rfl, hr7, hb7⟩; have HM7 := Lib.hid (HMe.out.ref hr7 hb7 (by intro y hy; simp at hy; omega)); clear hr7 hb7))
                            go_meet
                            exact ⟨_, _, _, _, _, _, _, _, rfl, rfl, rfl, rfl, rfl, HM7.out⟩
                        · have hk4 : (x.kind == 4) = false := by simp [h4]
                          clear h4
                          as_aux_lemma =>
                            go_wp2_with fail
                            go_meet
                            exact ⟨_, _, _, _, _, _, _, _, rfl, rfl, rfl, rfl, rfl, HM4.out⟩
              case rest =>
                as_aux_lemma =>
                  obtain ⟨wz, d, c, L, tB, cB, vB, kB, hwz, rfl, rfl, rfl, rfl, hm⟩ := hcut
                  subst hwz
                  have HM9 := Lib.hid hm
                  clear hm y0 HM4 X4 HOk4 HI HK4 HF2 HSm HSs HGn HGd

                  have HEp := Lib.hid (fun w' (h : WS w' dB sB mB n d tB cB sa sb c L x3) => epoch_any w' h)
                  have HHo := Lib.hid (fun w' (h : WS w' dB sB mB n d tB cB sa sb c L x3) => holder_any w' h)
                  have HMa := Lib.hid (fun w' (h : WS w' dB sB mB n d tB cB sa sb c L x3) => mask_any w' h)
                  have HQ : Hid (∀ w', Below wz.heap.size wz w' → (w'.cell? ⟨vB, 1, none⟩ = some (.int .i64 (fx c.text).ep) ∧ w'.cell? ⟨vB, 2, none⟩ = some (.int .i64 (fx c.text).ho) ∧ w'.cell? ⟨vB, 3, none⟩ = some (.int .i64 (fx c.text).ma) ∧ w'.cell? ⟨vB, 5, none⟩ = some (.int .i64 L)) ∧ WS w' dB sB mB n d tB cB sa sb c L x3) := Lib.hid fun w' hb => ⟨⟨RX.q1 (HM9.out.fresh hb).r, RX.q2 (HM9.out.fresh hb).r, RX.q3 (HM9.out.fresh hb).r, RX.q5 (HM9.out.fresh hb).r⟩, (HM9.out.fresh hb).l⟩
                  generalize fx c.text = X at *
                  obtain ⟨ep, ho, ma, ch⟩ := X
                  simp only at HEp HHo HMa HQ
                  have z1 : ((ep : Int) != ep) = false := by simp
                  have z2 : ((ho : Int) != ho) = false := by simp
                  have z3 : ((ma : Int) != ma) = false := by simp
                  have z4 : ((L : Int) != L) = false := by simp
                  obtain ⟨s1, s2, s3, s5⟩ := (HQ.out wz (Below.refl _ _)).1
                  go_upto_region 43 with fail
                  go_region_held3 (fun w' => w'.cell? ⟨vB, 1, none⟩ = some (.int .i64 ep) ∧ w'.cell? ⟨vB, 2, none⟩ = some (.int .i64 ho) ∧ w'.cell? ⟨vB, 3, none⟩ = some (.int .i64 ma) ∧ w'.cell? ⟨vB, 5, none⟩ = some (.int .i64 L))
                    (first
                      | with_reducible exact ⟨s1, s2, s3, s5⟩
                      | exact (HQ.out _ (Below.refl _ _).drew).1
                      | exact (HQ.out _ C1.out).1
                      | exact (HQ.out _ C2.out).1
                      | exact (HQ.out _ C3.out).1)
                    (first
                      | (go_at_call 21; with_reducible refine (HEp.out _ (HQ.out wz.drew (Below.refl _ _).drew).2).mono ?_; rintro e v1 ⟨rfl, hb⟩
                         have C1 : Hid (Below wz.heap.size wz v1) := Lib.hid ((Below.refl _ _).drew.trans hb)
                         clear hb)
                      | (go_at_call 22; with_reducible refine (HHo.out _ (HQ.out _ C1.out).2).mono ?_; rintro e v2 ⟨rfl, hb⟩
                         have C2 : Hid (Below wz.heap.size wz v2) := Lib.hid (C1.out.trans (hb.mono C1.out.size))
                         clear hb)
                      | (go_at_call 23; with_reducible refine (HMa.out _ (HQ.out _ C2.out).2).mono ?_; rintro e v3 ⟨rfl, hb⟩
                         have C3 : Hid (Below wz.heap.size wz v3) := Lib.hid (C2.out.trans (hb.mono C2.out.size))
                         clear hb)
                      | (go_at_call 24; with_reducible refine (left_any (HQ.out _ C3.out).2).mono ?_; rintro e v4 ⟨rfl, rfl⟩))
                  have HM20 := Lib.hid (HM9.out.fresh C3.out)
                  clear s1 s2 s3 s5 z1 z2 z3 z4 HQ HM9 C1 C2 C3 HEp HHo HMa
                  go_wp2_with fail

                  go_loopw [24] (fun t wr => ∃ s : Nat, s ≤ 6 ∧ s ≤ n ∧ t = .int .i64 s ∧ MG w wr dB sB mB rB LB n sa sb x3 tB cB vB kB d c L d c L) (fun t _ => 6 - (RowKit.intOf t).toNat)
                  case atStart => exact ⟨0, by omega, by omega, rfl, HM20.out⟩
                  case round =>
                    obtain ⟨s, hs6, hsn, rfl, hm⟩ := hrel
                    have HMq := Lib.hid hm
                    clear hm HM20
                    have hs0 : (0 : Int) ≤ (s : Int) := by omega
                    by_cases hlt : s < n
                    · have hltI : (s : Int) < (n : Int) := by omega
                      by_cases hlt6 : s < 6
                      · have hlt6I : (s : Int) < 6 := by omega
                        cases hdd : d.dead with
                        | false =>
                          have hr : M.reach n d (s : Int) = 0 := by unfold M.reach; rw [hdd, if_neg (by simp), if_neg (by omega)]
                          have HR1 := Lib.hid (read_yes wr HMq.out.l.dev s hr)
                          have HR2 := Lib.hid (fun w' (hb : Below wr.heap.size wr w') => rread_yes w' (HMq.out.fresh hb).nd.r s hr)
                          have Hsl : Hid ((M.seen d s).length = 144) := Lib.hid (M.sure_len HMq.out.l.dev.wf s)
                          have Hst := Lib.hid (And.intro hlt hlt6)
                          clear hr hdd hlt hlt6 hs6 hsn
                          go_wp2_with (first
                            | (go_at_call 25; with_reducible refine HR1.out.mono ?_; rintro e w6 ⟨bR, rfl, hbR, hltR, hrg, hth, hb6⟩
                               have HB6 := Lib.hid hb6
                               have HW6 := Lib.hid (And.intro hbR (And.intro hltR hrg))
                               clear hbR hltR hrg hth hb6)
                            | (go_at_call 26; with_reducible refine (HR2.out _ HB6.out).mono ?_; rintro e w7 ⟨aQ, cQ, rfl, hrow, hb7⟩
                               have hb67 := But.of_below hb7
                               have HB7 := Lib.hid (HB6.out.trans (hb7.mono HB6.out.size))
                               have hrg7 := rangeAt_block HW6.out.2.2 (hb67.block bR HW6.out.2.1 (by simp))
                               have hlt7 := Nat.lt_of_lt_of_le HW6.out.2.1 hb67.size
                               have hc1 : (convert 50 9 (.slice (some ⟨bR, 0, none⟩) 144 144)).run Tryz.prog w7 = .ok (.string (str (M.seen d s))) w7 := by
                                 have h1 := conv_take (k := 144) hrg7 hlt7 Hsl.out (by omega)
                                 rw [List.take_of_length_le (by have := Hsl.out; omega)] at h1
                                 exact h1
                               have hc2 := conv_row hrow
                               have HM7 := Lib.hid (HMq.out.fresh HB7.out)
                               clear hrow hb7 hb67 hrg7 hlt7))
                          clear hc1 hc2 HR1 HR2 HB6 HB7 HW6
                          go_roundw
                          case rel => exact ⟨s + 1, by have := Hst.out; omega, by have := Hst.out; omega, by go_num, HM7.out⟩
                          case measure => have := Hst.out; simp [RowKit.intOf]; omega
                        | true =>
                          have hr : M.reach n d (s : Int) = 30 := by unfold M.reach; rw [hdd, if_pos rfl]
                          have HR1 := Lib.hid (read_no wr HMq.out.l.dev s (by omega) (by have := HN.out; omega) (by rw [hr]; decide))
                          have HR2 := Lib.hid (rread_no wr HMq.out.nd.r s (by omega) (by have := HN.out; omega) (by rw [hr]; decide))
                          rw [hr] at HR1 HR2
                          have hc1 := conv_row (l := []) (row_nil wr)
                          have Hst := Lib.hid (And.intro hlt hlt6)
                          clear hr hdd hlt hlt6 hs6 hsn
                          go_wp2_with (first
                            | (go_at_call 25; with_reducible refine HR1.out.mono ?_; rintro e w6 ⟨rfl, rfl⟩)
                            | (go_at_call 26; with_reducible refine HR2.out.mono ?_; rintro e w7 ⟨rfl, rfl⟩))
                          clear hc1 HR1 HR2
                          go_roundw
                          case rel => exact ⟨s + 1, by have := Hst.out; omega, by have := Hst.out; omega, by go_num, HMq.out⟩
                          case measure => have := Hst.out; simp [RowKit.intOf]; omega
                      · have hlt6I : ¬ (s : Int) < 6 := by omega
                        clear hlt hlt6 hs6 hsn
                        go_wp2_with fail
                        go_roundw
                        case rel => exact ⟨k + 1, d, c, L, tB, cB, vB, kB, by have := HKn.out; omega, by have := HKn.out; omega, by go_num, rfl, rfl, rfl, rfl, HMq.out⟩
                        case measure => have := HKn.out; simp [RowKit.intOf]; omega
                    · have hltI : ¬ (s : Int) < (n : Int) := by omega
                      clear hlt hs6 hsn
                      go_wp2_with fail
                      go_roundw
                      case rel => exact ⟨k + 1, d, c, L, tB, cB, vB, kB, by have := HKn.out; omega, by have := HKn.out; omega, by go_num, rfl, rfl, rfl, rfl, HMq.out⟩
                      case measure => have := HKn.out; simp [RowKit.intOf]; omega
    · have HG : Hid (NoW n x1 x2 x3) := Lib.hid (by unfold NoW Bad; omega)
      clear hgood
      have HO7 : Hid (∀ w dB sB mB d, DevAt w dB sB mB n d → Calls Tryz.prog 7 #[.pointer (some ⟨dB, 0, none⟩), .int .i64 x1, .int .i64 x2, .int .i64 x3] w fun e w' => e = .returned (.tuple #[.pointer none, .int .i64 1]) ∧ w = w') := Lib.hid fun w dB sB mB d h => wopen_no w h x1 x2 x3 HG.out
      have HO8 : Hid (∀ w rB LB d, RefAt w rB LB n d → Calls Tryz.prog 8 #[.pointer (some ⟨rB, 0, none⟩), .int .i64 x1, .int .i64 x2, .int .i64 x3] w fun e w' => e = .returned (.tuple #[.pointer none, .int .i64 1]) ∧ w = w') := Lib.hid fun w rB LB d h => ropen_no w h x1 x2 x3 HG.out
      go_enter Tryz.func3, Tryz.ntmps3
      go_wp2_with (first
        | (go_at_call 4; with_reducible refine HA.out.mono ?_; rintro e w1 ⟨rfl, hb1⟩; have HB1 := Lib.hid hb1; clear hb1)
        | (go_at_call 5; with_reducible refine (new_yes n HN.out _).mono ?_; rintro e w2 ⟨dB, sB, mB, rfl, hd2, hb2, l1, l2, l3⟩
           have HD2 := Lib.hid hd2
           have HB2 := Lib.hid (HB1.out.trans (hb2.mono HB1.out.size))
           have HL : Hid (w.heap.size ≤ dB ∧ w.heap.size ≤ sB ∧ w.heap.size ≤ mB) := Lib.hid ⟨by have := HB1.out.size; omega, by have := HB1.out.size; omega, by have := HB1.out.size; omega⟩
           clear hd2 hb2 l1 l2 l3)
        | (go_at_call 6; with_reducible refine (rnew_yes n HN.out _).mono ?_; rintro e w3 ⟨rB, LB, rfl, hr3, hb3, l1, l2⟩
           have HN3 : Hid (ND w w3 dB sB mB rB LB n M.fresh M.fresh) := Lib.hid ⟨HD2.out.below hb3 ⟨HD2.out.ltD, HD2.out.lt, HD2.out.pend.lt⟩, hr3, HB2.out.trans (hb3.mono HB2.out.size), HL.out, ⟨by have := HB2.out.size; omega, by have := HB2.out.size; omega⟩, by have := HD2.out.ltD; have := HD2.out.lt; have := HD2.out.pend.lt; omega⟩
           clear hr3 hb3 l1 l2)
        | (go_at_call 7; with_reducible refine (HO7.out w3 dB sB mB _ HN3.out.l).mono ?_; rintro e w5 ⟨rfl, rfl⟩)
        | (go_at_call 8; with_reducible refine (HO8.out w3 rB LB _ HN3.out.r).mono ?_; rintro e w5 ⟨rfl, rfl⟩))
      clear HD2 HB2 HL HB1 HA
      go_loopw [13, 14, 15, 16, 17] (fun sv ev qv fv iv wr => ∃ (k : Nat) (d : M.Dv), k ≤ 100 ∧ k ≤ n4 ∧ iv = .int .i64 k ∧ sv = .pointer none ∧ qv = .pointer none ∧ ev = .int .i64 1 ∧ fv = .int .i64 1 ∧ ND w wr dB sB mB rB LB n d d) (fun _ _ _ _ iv _ => 100 - (RowKit.intOf iv).toNat)
      case atStart => exact ⟨0, _, by omega, by omega, rfl, rfl, rfl, rfl, rfl, HN3.out⟩
      case round =>
        obtain ⟨k, d, hk, hkn, rfl, rfl, rfl, rfl, rfl, hm⟩ := hrel
        have HMw := Lib.hid hm
        clear hm HN3
        have hk0 : (0 : Int) ≤ (k : Int) := by omega
        by_cases hend : k = n4
        · have hge : ¬ ((k : Int) < (n4 : Int)) := by omega
          clear hend
          go_wp2_with fail
          go_ret
          exact ⟨rfl, HMw.out.be⟩
        · have hlt : (k : Int) < (n4 : Int) := by omega
          by_cases h80 : k = 100
          · have hge : ¬ ((k : Int) < 100) := by omega
            clear h80 hend
            go_wp2_with fail
            go_ret
            exact ⟨rfl, HMw.out.be⟩
          · have hlt8 : (k : Int) < 100 := by omega
            obtain ⟨b, off, x, rfl, hxk, hok, hb, hc⟩ := acts_at HW1.out HMw.out.be (show k < n4 by omega)
            have hok0 : x.Ok w := HW1.out.2.2.2.1 x (List.mem_of_getElem? hxk)
            have HF2 := Lib.hid (krow_old hok0.1 (l := [dB, sB, mB]) (by have := HMw.out.gl; simp; omega))
            have HOk := Lib.hid hok
            have HKn : Hid (k < 100 ∧ k < n4) := Lib.hid ⟨by omega, by omega⟩
            have HRg : Hid (wr.rangeAt b (off + k * 18) x.cells) := Lib.hid (fun j v hv => by rw [Nat.add_assoc]; exact hc j v hv)
            have HLg := Lib.hid (fun w' => large_any w' x)
            obtain ⟨lg, hlg⟩ : ∃ lg, decide (Lrg x) = lg := ⟨_, rfl⟩
            rw [hlg] at HLg
            have Hlg := Lib.hid hlg
            have HGl : Hid (True) := Lib.hid trivial
            have HGd : Hid (wr.heap.size ∉ [dB, sB, mB]) := Lib.hid (by have := HMw.out.lt; simp; omega)
            clear hxk hok hok0 hb hc hend h80 hk hkn hlg
            go_upto_region 15 with (first
              | (refine wpList_loadA rfl _ rfl b (off + k * 18) rfl x HRg.out ?_)
              | (refine wpList_allocA rfl rfl ?_; intro w1 hw1; have X0 := Lib.hid (hw1 ▸ XA.new wr az : XA w1 wr.heap.size az); have B0 := Lib.hid (hw1 ▸ (Below.refl wr.heap.size wr).alloc (Nat.le_refl _) _ : Below wr.heap.size wr w1); clear hw1)
              | (refine wpList_storeA rfl _ _ rfl wr.heap.size rfl x rfl X0.out.there ?_; intro w2 hw2; have X1 := Lib.hid (hw2 ▸ X0.out.store x : XA w2 wr.heap.size x); have B1 := Lib.hid (hw2 ▸ belowA_setCells (Nat.le_refl _) _ _ B0.out : Below wr.heap.size wr w2); clear hw2))
            have R1 := Lib.hid (HMw.out.fresh B1.out)
            have HOk1 := Lib.hid (HOk.out.below B1.out)
            clear X0 B0 B1 HRg HMw HOk
            generalize wr.heap.size = G at *
            cases lg with
            | true =>
              go_wp2_with (first
                | (refine wpList_loadA rfl _ rfl G 0 rfl x X1.out.range ?_)
                | (go_at_call 9; with_reducible refine (HLg.out _).mono ?_; rintro e w4 ⟨rfl, hb4⟩; have R4 := Lib.hid (R1.out.fresh hb4); clear hb4))
              go_ret
              exact ⟨rfl, R4.out.be⟩
            | false =>
              have HSm : Hid (x.nL ≤ 600) := Lib.hid (by have h := of_decide_eq_false Hlg.out; unfold Lrg at h; omega)
              have HSs : Hid (x.s.size ≤ 65536) := Lib.hid (by have h := of_decide_eq_false Hlg.out; unfold Lrg at h; omega)
              go_upto_region 17 with (first
                | (refine wpList_loadA rfl _ rfl G 0 rfl x X1.out.range ?_)
                | (go_at_call 9; with_reducible refine (HLg.out _).mono ?_; rintro e w4 ⟨rfl, hb4⟩
                   have HM4 := Lib.hid (R1.out.fresh hb4)
                   have X4 := Lib.hid (X1.out.below hb4 X1.out.lt)
                   have HOk4 := Lib.hid (HOk1.out.below hb4)
                   clear hb4))
              clear R1 X1 HOk1 HLg Hlg
              have HGn := HGl
              clear HGl
              have y0 := X4.out.cell 0
              simp only [List.getElem?_toArray, Ac.cells, List.getElem?_cons_zero, List.getElem?_cons_succ] at y0
              have HI : Hid (-9223372036854775808 ≤ x.n ∧ x.n ≤ 9223372036854775807) := Lib.hid HOk4.out.2.1
              have HK4 : Hid (KRow w4 x.aL x.nL x.cL x.l) := Lib.hid HOk4.out.1
              go_upto_block 2 with fail
              by_cases h0 : x.kind = 0
              · have hk0 : (x.kind == 0) = true := by simp [h0]
                clear h0
                as_aux_lemma =>
                  go_wp2_with fail
                  go_roundw
                  case rel => exact ⟨k + 1, d, by have := HKn.out; omega, by have := HKn.out; omega, by go_num, rfl, rfl, rfl, rfl, HM4.out⟩
                  case measure => have := HKn.out; simp [RowKit.intOf]; omega
              · have hk0 : (x.kind == 0) = false := by simp [h0]
                clear h0
                go_cut [13, 14, 15, 16] (fun sv ev qv fv wx => ∃ (wz : World) (d : M.Dv), wz = wx ∧ sv = .pointer none ∧ qv = .pointer none ∧ ev = .int .i64 1 ∧ fv = .int .i64 1 ∧ ND w wz dB sB mB rB LB n d d)
                case first =>
                  by_cases h1 : x.kind = 1
                  · have hk1 : (x.kind == 1) = true := by simp [h1]
                    clear h1
                    as_aux_lemma =>
                      have hq1 : x.n.tmod 50 < 50 := Int.tmod_lt_of_pos _ (by omega)
                      have hq2 : -50 < x.n.tmod 50 := Int.lt_tmod_of_pos _ (by omega)
                      have HQ1 := Lib.hid (And.intro hq1 hq2)
                      clear hq1 hq2 y0

                      go_wp2_with fail
                      go_loopw [23] (fun jv wj => jv = .int .i64 0 ∧ XA wj G x ∧ ND w wj dB sB mB rB LB n d d) (fun jv _ => 0)
                      case atStart => exact ⟨rfl, X4.out, HM4.out⟩
                      case round =>
                        obtain ⟨rfl, hx, hm⟩ := hrel
                        have HMj := Lib.hid hm
                        have y1 := hx.cell 1
                        simp only [List.getElem?_toArray, Ac.cells, List.getElem?_cons_zero, List.getElem?_cons_succ] at y1
                        clear hx hm HM4 X4
                        by_cases hlt : (0 : Int) < x.n.tmod 50
                        · go_wp2_with fail
                          go_meet
                          exact ⟨_, _, rfl, rfl, rfl, rfl, rfl, HMj.out⟩
                        · have hlt2 : decide ((0 : Int) < x.n.tmod 50) = false := decide_eq_false hlt
                          go_wp2_with fail
                          go_meet
                          exact ⟨_, _, rfl, rfl, rfl, rfl, rfl, HMj.out⟩
                  · have hk1 : (x.kind == 1) = false := by simp [h1]
                    clear h1
                    by_cases h2 : x.kind = 2
                    · have hk2 : (x.kind == 2) = true := by simp [h2]
                      clear h2
                      as_aux_lemma =>
                        have y17 := X4.out.cell 17
                        simp only [List.getElem?_toArray, Ac.cells, List.getElem?_cons_zero, List.getElem?_cons_succ] at y17
                        have HN4 := Lib.hid HM4.out
                        go_wp2_with (first
                          | (go_at_call 14; with_reducible refine (crash_any w4 HN4.out.l _ _ _ _ HK4.out HF2.out).mono ?_; rintro e w6 ⟨rfl, hd6, hb6⟩
                             have HN6 := Lib.hid (HN4.out.left hd6 hb6 (by intro y hy; simp at hy; omega))
                             have X6 := Lib.hid (X4.out.but hb6 HGd.out)
                             have y17b := X6.out.cell 17
                             simp only [List.getElem?_toArray, Ac.cells, List.getElem?_cons_zero, List.getElem?_cons_succ] at y17b
                             have HK6 := Lib.hid (krow_but HK4.out hb6 HF2.out)
                             clear hd6 hb6)
                          | (go_at_call 16; with_reducible refine (keeps_any w6 _ _ _ _ HK6.out HSm.out).mono ?_; rintro e w7 ⟨aK, cK, rfl, hk7, hnk, hb7⟩
                             have HN7 := Lib.hid (HN6.out.fresh hb7)
                             have HK7 := Lib.hid hk7
                             have HF7 : Hid (x.l = [] ∨ ∀ b off, aK = some ⟨b, off, none⟩ → b ∉ [rB, LB]) := Lib.hid (.inr fun b off hb => by have := hnk b off hb; have := HN6.out.lt; simp; omega)
                             clear hk7 hnk hb7)
                          | (go_at_call 15; with_reducible refine (rcrash_any w7 HN7.out.r _ _ _ _ HK7.out HF7.out).mono ?_; rintro e w8 ⟨rfl, hr8, hb8⟩; have HN8 := Lib.hid (HN7.out.right hr8 hb8 (by intro y hy; simp at hy; omega)); clear hr8 hb8)
                          | (go_at_call 7; with_reducible refine (HO7.out w8 dB sB mB _ HN8.out.l).mono ?_; rintro e w9 ⟨rfl, rfl⟩)
                          | (go_at_call 8; with_reducible refine (HO8.out w8 rB LB _ HN8.out.r).mono ?_; rintro e w9 ⟨rfl, rfl⟩))
                        go_meet
                        exact ⟨_, _, rfl, rfl, rfl, rfl, rfl, HN8.out⟩
                    · have hk2 : (x.kind == 2) = false := by simp [h2]
                      clear h2
                      by_cases h3 : x.kind = 3
                      · have hk3 : (x.kind == 3) = true := by simp [h3]
                        clear h3
                        as_aux_lemma =>
                          have y1 := X4.out.cell 1
                          simp only [List.getElem?_toArray, Ac.cells, List.getElem?_cons_zero, List.getElem?_cons_succ] at y1
                          go_wp2_with (first
                            | (go_at_call 17; with_reducible refine (fuse_any w4 HM4.out.l x.n HI.out.1 HI.out.2).mono ?_; rintro e w6 ⟨rfl, hd6, hb6⟩
                               have HM6 := Lib.hid (HM4.out.left hd6 hb6 (by intro y hy; simp at hy; omega))
                               have X6 := Lib.hid (X4.out.but hb6 (fun hm => HGd.out (by simp at hm ⊢; omega)))
                               have y1b := X6.out.cell 1
                               simp only [List.getElem?_toArray, Ac.cells, List.getElem?_cons_zero, List.getElem?_cons_succ] at y1b
                               clear hd6 hb6)
                            | (go_at_call 18; with_reducible refine (rfuse_any w6 HM6.out.r x.n HI.out.1 HI.out.2).mono ?_; rintro e w7 ⟨rfl, hr7, hb7⟩; have HM7 := Lib.hid (HM6.out.right hr7 hb7 (by intro y hy; simp at hy; omega)); clear hr7 hb7))
                          go_meet
                          exact ⟨_, _, rfl, rfl, rfl, rfl, rfl, HM7.out⟩
                      · have hk3 : (x.kind == 3) = false := by simp [h3]
                        clear h3
                        by_cases h4 : x.kind = 4
                        · have hk4 : (x.kind == 4) = true := by simp [h4]
                          clear h4
                          as_aux_lemma =>
                            have y1 := X4.out.cell 1
                            have y16 := X4.out.cell 16
                            simp only [List.getElem?_toArray, Ac.cells, List.getElem?_cons_zero, List.getElem?_cons_succ] at y1 y16
                            have kc := Ml.conv_str w4 x.s
                            have HRow : Hid (Row (Lib.bytesWorld w4 5 x.s) (some ⟨w4.heap.size, 0, none⟩) x.s.size (grownCap w4 x.s.size 0 5) (u8s x.s.data.toList)) := Lib.hid (Ml.bytes_row w4 x.s HSs.out)
                            have HMc := Lib.hid (HM4.out.fresh (Ml.bytes_below w4 x.s))
                            have Xc := Lib.hid (X4.out.below (Ml.bytes_below w4 x.s) X4.out.lt)
                            have HNc : Hid (u8s x.s.data.toList = [] ∨ ∀ b off, (some ⟨w4.heap.size, 0, none⟩ : Option Addr) = some ⟨b, off, none⟩ → b ∉ [dB]) := Lib.hid (.inr fun b off hb => by injection hb with hb; injection hb with hb; have := HM4.out.l.ltD; simp; omega)
                            go_wp2_with (first
                              | (go_at_call 19; with_reducible refine (write_any _ HMc.out.l x.n HI.out.1 HI.out.2 _ _ _ x.s.data.toList HRow.out HNc.out).mono ?_; rintro e w6 ⟨rfl, hd6, hb6⟩
                                 have HM6 := Lib.hid (HMc.out.left hd6 hb6 (by intro y hy; simp at hy; omega))
                                 have X6 := Lib.hid (Xc.out.but hb6 (fun hm => HGd.out (by simp at hm ⊢; omega)))
                                 have y1b := X6.out.cell 1
                                 have y16b := X6.out.cell 16
                                 simp only [List.getElem?_toArray, Ac.cells, List.getElem?_cons_zero, List.getElem?_cons_succ] at y1b y16b
                                 have kc2 := Ml.conv_str w6 x.s
                                 have HRow2 : Hid (Row (Lib.bytesWorld w6 5 x.s) (some ⟨w6.heap.size, 0, none⟩) x.s.size (grownCap w6 x.s.size 0 5) (u8s x.s.data.toList)) := Lib.hid (Ml.bytes_row w6 x.s HSs.out)
                                 have HMe := Lib.hid (HM6.out.fresh (Ml.bytes_below w6 x.s))
                                 have HNe : Hid (u8s x.s.data.toList = [] ∨ ∀ b off, (some ⟨w6.heap.size, 0, none⟩ : Option Addr) = some ⟨b, off, none⟩ → b ∉ [rB]) := Lib.hid (.inr fun b off hb => by injection hb with hb; injection hb with hb; have := HM6.out.r.ltR; simp; omega)
                                 clear hd6 hb6)
                              | (go_at_call 20; with_reducible refine (rwrite_any _ HMe.out.r x.n HI.out.1 HI.out.2 _ _ _ x.s.data.toList HRow2.out HNe.out).mono ?_; rintro e w7 ⟨rfl, hr7, hb7⟩; have HM7 := Lib.hid (HMe.out.right hr7 hb7 (by intro y hy; simp at hy; omega)); clear hr7 hb7))
                            go_meet
                            exact ⟨_, _, rfl, rfl, rfl, rfl, rfl, HM7.out⟩
                        · have hk4 : (x.kind == 4) = false := by simp [h4]
                          clear h4
                          as_aux_lemma =>
                            go_wp2_with fail
                            go_meet
                            exact ⟨_, _, rfl, rfl, rfl, rfl, rfl, HM4.out⟩
                case rest =>
                  as_aux_lemma =>
                    obtain ⟨wz, d, hwz, rfl, rfl, rfl, rfl, hm⟩ := hcut
                    subst hwz
                    have HM9 := Lib.hid hm
                    clear hm y0 HM4 X4 HOk4 HI HK4 HF2 HSm HSs HGn HGd

                    go_upto_region 43 with fail
                    go_quiet (fail)
                    have HM20 := Lib.hid (HM9.out.fresh (below_drewN _ wz nq))
                    clear HM9
                    generalize wz.drewN nq = wq at *
                    go_wp2_with fail

                    go_loopw [24] (fun t wr => ∃ s : Nat, s ≤ 6 ∧ s ≤ n ∧ t = .int .i64 s ∧ ND w wr dB sB mB rB LB n d d) (fun t _ => 6 - (RowKit.intOf t).toNat)
                    case atStart => exact ⟨0, by omega, by omega, rfl, HM20.out⟩
                    case round =>
                      obtain ⟨s, hs6, hsn, rfl, hm⟩ := hrel
                      have HMq := Lib.hid hm
                      clear hm HM20
                      have hs0 : (0 : Int) ≤ (s : Int) := by omega
                      by_cases hlt : s < n
                      · have hltI : (s : Int) < (n : Int) := by omega
                        by_cases hlt6 : s < 6
                        · have hlt6I : (s : Int) < 6 := by omega
                          cases hdd : d.dead with
                          | false =>
                            have hr : M.reach n d (s : Int) = 0 := by unfold M.reach; rw [hdd, if_neg (by simp), if_neg (by omega)]
                            have HR1 := Lib.hid (read_yes wr HMq.out.l s hr)
                            have HR2 := Lib.hid (fun w' (hb : Below wr.heap.size wr w') => rread_yes w' (HMq.out.fresh hb).r s hr)
                            have Hsl : Hid ((M.seen d s).length = 144) := Lib.hid (M.sure_len HMq.out.l.wf s)
                            have Hst := Lib.hid (And.intro hlt hlt6)
                            clear hr hdd hlt hlt6 hs6 hsn
                            go_wp2_with (first
                              | (go_at_call 25; with_reducible refine HR1.out.mono ?_; rintro e w6 ⟨bR, rfl, hbR, hltR, hrg, hth, hb6⟩
                                 have HB6 := Lib.hid hb6
                                 have HW6 := Lib.hid (And.intro hbR (And.intro hltR hrg))
                                 clear hbR hltR hrg hth hb6)
                              | (go_at_call 26; with_reducible refine (HR2.out _ HB6.out).mono ?_; rintro e w7 ⟨aQ, cQ, rfl, hrow, hb7⟩
                                 have hb67 := But.of_below hb7
                                 have HB7 := Lib.hid (HB6.out.trans (hb7.mono HB6.out.size))
                                 have hrg7 := rangeAt_block HW6.out.2.2 (hb67.block bR HW6.out.2.1 (by simp))
                                 have hlt7 := Nat.lt_of_lt_of_le HW6.out.2.1 hb67.size
                                 have hc1 : (convert 50 9 (.slice (some ⟨bR, 0, none⟩) 144 144)).run Tryz.prog w7 = .ok (.string (str (M.seen d s))) w7 := by
                                   have h1 := conv_take (k := 144) hrg7 hlt7 Hsl.out (by omega)
                                   rw [List.take_of_length_le (by have := Hsl.out; omega)] at h1
                                   exact h1
                                 have hc2 := conv_row hrow
                                 have HM7 := Lib.hid (HMq.out.fresh HB7.out)
                                 clear hrow hb7 hb67 hrg7 hlt7))
                            clear hc1 hc2 HR1 HR2 HB6 HB7 HW6
                            go_roundw
                            case rel => exact ⟨s + 1, by have := Hst.out; omega, by have := Hst.out; omega, by go_num, HM7.out⟩
                            case measure => have := Hst.out; simp [RowKit.intOf]; omega
                          | true =>
                            have hr : M.reach n d (s : Int) = 30 := by unfold M.reach; rw [hdd, if_pos rfl]
                            have HR1 := Lib.hid (read_no wr HMq.out.l s (by omega) (by have := HN.out; omega) (by rw [hr]; decide))
                            have HR2 := Lib.hid (rread_no wr HMq.out.r s (by omega) (by have := HN.out; omega) (by rw [hr]; decide))
                            rw [hr] at HR1 HR2
                            have hc1 := conv_row (l := []) (row_nil wr)
                            have Hst := Lib.hid (And.intro hlt hlt6)
                            clear hr hdd hlt hlt6 hs6 hsn
                            go_wp2_with (first
                              | (go_at_call 25; with_reducible refine HR1.out.mono ?_; rintro e w6 ⟨rfl, rfl⟩)
                              | (go_at_call 26; with_reducible refine HR2.out.mono ?_; rintro e w7 ⟨rfl, rfl⟩))
                            clear hc1 HR1 HR2
                            go_roundw
                            case rel => exact ⟨s + 1, by have := Hst.out; omega, by have := Hst.out; omega, by go_num, HMq.out⟩
                            case measure => have := Hst.out; simp [RowKit.intOf]; omega
                        · have hlt6I : ¬ (s : Int) < 6 := by omega
                          clear hlt hlt6 hs6 hsn
                          go_wp2_with fail
                          go_roundw
                          case rel => exact ⟨k + 1, d, by have := HKn.out; omega, by have := HKn.out; omega, by go_num, rfl, rfl, rfl, rfl, HMq.out⟩
                          case measure => have := HKn.out; simp [RowKit.intOf]; omega
                      · have hltI : ¬ (s : Int) < (n : Int) := by omega
                        clear hlt hs6 hsn
                        go_wp2_with fail
                        go_roundw
                        case rel => exact ⟨k + 1, d, by have := HKn.out; omega, by have := HKn.out; omega, by go_num, rfl, rfl, rfl, rfl, HMq.out⟩
                        case measure => have := HKn.out; simp [RowKit.intOf]; omega

set_option maxRecDepth 100000 in
theorem lifted (os : Os) (started : os.Started) (H : Type) (enc : TypeId × Value → H) :
    ReturnsInHanded {} Tryz.checked os 3 .any (Rows.witnessDoesSpec.pre6 enc Tryz.prog Tryz.f3 Rows.witnessDoesRow.domain false) (Rows.witnessDoesSpec.post enc Tryz.prog Tryz.f3 false true false false) := by
  refine returnsInHanded_of_change (C := Tryz.checked) own started (by kernel_rfl) Tryz.func3
    (ChangeSpec.witness6 (enc := enc) (C := Tryz.checked) false ⟨#[], #[.int .i64 0, .int .i64 0, .int .i64 0, .int .i64 0, .slice none 0 0], []⟩ 8 (by kernel_rfl) (by kernel_rfl) (by kernel_rfl) (by kernel_rfl)) ?_
  intro W base args ds gs before hval0 hW hcnd _
  have hval : ∀ (j : Nat) t v, Tryz.f3.params[j]? = some t → args[j]? = some v → Value.okWide Tryz.prog W .any base t v := hval0
  have hW' := hW
  obtain ⟨p, q, hA0, hV, rfl, hfz, hnd⟩ := hW
  have hA : DataW.TrodAll enc Tryz.prog W 0 (fun _ => true) true Tryz.f3.params.toList args.toList ds p := hA0
  rw [Tryz.params3] at hA hval
  obtain ⟨v0, vs0, d0, ds0, p0, q0, hargs, rfl, rfl, h0, r0'⟩ := trodAll_cons hA
  obtain ⟨v1, vs1, d1, ds1, p1, q1, rfl, rfl, rfl, h1, r1'⟩ := trodAll_cons r0'
  obtain ⟨v2, vs2, d2, ds2, p2, q2, rfl, rfl, rfl, h2, r2'⟩ := trodAll_cons r1'
  obtain ⟨v3, vs3, d3, ds3, p3, q3, rfl, rfl, rfl, h3, r3'⟩ := trodAll_cons r2'
  obtain ⟨v4, vs4, d4, ds4, p4, q4, rfl, rfl, rfl, h4, r4'⟩ := trodAll_cons r3'
  obtain ⟨rfl, rfl, rfl⟩ := trodAll_nil r4'
  obtain rfl : args = #[v0, v1, v2, v3, v4] := by cases args; simp_all
  obtain ⟨rfl, rfl⟩ := trodVars_none hV
  obtain ⟨x0, rfl, rfl, rfl, w0⟩ := open_int Tryz.underlying3 (hval 0 3 v0 rfl rfl) h0
  obtain ⟨x1, rfl, rfl, rfl, w1⟩ := open_int Tryz.underlying3 (hval 1 3 v1 rfl rfl) h1
  obtain ⟨x2, rfl, rfl, rfl, w2⟩ := open_int Tryz.underlying3 (hval 2 3 v2 rfl rfl) h2
  obtain ⟨x3, rfl, rfl, rfl, w3⟩ := open_int Tryz.underlying2 (hval 3 2 v3 rfl rfl) h3
  have k4 := h4
  have lt4 : ∀ x ∈ p4, x.block < W.heap.size := by obtain ⟨m, hm⟩ := k4; exact DataW.trod_lt m _ _ _ hm
  obtain ⟨a4, n4, c4, l4, rfl, w4⟩ := Wt.open_acts h4 (okWide_slice Tryz.underlying22 (hval 4 22 v4 rfl rfl))
  clear hA0 hval0
  refine (walk x0 x1 x2 x3 a4 n4 c4 l4 W w0 w1 w2 w3 w4).mono fun e W' ⟨he, bel⟩ => ?_
  subst he
  exact ⟨_, rfl, _, _, _, [], _, [], hW', trodAll_mk1 (shut_bool Tryz.underlying4 _), (trodAll_cons_mk (shut_int Tryz.underlying3 w0) (trodAll_cons_mk (shut_int Tryz.underlying3 w1) (trodAll_cons_mk (shut_int Tryz.underlying3 w2) (trodAll_cons_mk (shut_int Tryz.underlying2 w3) (trodAll_cons_mk (Below.trod laidOut (by kernel_rfl) (of_decide_eq_true (by kernel_rfl)) k4 bel lt4) trodAll_mk0))))), rfl, bel.frame _, fun h => by cases h⟩

theorem over : Rows.witnessDoesRow.holds Tryz.pinned (OpenSpec.ofChange Rows.witnessDoesSpec) :=
  OpenClaim.holds_of_wide 3 Tryz.f3 rfl rfl rfl rfl rfl rfl rfl ⟨rfl, rfl, rfl, rfl, rfl⟩ rfl rfl rfl rfl rfl (by kernel_rfl) Tryz.func3 (by kernel_rfl)
    (of_decide_eq_true (by kernel_rfl)) (by unfold Func.isWrapper; first | (rw [if_pos (by decide +kernel)]; kernel_rfl) | (rw [if_neg (by decide +kernel)]; exact ⟨rfl, rfl⟩))
    (fun os started H enc _ => lifted os started H enc)

/-- the statement -/
theorem proved : Rows.WitnessDoesSaid := over
#print axioms proved
end Go.Proofs.YtpoolpckabpnfaaGreat.witnessDoes
