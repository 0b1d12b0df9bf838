/-
  PROVED: the mask is never empty; it changes by a change of who holds the epoch, or by a node that has lost all, which is out of it then; who isn't in it is granted nothing. CONDITIONS: none (any number that tells how long is waited; any acts, of which up to 100 are done; without failures).
-/
import Derived.Test.YtpoolpckabpnfaaWtRun
import Derived.BigQuiet
import Derived.Deep.RegionHeld3
import Derived.Deep.DeepCutAuto
namespace Go.Proofs.Ytpoolpckabpnfaa.witnessMasks
open Go.ChangeShapes Go.WideShapes Go.ChangeAt Go.RowKit Go.Joins
open Go.ChangeMaps (open_string shut_string)
set_option linter.unusedVariables false
set_option linter.unusedSimpArgs false
set_option maxRecDepth 20000

open Wt
open Ml (Mg may msgV MB)
section
variable {ops : Array Oper} {rest : List Oper} {o : Oper} {a : Act} {Q : Exit → Act → World → Prop}
theorem wpList_loadG {w : World} (hw : Region.wanted o (yielded ops a.tmps) = true) (x : Operand) (ho : o.op = .load 38 x) (b off : Nat) (hx : a.eval x = .pointer (some ⟨b, off, none⟩)) (y : Ac) (hc : w.rangeAt b off y.cells)
    (h : wpList Try.prog ops Q rest (a.put o.dst (actV y)) w) : wpList Try.prog ops Q (o :: rest) a w :=
  BigFrame.wpList_want hw fun _ hK => wp_load_mid 38 x ho b off hx y.cells _ hc Try.underlying38 rfl (by rw [act_size, y.len]) (hK _ _ h)
end

set_option maxHeartbeats 4000000 in
theorem walk (x0 : Int) (a1 : Option Addr) (n1 c1 : Nat) (l1 : List Wt.Ac) (w : World) (w0 : (Lit.int .u8 x0).wf = true) (w1 : Wt.Acts w a1 n1 c1 l1) :
    Calls Try.prog 4 #[.int .u8 x0, .slice a1 n1 c1] w fun e w' => e = .returned (.bool true) ∧ Below w.heap.size w w' := by
  have hx := u8_in w0
  obtain ⟨W, hW⟩ : ∃ W, W = x0 % 20 + 1 := ⟨_, rfl⟩
  have HA := Lib.hid (awake_any w)
  have HB := Lib.hid (fun (wv : World) (hv : Below w.heap.size w wv) => begin_any w wv hv hx hW)
  have HW := Lib.hid w1
  have hcap : n1 ≤ 9223372036854775807 := by have := w1.2.1; have := w1.2.2.1; simp only [maxLen] at this; omega
  have hW1 : 1 ≤ W := by omega
  have hW2 : W ≤ 20 := by omega
  clear w0 w1 hx hW
  go_enter Try.func4, Try.ntmps4
  go_wp2_with (first
    | (go_at_call 8; with_reducible refine HA.out.mono ?_; rintro e w1 ⟨rfl, hb1⟩
       have HB1 := Lib.hid hb1
       clear hb1)
    | (go_at_call 9; with_reducible refine (HB.out _ HB1.out).mono ?_; rintro e w2 ⟨gB, pB, dB, sB, mB, tB0, cB0, rfl, hl, hge⟩
       have HGe := Lib.hid hge
       have HL0 := Lib.hid hl
       have q1 := hl.lf.cell 1
       have q2 := hl.lf.cell 2
       simp only [lfC, List.getElem?_toArray, List.getElem?_cons_zero, List.getElem?_cons_succ] at q1 q2
       clear hl hge))
  clear HA HB HB1 q1 q2

  go_loopw [6] (fun iv wr => ∃ (k : Nat) (d : M.Dv) (c : M.Cl) (L : Int) (N : Nat) (E : Int → Option Int), k ≤ n1 ∧ k ≤ 100 ∧ iv = .int .i64 (k : Int) ∧ N ≤ k ∧ LF w wr gB pB dB sB mB d tB0 cB0 c L W N E) (fun iv _ => 100 - (intOf iv).toNat)
  case atStart => exact ⟨0, _, _, _, _, _, by omega, by omega, rfl, by omega, HL0.out⟩
  case round =>
    obtain ⟨k, d, c, L, N, E, hk1, hk2, rfl, hN, hr⟩ := hrel
    clear HL0
    have HR := Lib.hid hr
    have HN := Lib.hid hN
    have HGm : Hid (wr.heap.size ∉ gB :: pB :: ours dB sB mB cB0 tB0) := Lib.hid (hr.not_mem (Nat.le_refl _))
    clear hr hN
    by_cases hlt : k < n1 ∧ k < 100
    · have g1 : (k : Int) < (n1 : Int) := by omega
      have g2 : (k : Int) < 100 := by omega
      have g0 : (0 : Int) ≤ (k : Int) := by omega
      obtain ⟨b, off, x, rfl, _, hok, hb, hc⟩ := acts_at HW.out (HR.out.be HGe.out) (show k < n1 by omega)
      have HOk := Lib.hid hok.2.1
      have HLg := Lib.hid (fun w' => large_any w' x)
      have HRg : Hid (wr.rangeAt b (off + k * 18) x.cells) := Lib.hid (fun j v hv => by rw [Nat.add_assoc]; exact hc j v hv)
      obtain ⟨y0, y1, y2, y3, y4, y5, y6, y7, y8, y9, y10, y11, y12, y13, y14, y15, y16, y17⟩ := act18 hc
      clear hc hok
      obtain ⟨lg, hlg⟩ : ∃ lg, decide (Lrg x) = lg := ⟨_, rfl⟩
      rw [hlg] at HLg
      have HK : Hid (k < n1 ∧ k < 100) := Lib.hid hlt
      have Hlg := Lib.hid hlg
      clear hlt hk1 hk2 hlg
      clear y0 y1 y2 y3 y4 y5 y6 y7 y8 y9 y10 y11 y12 y13 y14 y15 y16 y17
      cases lg with
      | true =>
        go_wp2_with (first
          | (refine wpList_loadA rfl _ rfl b (off + k * 18) rfl x HRg.out ?_)
          | (refine wpList_allocA rfl rfl ?_; intro v1 hv1; have X0 := Lib.hid (hv1 ▸ XA.new wr az : XA v1 wr.heap.size az); have B0 := Lib.hid (hv1 ▸ (Below.refl wr.heap.size wr).alloc (Nat.le_refl _) _ : Below wr.heap.size wr v1); clear hv1)
          | (refine wpList_storeA rfl _ _ rfl wr.heap.size rfl x rfl X0.out.there ?_; intro v2 hv2; have X1 := Lib.hid (hv2 ▸ X0.out.store x : XA v2 wr.heap.size x); have B1 := Lib.hid (hv2 ▸ belowA_setCells (Nat.le_refl _) _ _ B0.out : Below wr.heap.size wr v2); have R1 := Lib.hid (HR.out.below B1.out)
             have q1 := R1.out.lf.cell 1
             simp only [lfC, List.getElem?_toArray, List.getElem?_cons_zero, List.getElem?_cons_succ] at q1
             clear hv2)
          | (refine wpList_loadG (by rfl) _ rfl wr.heap.size 0 rfl x X1.out.range ?_)
          | (go_at_call 10; with_reducible refine (HLg.out _).mono ?_; rintro e w4 ⟨rfl, hb4⟩
             have R4 := Lib.hid (R1.out.below hb4)
             have X4 := Lib.hid (X1.out.below hb4 X1.out.lt)
             have a0 := X4.out.cell 0
             simp only [Ac.cells, List.getElem?_cons_zero, List.getElem?_cons_succ] at a0
             have q1' := R4.out.lf.cell 1
             simp only [lfC, List.getElem?_toArray, List.getElem?_cons_zero, List.getElem?_cons_succ] at q1'
             clear hb4))
        go_ret
        exact ⟨rfl, R4.out.be HGe.out⟩
      | false =>
        by_cases hk : x.kind ≤ 1
        · have gk : ¬ 1 < x.kind := by omega
          have HDo := Lib.hid (fun (w' : World) (h : LF w w' gB pB dB sB mB d tB0 cB0 c L W N E) => do01 h x hk (by have := HN.out; have := HK.out; omega) HOk.out)
          obtain ⟨M1, M2, M3⟩ := @st_masks x d c L HR.out.fi
          have hok0 := (fx_ok c.text).2.2.1
          have hok2 := (fx_ok (stC x d c L).text).2.2.1
          have HEp := Lib.hid (fun (w' : World) (L' : Int) (h : WS w' dB sB mB 2 d tB0 cB0 0 1 c L' W) => epoch_any w' h)
          have HHo := Lib.hid (fun (w' : World) (L' : Int) (h : WS w' dB sB mB 2 d tB0 cB0 0 1 c L' W) => holder_any w' h)
          have HMa := Lib.hid (fun (w' : World) (L' : Int) (h : WS w' dB sB mB 2 d tB0 cB0 0 1 c L' W) => mask_any w' h)
          have HM2 := Lib.hid (fun (w' : World) (d' : M.Dv) (L' : Int) (h : WS w' dB sB mB 2 d' tB0 cB0 0 1 (stC x d c L) L' W) => mask_any w' h)
          generalize stA x d c L = A at *
          generalize stI x d c L = I at *
          generalize stL x d c L W = L2 at *
          generalize stD x d c L = d2 at *
          generalize stC x d c L = c2 at *
          obtain ⟨ak, aep, asq, aN, ab, acl, ae, at0, at1, at2, at3, adt, arw⟩ := A
          simp only [msgV, Mg.cells] at HDo
          generalize (fx c2.text).ma = ma2 at *
          obtain ⟨Y, hY⟩ : ∃ Y, fx c.text = Y := ⟨_, rfl⟩
          rw [hY] at HEp HHo HMa M2 M3 hok0
          clear hY
          obtain ⟨ep, ho, ma, ch⟩ := Y
          simp only at HEp HHo HMa M1 M2 M3 hok0
          have HIn := Lib.hid (fun w' => in_any w' (fr := x.fr) hok0)
          have HIn2 := Lib.hid (fun w' => in_any w' (fr := x.fr) hok2)
          have n1' : ¬ ma2 < 1 := by omega
          have n2' : ¬ 3 < ma2 := by omega
          clear hok0 hok2 hk
          go_upto_region 11 with (first
            | (refine wpList_loadA rfl _ rfl b (off + k * 18) rfl x HRg.out ?_)
            | (refine wpList_allocA rfl rfl ?_; intro v1 hv1; have X0 := Lib.hid (hv1 ▸ XA.new wr az : XA v1 wr.heap.size az); have B0 := Lib.hid (hv1 ▸ (Below.refl wr.heap.size wr).alloc (Nat.le_refl _) _ : Below wr.heap.size wr v1); clear hv1)
            | (refine wpList_storeA rfl _ _ rfl wr.heap.size rfl x rfl X0.out.there ?_; intro v2 hv2; have X1 := Lib.hid (hv2 ▸ X0.out.store x : XA v2 wr.heap.size x); have B1 := Lib.hid (hv2 ▸ belowA_setCells (Nat.le_refl _) _ _ B0.out : Below wr.heap.size wr v2); have R1 := Lib.hid (HR.out.below B1.out)
               have q1 := R1.out.lf.cell 1
               simp only [lfC, List.getElem?_toArray, List.getElem?_cons_zero, List.getElem?_cons_succ] at q1
               clear hv2)
            | (refine wpList_loadG (by rfl) _ rfl wr.heap.size 0 rfl x X1.out.range ?_)
            | (go_at_call 10; with_reducible refine (HLg.out _).mono ?_; rintro e w4 ⟨rfl, hb4⟩
               have R4 := Lib.hid (R1.out.below hb4)
               have X4 := Lib.hid (X1.out.below hb4 X1.out.lt)
               have a0 := X4.out.cell 0
               simp only [Ac.cells, List.getElem?_cons_zero, List.getElem?_cons_succ] at a0
               clear hb4))
          have q1' := R4.out.lf.cell 1
          simp only [lfC, List.getElem?_toArray, List.getElem?_cons_zero, List.getElem?_cons_succ] at q1'
          have HQ : Hid (∀ w', Below w4.heap.size w4 w' → w'.cell? ⟨gB, 1, none⟩ = some (.pointer (some ⟨tB0, 0, none⟩)) ∧ LF w w' gB pB dB sB mB d tB0 cB0 c L W N E ∧ XA w' wr.heap.size x) := Lib.hid fun w' hb => ⟨(R4.out.lf.below hb R4.out.lf.lt).cell 1, R4.out.below hb, X4.out.below hb X4.out.lt⟩
          go_region_held3 (fun w' => w'.cell? ⟨gB, 1, none⟩ = some (.pointer (some ⟨tB0, 0, none⟩)))
            (first
              | with_reducible exact q1'
              | exact (HQ.out _ (Below.refl _ _).drew).1
              | exact (HQ.out _ C1.out).1
              | exact (HQ.out _ C2.out).1
              | exact (HQ.out _ C3.out).1)
            (first
              | (go_at_call 13; with_reducible refine (HMa.out _ _ (HQ.out w4.drew (Below.refl _ _).drew).2.1.ws).mono ?_; rintro e v1 ⟨rfl, hb⟩
                 have C1 : Hid (Below w4.heap.size w4 v1) := Lib.hid ((Below.refl _ _).drew.trans hb)
                 clear hb)
              | (go_at_call 14; with_reducible refine (HHo.out _ _ (HQ.out _ C1.out).2.1.ws).mono ?_; rintro e v2 ⟨rfl, hb⟩
                 have C2 : Hid (Below w4.heap.size w4 v2) := Lib.hid (C1.out.trans (hb.mono C1.out.size))
                 clear hb)
              | (go_at_call 12; with_reducible refine (HEp.out _ _ (HQ.out _ C2.out).2.1.ws).mono ?_; rintro e v3 ⟨rfl, hb⟩
                 have C3 : Hid (Below w4.heap.size w4 v3) := Lib.hid (C2.out.trans (hb.mono C2.out.size))
                 clear hb))
          have R7 := Lib.hid (HQ.out _ C3.out).2.1
          have X7 := Lib.hid (HQ.out _ C3.out).2.2
          clear HQ C1 C2 C3 R4 X4 R1 X1 q1 q1' a0 HLg HRg
          go_upto_region 12 with fail
          go_cut [12, 11] (fun iv pv wx => iv = .bool I ∧ ∃ g N2 E2, pv = .pointer (some ⟨g, 0, none⟩) ∧ MB wx g ⟨ak, aep, asq, aN, ab, acl, ae, at0, at1, at2, at3, adt, arw⟩ ∧ XA wx wr.heap.size x ∧ N2 ≤ N + 1 ∧ LF w wx gB pB dB sB mB d2 tB0 cB0 c2 L2 W N2 E2)
          case first =>
            go_wp2_with (first
              | (refine wpList_loadA rfl _ rfl wr.heap.size 0 rfl x X7.out.range ?_)
              | (go_at_call 11; with_reducible refine (HDo.out _ R7.out).mono ?_; rintro e w5 ⟨rfl, N2, E2, hN2, hbm, hr5⟩
                 have HN2 := Lib.hid hN2
                 have hb5 := (Below.refl w5.heap.size w5).alloc (Nat.le_refl _) (.cells #[.int .i64 ak, .int .i64 aep, .int .i64 asq, .int .i64 aN, .int .i64 ab, .int .i64 acl, .int .i64 ae, .int .i64 at0, .int .i64 at1, .int .i64 at2, .int .i64 at3, .string adt, .string arw] 35)
                 have R5 := Lib.hid (hr5.below hb5)
                 have M5 := MB.new w5 ⟨ak, aep, asq, aN, ab, acl, ae, at0, at1, at2, at3, adt, arw⟩
                 have X5 := (X7.out.but hbm HGm.out).below hb5 (Nat.lt_of_lt_of_le X7.out.lt hbm.size)
                 have M6 := Lib.hid M5
                 have X6 := Lib.hid X5
                 have q1 := R5.out.lf.cell 1
                 simp only [lfC, List.getElem?_toArray, List.getElem?_cons_zero, List.getElem?_cons_succ] at q1
                 clear hr5 hb5 hbm M5 X5))
            go_meet
            exact ⟨rfl, w5.heap.size, N2, E2, rfl, M6.out, X6.out, HN2.out, R5.out⟩
          case rest =>
            obtain ⟨rfl, g, N2, E2, rfl, hm, hxa, hn2, hlf⟩ := hcut
            have HN2 := Lib.hid hn2
            have R6 := Lib.hid hlf
            have M6 := Lib.hid hm
            have X6 := Lib.hid hxa
            have q1 := hlf.lf.cell 1
            simp only [lfC, List.getElem?_toArray, List.getElem?_cons_zero, List.getElem?_cons_succ] at q1
            clear hm hxa hn2 hlf
            go_upto_region 14 with (first
              | (go_at_call 13; with_reducible refine (HM2.out _ _ _ R6.out.ws).mono ?_; rintro e w6 ⟨rfl, hb⟩
                 have R8 := Lib.hid (R6.out.below hb)
                 have M8 := Lib.hid (M6.out.below hb M6.out.lt)
                 have X8 := Lib.hid (X6.out.below hb X6.out.lt)
                 clear hb))
            clear q1 R6 M6 X6
            have a2 := X8.out.cell 2
            have a3 := X8.out.cell 3
            have a4 := X8.out.cell 4
            simp only [Ac.cells, List.getElem?_cons_zero, List.getElem?_cons_succ] at a2 a3 a4
            have b0 := M8.out.cell 0
            have b2 := M8.out.cell 2
            have b6 := M8.out.cell 6
            simp only [Mg.cells, List.getElem?_toArray, List.getElem?_cons_zero, List.getElem?_cons_succ] at b0 b2 b6
            have z1 : ((ma2 : Int) != ma2) = false := by simp
            cases I with
            | false =>
              have hmm : ma2 = ma := Decidable.byContradiction fun h => by have := (M2 h).1; simp at this
              subst hmm
              clear M1 M2 M3
              as_aux_lemma =>
                go_wp2_with fail
                go_roundw
                case rel => exact ⟨k + 1, _, _, _, _, _, by have := HK.out; omega, by have := HK.out; omega, by go_num, by have := HN.out; have := HN2.out; omega, R8.out⟩
                case measure => have := HK.out; simp [intOf]; omega
            | true =>
              have hsq : asq = ma2 := M1 rfl
              subst hsq
              clear M1
              by_cases hmm : asq = ma
              · subst hmm
                by_cases h2 : ak = 2
                · subst h2
                  by_cases h6 : ae = 0
                  · subst h6
                    have h3 := M3 rfl rfl rfl
                    rw [h3] at HIn
                    clear M2 M3 h3
                    as_aux_lemma =>
                      go_wp2_with (first
                        | (go_at_call 15; with_reducible refine (HIn.out _).mono ?_; rintro e v ⟨rfl, rfl⟩)
                        | (go_at_call 15; with_reducible refine (HIn2.out _).mono ?_; rintro e v ⟨rfl, rfl⟩))
                      go_roundw
                      case rel => exact ⟨k + 1, _, _, _, _, _, by have := HK.out; omega, by have := HK.out; omega, by go_num, by have := HN.out; have := HN2.out; omega, R8.out⟩
                      case measure => have := HK.out; simp [intOf]; omega
                  · have h6' : (ae == 0) = false := by rw [beq_eq_false_iff_ne]; exact h6
                    clear M2 M3 h6
                    as_aux_lemma =>
                      go_wp2_with (go_at_call 15; with_reducible refine (HIn2.out _).mono ?_; rintro e v ⟨rfl, rfl⟩)
                      go_roundw
                      case rel => exact ⟨k + 1, _, _, _, _, _, by have := HK.out; omega, by have := HK.out; omega, by go_num, by have := HN.out; have := HN2.out; omega, R8.out⟩
                      case measure => have := HK.out; simp [intOf]; omega
                · have h2' : (ak == 2) = false := by rw [beq_eq_false_iff_ne]; exact h2
                  clear M2 M3 h2
                  as_aux_lemma =>
                    go_wp2_with (go_at_call 15; with_reducible refine (HIn2.out _).mono ?_; rintro e v ⟨rfl, rfl⟩)
                    go_roundw
                    case rel => exact ⟨k + 1, _, _, _, _, _, by have := HK.out; omega, by have := HK.out; omega, by go_num, by have := HN.out; have := HN2.out; omega, R8.out⟩
                    case measure => have := HK.out; simp [intOf]; omega
              · have z2 : ((asq : Int) != ma) = true := by rw [bne_iff_ne]; exact hmm
                obtain ⟨_, hw⟩ := M2 hmm
                rcases hw with ⟨k1, k2, k3, k4⟩ | ⟨k1, k2⟩
                · have j1 : (x.m.kind == 3) = true := by simpa using k1
                  have j2 : (x.m.kind == 4) = false := by rw [beq_eq_false_iff_ne]; omega
                  have j3 : (x.fr == ho) = true := by simpa using k2
                  have j4 : (x.m.epoch == ep) = true := by simpa using k3
                  subst k4
                  clear k1 k2 k3 hmm
                  by_cases h2 : ak = 2
                  · subst h2
                    have h3 := M3 rfl rfl rfl
                    rw [h3] at HIn
                    clear M2 M3 h3
                    as_aux_lemma =>
                      go_wp2_with (first
                        | (go_at_call 15; with_reducible refine (HIn.out _).mono ?_; rintro e v ⟨rfl, rfl⟩)
                        | (go_at_call 15; with_reducible refine (HIn2.out _).mono ?_; rintro e v ⟨rfl, rfl⟩))
                      go_roundw
                      case rel => exact ⟨k + 1, _, _, _, _, _, by have := HK.out; omega, by have := HK.out; omega, by go_num, by have := HN.out; have := HN2.out; omega, R8.out⟩
                      case measure => have := HK.out; simp [intOf]; omega
                  · have h2' : (ak == 2) = false := by rw [beq_eq_false_iff_ne]; exact h2
                    clear M2 M3 h2
                    as_aux_lemma =>
                      go_wp2_with (go_at_call 15; with_reducible refine (HIn2.out _).mono ?_; rintro e v ⟨rfl, rfl⟩)
                      go_roundw
                      case rel => exact ⟨k + 1, _, _, _, _, _, by have := HK.out; omega, by have := HK.out; omega, by go_num, by have := HN.out; have := HN2.out; omega, R8.out⟩
                      case measure => have := HK.out; simp [intOf]; omega
                · have j1 : (x.m.kind == 4) = true := by simpa using k1
                  have j2 : (x.m.kind == 3) = false := by rw [beq_eq_false_iff_ne]; omega
                  rw [k2] at HIn2
                  clear k1 k2 hmm
                  by_cases h2 : ak = 2
                  · subst h2
                    by_cases h6 : ae = 0
                    · subst h6
                      have h3 := M3 rfl rfl rfl
                      rw [h3] at HIn
                      clear M2 M3 h3
                      as_aux_lemma =>
                        go_wp2_with (first
                          | (go_at_call 15; with_reducible refine (HIn.out _).mono ?_; rintro e v ⟨rfl, rfl⟩)
                          | (go_at_call 15; with_reducible refine (HIn2.out _).mono ?_; rintro e v ⟨rfl, rfl⟩))
                        go_roundw
                        case rel => exact ⟨k + 1, _, _, _, _, _, by have := HK.out; omega, by have := HK.out; omega, by go_num, by have := HN.out; have := HN2.out; omega, R8.out⟩
                        case measure => have := HK.out; simp [intOf]; omega
                    · have h6' : (ae == 0) = false := by rw [beq_eq_false_iff_ne]; exact h6
                      clear M2 M3 h6
                      as_aux_lemma =>
                        go_wp2_with (go_at_call 15; with_reducible refine (HIn2.out _).mono ?_; rintro e v ⟨rfl, rfl⟩)
                        go_roundw
                        case rel => exact ⟨k + 1, _, _, _, _, _, by have := HK.out; omega, by have := HK.out; omega, by go_num, by have := HN.out; have := HN2.out; omega, R8.out⟩
                        case measure => have := HK.out; simp [intOf]; omega
                  · have h2' : (ak == 2) = false := by rw [beq_eq_false_iff_ne]; exact h2
                    clear M2 M3 h2
                    as_aux_lemma =>
                      go_wp2_with (go_at_call 15; with_reducible refine (HIn2.out _).mono ?_; rintro e v ⟨rfl, rfl⟩)
                      go_roundw
                      case rel => exact ⟨k + 1, _, _, _, _, _, by have := HK.out; omega, by have := HK.out; omega, by go_num, by have := HN.out; have := HN2.out; omega, R8.out⟩
                      case measure => have := HK.out; simp [intOf]; omega
        · have gk : 1 < x.kind := by omega
          as_aux_lemma =>
            go_wp2_with (first
              | (refine wpList_loadA rfl _ rfl b (off + k * 18) rfl x HRg.out ?_)
              | (refine wpList_allocA rfl rfl ?_; intro v1 hv1; have X0 := Lib.hid (hv1 ▸ XA.new wr az : XA v1 wr.heap.size az); have B0 := Lib.hid (hv1 ▸ (Below.refl wr.heap.size wr).alloc (Nat.le_refl _) _ : Below wr.heap.size wr v1); clear hv1)
              | (refine wpList_storeA rfl _ _ rfl wr.heap.size rfl x rfl X0.out.there ?_; intro v2 hv2; have X1 := Lib.hid (hv2 ▸ X0.out.store x : XA v2 wr.heap.size x); have B1 := Lib.hid (hv2 ▸ belowA_setCells (Nat.le_refl _) _ _ B0.out : Below wr.heap.size wr v2); have R1 := Lib.hid (HR.out.below B1.out)
                 have q1 := R1.out.lf.cell 1
                 simp only [lfC, List.getElem?_toArray, List.getElem?_cons_zero, List.getElem?_cons_succ] at q1
                 clear hv2)
              | (refine wpList_loadG (by rfl) _ rfl wr.heap.size 0 rfl x X1.out.range ?_)
              | (go_at_call 10; with_reducible refine (HLg.out _).mono ?_; rintro e w4 ⟨rfl, hb4⟩
                 have R4 := Lib.hid (R1.out.below hb4)
                 have X4 := Lib.hid (X1.out.below hb4 X1.out.lt)
                 have a0 := X4.out.cell 0
                 simp only [Ac.cells, List.getElem?_cons_zero, List.getElem?_cons_succ] at a0
                 clear hb4))
            go_roundw
            case rel => exact ⟨k + 1, _, _, _, _, _, by have := HK.out; omega, by have := HK.out; omega, by go_num, by have := HN.out; omega, R4.out⟩
            case measure => have := HK.out; simp [intOf]; omega
    · have hnone : True := trivial
      have hnot : (¬ k < n1) ∨ (k < n1 ∧ ¬ k < 100) := by omega
      rcases hnot with h9 | ⟨h8, h9⟩
      · have g1 : decide ((k : Int) < (n1 : Int)) = false := by simpa using h9
        go_wp2
        go_ret
        exact ⟨rfl, HR.out.be HGe.out⟩
      · have g1 : (k : Int) < (n1 : Int) := by omega
        have g2 : decide ((k : Int) < 100) = false := by simp; omega
        go_wp2
        go_ret
        exact ⟨rfl, HR.out.be HGe.out⟩

set_option maxRecDepth 100000 in
theorem lifted (os : Os) (started : os.Started) (H : Type) (enc : TypeId × Value → H) :
    ReturnsInHanded {} Try.checked os 4 .any (Rows.witnessMasksSpec.pre6 enc Try.prog Try.f4 Rows.witnessMasksRow.domain false) (Rows.witnessMasksSpec.post enc Try.prog Try.f4 false true false false) := by
  refine returnsInHanded_of_change (C := Try.checked) own started (by kernel_rfl) Try.func4
    (ChangeSpec.witness6 (enc := enc) (C := Try.checked) false ⟨#[], #[.int .u8 0, .slice none 0 0], []⟩ 8 (by kernel_rfl) (by kernel_rfl) (by kernel_rfl) (by kernel_rfl)) ?_
  intro W base args ds gs before hval0 hW hcnd _
  have hval : ∀ (j : Nat) t v, Try.f4.params[j]? = some t → args[j]? = some v → Value.okWide Try.prog W .any base t v := hval0
  have hW' := hW
  obtain ⟨p, q, hA0, hV, rfl, hfz, hnd⟩ := hW
  have hA : DataW.TrodAll enc Try.prog W 0 (fun _ => true) true Try.f4.params.toList args.toList ds p := hA0
  rw [Try.params4] at hA hval
  obtain ⟨v0, vs0, d0, ds0, p0, q0, hargs, rfl, rfl, h0, r0'⟩ := trodAll_cons hA
  obtain ⟨v1, vs1, d1, ds1, p1, q1, rfl, rfl, rfl, h1, r1'⟩ := trodAll_cons r0'
  obtain ⟨rfl, rfl, rfl⟩ := trodAll_nil r1'
  obtain rfl : args = #[v0, v1] := by cases args; simp_all
  obtain ⟨rfl, rfl⟩ := trodVars_none hV
  obtain ⟨x0, rfl, rfl, rfl, w0⟩ := open_int Try.underlying5 (hval 0 5 v0 rfl rfl) h0
  have k1 := h1
  have lt1 : ∀ x ∈ p1, x.block < W.heap.size := by obtain ⟨m, hm⟩ := k1; exact DataW.trod_lt m _ _ _ hm
  obtain ⟨a1, n1, c1, l1, rfl, w1⟩ := Wt.open_acts h1 (okWide_slice Try.underlying22 (hval 1 22 v1 rfl rfl))
  clear hA0 hval0
  refine (walk x0 a1 n1 c1 l1 W w0 w1).mono fun e W' ⟨he, bel⟩ => ?_
  subst he
  exact ⟨_, rfl, _, _, _, [], _, [], hW', trodAll_mk1 (shut_bool Try.underlying4 _), (trodAll_cons_mk (shut_int Try.underlying5 w0) (trodAll_cons_mk (Below.trod laidOut (by kernel_rfl) (of_decide_eq_true (by kernel_rfl)) k1 bel lt1) trodAll_mk0)), rfl, bel.frame _, fun h => by cases h⟩

theorem over : Rows.witnessMasksRow.holds Try.pinned (OpenSpec.ofChange Rows.witnessMasksSpec) :=
  OpenClaim.holds_of_wide 4 Try.f4 rfl rfl rfl rfl rfl rfl rfl ⟨rfl, rfl, rfl, rfl, rfl⟩ rfl rfl rfl rfl rfl (by kernel_rfl) Try.func4 (by kernel_rfl)
    (of_decide_eq_true (by kernel_rfl)) (by unfold Func.isWrapper; first | (rw [if_pos (by decide +kernel)]; kernel_rfl) | (rw [if_neg (by decide +kernel)]; exact ⟨rfl, rfl⟩))
    (fun os started H enc _ => lifted os started H enc)

/-- the statement -/
theorem proved : Rows.WitnessMasksSaid := over
#print axioms proved
end Go.Proofs.Ytpoolpckabpnfaa.witnessMasks
