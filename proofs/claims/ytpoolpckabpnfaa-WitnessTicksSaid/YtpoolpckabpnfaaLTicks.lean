/-
  PROVED: a witness' timer runs out after as many ticks as are waited, and is set anew by a grant alone. CONDITIONS: none (any number that tells how long is waited; any acts, of which up to 100 are done; without failures).
-/
import Derived.Test.YtpoolpckabpnfaaWtRun
import Derived.BigQuiet
import Derived.Deep.RegionHeld3
import Derived.Deep.DeepCutAuto
namespace Go.Proofs.Ytpoolpckabpnfaa.witnessTicks
open Go.ChangeShapes Go.WideShapes Go.ChangeAt Go.RowKit Go.Joins
open Go.ChangeMaps (open_string shut_string)
set_option linter.unusedVariables false
set_option linter.unusedSimpArgs false
set_option maxRecDepth 20000

open Wt
open Ml (Mg may msgV MB)

set_option maxHeartbeats 4000000 in
theorem walk (x0 : Int) (a1 : Option Addr) (n1 c1 : Nat) (l1 : List Wt.Ac) (w : World) (w0 : (Lit.int .u8 x0).wf = true) (w1 : Wt.Acts w a1 n1 c1 l1) :
    Calls Try.prog 7 #[.int .u8 x0, .slice a1 n1 c1] w fun e w' => e = .returned (.bool true) ∧ Below w.heap.size w w' := by
  have hx := u8_in w0
  obtain ⟨W, hW⟩ : ∃ W, W = x0 % 20 + 1 := ⟨_, rfl⟩
  have HA := Lib.hid (awake_any w)
  have HB := Lib.hid (fun (wv : World) (hv : Below w.heap.size w wv) => begin_any w wv hv hx hW)
  have HW := Lib.hid w1
  have hcap : n1 ≤ 9223372036854775807 := by have := w1.2.1; have := w1.2.2.1; simp only [maxLen] at this; omega
  have hW1 : 1 ≤ W := by omega
  have hW2 : W ≤ 20 := by omega
  clear w0 w1 hx hW
  go_enter Try.func7, Try.ntmps7
  go_wp2_with (first
    | (go_at_call 8; with_reducible refine HA.out.mono ?_; rintro e w1 ⟨rfl, hb1⟩
       have HB1 := Lib.hid hb1
       clear hb1)
    | (go_at_call 9; with_reducible refine (HB.out _ HB1.out).mono ?_; rintro e w2 ⟨gB, pB, dB, sB, mB, tB0, cB0, rfl, hl, hge⟩
       have HGe := Lib.hid hge
       have HL0 := Lib.hid hl
       have q1 := hl.lf.cell 1
       have q2 := hl.lf.cell 2
       simp only [lfC, List.getElem?_toArray, List.getElem?_cons_zero, List.getElem?_cons_succ] at q1 q2
       clear hl hge))
  clear HA HB HB1 q1 q2

  go_loopw [6, 7] (fun lv iv wr => ∃ (k : Nat) (d : M.Dv) (c : M.Cl) (L : Int) (N : Nat) (E : Int → Option Int), k ≤ n1 ∧ k ≤ 100 ∧ lv = .int .i64 L ∧ iv = .int .i64 (k : Int) ∧ N ≤ k ∧ LF w wr gB pB dB sB mB d tB0 cB0 c L W N E) (fun _ iv _ => 100 - (intOf iv).toNat)
  case atStart => exact ⟨0, _, _, _, _, _, by omega, by omega, rfl, rfl, by omega, HL0.out⟩
  case round =>
    obtain ⟨k, d, c, L, N, E, hk1, hk2, rfl, rfl, hN, hr⟩ := hrel
    have HLw := Lib.hid hr.ws.lf
    clear HL0
    have HR := Lib.hid hr
    have HN := Lib.hid hN
    have HGm : Hid (wr.heap.size ∉ gB :: pB :: ours dB sB mB cB0 tB0) := Lib.hid (hr.not_mem (Nat.le_refl _))
    clear hr hN
    by_cases hlt : k < n1 ∧ k < 100
    · have g1 : (k : Int) < (n1 : Int) := by omega
      have g2 : (k : Int) < 100 := by omega
      have g0 : (0 : Int) ≤ (k : Int) := by omega
      obtain ⟨b, off, x, rfl, _, hok, hb, hc⟩ := acts_at HW.out (HR.out.be HGe.out) (show k < n1 by omega)
      have HOk := Lib.hid hok.2.1
      have HLg := Lib.hid (fun w' => large_any w' x)
      have HRg : Hid (wr.rangeAt b (off + k * 18) x.cells) := Lib.hid (fun j v hv => by rw [Nat.add_assoc]; exact hc j v hv)
      obtain ⟨y0, y1, y2, y3, y4, y5, y6, y7, y8, y9, y10, y11, y12, y13, y14, y15, y16, y17⟩ := act18 hc
      clear hc hok
      obtain ⟨lg, hlg⟩ : ∃ lg, decide (Lrg x) = lg := ⟨_, rfl⟩
      rw [hlg] at HLg
      have HK : Hid (k < n1 ∧ k < 100) := Lib.hid hlt
      have Hlg := Lib.hid hlg
      clear hlt hk1 hk2 hlg
      clear y0 y1 y2 y3 y4 y5 y6 y7 y8 y9 y10 y11 y12 y13 y14 y15 y16 y17
      cases lg with
      | true =>
        go_wp2_with (first
          | (refine wpList_loadA rfl _ rfl b (off + k * 18) rfl x HRg.out ?_)
          | (refine wpList_allocA rfl rfl ?_; intro v1 hv1; have X0 := Lib.hid (hv1 ▸ XA.new wr az : XA v1 wr.heap.size az); have B0 := Lib.hid (hv1 ▸ (Below.refl wr.heap.size wr).alloc (Nat.le_refl _) _ : Below wr.heap.size wr v1); clear hv1)
          | (refine wpList_storeA rfl _ _ rfl wr.heap.size rfl x rfl X0.out.there ?_; intro v2 hv2; have X1 := Lib.hid (hv2 ▸ X0.out.store x : XA v2 wr.heap.size x); have B1 := Lib.hid (hv2 ▸ belowA_setCells (Nat.le_refl _) _ _ B0.out : Below wr.heap.size wr v2); have R1 := Lib.hid (HR.out.below B1.out)
             have q1 := R1.out.lf.cell 1
             simp only [lfC, List.getElem?_toArray, List.getElem?_cons_zero, List.getElem?_cons_succ] at q1
             clear hv2)
          | (refine wpList_loadA rfl _ rfl wr.heap.size 0 rfl x X1.out.range ?_)
          | (go_at_call 10; with_reducible refine (HLg.out _).mono ?_; rintro e w4 ⟨rfl, hb4⟩
             have R4 := Lib.hid (R1.out.below hb4)
             have X4 := Lib.hid (X1.out.below hb4 X1.out.lt)
             have a0 := X4.out.cell 0
             simp only [Ac.cells, List.getElem?_cons_zero, List.getElem?_cons_succ] at a0
             clear hb4))
        go_ret
        exact ⟨rfl, R4.out.be HGe.out⟩
      | false =>
        by_cases hk : x.kind ≤ 1
        · have gk : ¬ 1 < x.kind := by omega
          have HDo := Lib.hid (fun (w' : World) (h : LF w w' gB pB dB sB mB d tB0 cB0 c L W N E) => do01 h x hk (by have := HN.out; have := HK.out; omega) HOk.out)
          have hL2 := @stL_is x d c L W
          have hI0 : x.kind ≠ 0 → stI x d c L = false := fun h => by unfold stI; rw [if_neg h]
          generalize stA x d c L = A at *
          generalize stI x d c L = I at *
          generalize stL x d c L W = L2 at *
          generalize stD x d c L = d2 at *
          generalize stC x d c L = c2 at *
          obtain ⟨ak, aep, asq, aN, ab, acl, ae, at0, at1, at2, at3, adt, arw⟩ := A
          simp only [msgV, Mg.cells] at HDo
          have HL2 := Lib.hid hL2
          have HI0 := Lib.hid hI0
          clear hL2 hI0
          have hlw := HLw.out
          have hq1 : x.n.tmod 50 < 50 := Int.tmod_lt_of_pos _ (by omega)
          have hq2 : -50 < x.n.tmod 50 := Int.lt_tmod_of_pos _ (by omega)
          have e2 : wrap64 (L - max (x.n.tmod 50) 0) = L - max (x.n.tmod 50) 0 := by unfold wrap64; omega
          have HT : Hid ((tks x.n : Int) = max (x.n.tmod 50) 0) := Lib.hid (by unfold tks; omega)
          by_cases hk1 : x.kind = 1
          · have d1 : (x.kind == 1) = true := by simpa using hk1
            obtain rfl : I = false := HI0.out (by omega)
            obtain rfl : L2 = max (L - max (x.n.tmod 50) 0) 0 := by rw [HL2.out, if_neg (by simp [grants]), if_pos hk1, HT.out]
            have hz : ((max (L - max (x.n.tmod 50) 0) 0 : Int) != max (L - max (x.n.tmod 50) 0) 0) = false := by simp
            clear hk1 hk hlw
            as_aux_lemma =>
              go_wp2_with (first
                | (refine wpList_loadA rfl _ rfl b (off + k * 18) rfl x HRg.out ?_)
                | (refine wpList_allocA rfl rfl ?_; intro v1 hv1; have X0 := Lib.hid (hv1 ▸ XA.new wr az : XA v1 wr.heap.size az); have B0 := Lib.hid (hv1 ▸ (Below.refl wr.heap.size wr).alloc (Nat.le_refl _) _ : Below wr.heap.size wr v1); clear hv1)
                | (refine wpList_storeA rfl _ _ rfl wr.heap.size rfl x rfl X0.out.there ?_; intro v2 hv2; have X1 := Lib.hid (hv2 ▸ X0.out.store x : XA v2 wr.heap.size x); have B1 := Lib.hid (hv2 ▸ belowA_setCells (Nat.le_refl _) _ _ B0.out : Below wr.heap.size wr v2); have R1 := Lib.hid (HR.out.below B1.out)
                   have q1 := R1.out.lf.cell 1
                   simp only [lfC, List.getElem?_toArray, List.getElem?_cons_zero, List.getElem?_cons_succ] at q1
                   clear hv2)
                | (refine wpList_loadA rfl _ rfl wr.heap.size 0 rfl x X1.out.range ?_)
                | (go_at_call 10; with_reducible refine (HLg.out _).mono ?_; rintro e w4 ⟨rfl, hb4⟩
                   have R4 := Lib.hid (R1.out.below hb4)
                   have X4 := Lib.hid (X1.out.below hb4 X1.out.lt)
                   have a0 := X4.out.cell 0
                   simp only [Ac.cells, List.getElem?_cons_zero, List.getElem?_cons_succ] at a0
                   clear hb4)
                | (refine wpList_loadA rfl _ rfl wr.heap.size 0 rfl x X4.out.range ?_)
                | (go_at_call 11; with_reducible refine (HDo.out _ R4.out).mono ?_; rintro e w5 ⟨rfl, N2, E2, hN2, hbm, hr5⟩
                   have HN2 := Lib.hid hN2
                   have hb5 := (Below.refl w5.heap.size w5).alloc (Nat.le_refl _) (.cells #[.int .i64 ak, .int .i64 aep, .int .i64 asq, .int .i64 aN, .int .i64 ab, .int .i64 acl, .int .i64 ae, .int .i64 at0, .int .i64 at1, .int .i64 at2, .int .i64 at3, .string adt, .string arw] 35)
                   have R5 := Lib.hid (hr5.below hb5)
                   have M5 := MB.new w5 ⟨ak, aep, asq, aN, ab, acl, ae, at0, at1, at2, at3, adt, arw⟩
                   have X5 := (X4.out.but hbm HGm.out).below hb5 (Nat.lt_of_lt_of_le X4.out.lt hbm.size)
                   have a0 := X5.cell 0
                   have a1 := X5.cell 1
                   simp only [Ac.cells, List.getElem?_cons_zero, List.getElem?_cons_succ] at a0 a1
                   have b0 := M5.cell 0
                   have b6 := M5.cell 6
                   simp only [Mg.cells, List.getElem?_toArray, List.getElem?_cons_zero, List.getElem?_cons_succ] at b0 b6
                   have q1 := R5.out.lf.cell 1
                   have q2 := R5.out.lf.cell 2
                   simp only [lfC, List.getElem?_toArray, List.getElem?_cons_zero, List.getElem?_cons_succ] at q1 q2
                   clear hr5 hb5 hbm M5 X5)
                | (go_at_call 17; with_reducible refine (left_any R5.out.ws).mono ?_; rintro e w6 ⟨rfl, rfl⟩))
              go_roundw
              case rel => exact ⟨k + 1, _, _, _, _, _, by have := HK.out; omega, by have := HK.out; omega, rfl, by go_num, by have := HN.out; have := HN2.out; omega, R5.out⟩
              case measure => have := HK.out; simp [intOf]; omega
          · have d1 : (x.kind == 1) = false := by rw [beq_eq_false_iff_ne]; exact hk1
            cases I with
            | false =>
              obtain rfl : L2 = L := by rw [HL2.out, if_neg (by simp [grants]), if_neg hk1]
              have hz : ((L2 : Int) != L2) = false := by simp
              clear hk1 hk hlw hq1 hq2 e2
              as_aux_lemma =>
                go_wp2_with (first
                  | (refine wpList_loadA rfl _ rfl b (off + k * 18) rfl x HRg.out ?_)
                  | (refine wpList_allocA rfl rfl ?_; intro v1 hv1; have X0 := Lib.hid (hv1 ▸ XA.new wr az : XA v1 wr.heap.size az); have B0 := Lib.hid (hv1 ▸ (Below.refl wr.heap.size wr).alloc (Nat.le_refl _) _ : Below wr.heap.size wr v1); clear hv1)
                  | (refine wpList_storeA rfl _ _ rfl wr.heap.size rfl x rfl X0.out.there ?_; intro v2 hv2; have X1 := Lib.hid (hv2 ▸ X0.out.store x : XA v2 wr.heap.size x); have B1 := Lib.hid (hv2 ▸ belowA_setCells (Nat.le_refl _) _ _ B0.out : Below wr.heap.size wr v2); have R1 := Lib.hid (HR.out.below B1.out)
                     have q1 := R1.out.lf.cell 1
                     simp only [lfC, List.getElem?_toArray, List.getElem?_cons_zero, List.getElem?_cons_succ] at q1
                     clear hv2)
                  | (refine wpList_loadA rfl _ rfl wr.heap.size 0 rfl x X1.out.range ?_)
                  | (go_at_call 10; with_reducible refine (HLg.out _).mono ?_; rintro e w4 ⟨rfl, hb4⟩
                     have R4 := Lib.hid (R1.out.below hb4)
                     have X4 := Lib.hid (X1.out.below hb4 X1.out.lt)
                     have a0 := X4.out.cell 0
                     simp only [Ac.cells, List.getElem?_cons_zero, List.getElem?_cons_succ] at a0
                     clear hb4)
                  | (refine wpList_loadA rfl _ rfl wr.heap.size 0 rfl x X4.out.range ?_)
                  | (go_at_call 11; with_reducible refine (HDo.out _ R4.out).mono ?_; rintro e w5 ⟨rfl, N2, E2, hN2, hbm, hr5⟩
                     have HN2 := Lib.hid hN2
                     have hb5 := (Below.refl w5.heap.size w5).alloc (Nat.le_refl _) (.cells #[.int .i64 ak, .int .i64 aep, .int .i64 asq, .int .i64 aN, .int .i64 ab, .int .i64 acl, .int .i64 ae, .int .i64 at0, .int .i64 at1, .int .i64 at2, .int .i64 at3, .string adt, .string arw] 35)
                     have R5 := Lib.hid (hr5.below hb5)
                     have M5 := MB.new w5 ⟨ak, aep, asq, aN, ab, acl, ae, at0, at1, at2, at3, adt, arw⟩
                     have X5 := (X4.out.but hbm HGm.out).below hb5 (Nat.lt_of_lt_of_le X4.out.lt hbm.size)
                     have a0 := X5.cell 0
                     have a1 := X5.cell 1
                     simp only [Ac.cells, List.getElem?_cons_zero, List.getElem?_cons_succ] at a0 a1
                     have b0 := M5.cell 0
                     have b6 := M5.cell 6
                     simp only [Mg.cells, List.getElem?_toArray, List.getElem?_cons_zero, List.getElem?_cons_succ] at b0 b6
                     have q1 := R5.out.lf.cell 1
                     have q2 := R5.out.lf.cell 2
                     simp only [lfC, List.getElem?_toArray, List.getElem?_cons_zero, List.getElem?_cons_succ] at q1 q2
                     clear hr5 hb5 hbm M5 X5)
                  | (go_at_call 17; with_reducible refine (left_any R5.out.ws).mono ?_; rintro e w6 ⟨rfl, rfl⟩))
                go_roundw
                case rel => exact ⟨k + 1, _, _, _, _, _, by have := HK.out; omega, by have := HK.out; omega, rfl, by go_num, by have := HN.out; have := HN2.out; omega, R5.out⟩
                case measure => have := HK.out; simp [intOf]; omega
            | true =>
              by_cases h2 : ak = 2
              · by_cases h6 : ae = 0
                · subst h2 h6
                  obtain rfl : L2 = W := by rw [HL2.out, if_pos (by simp [grants])]
                  have hz : ((L2 : Int) != L2) = false := by simp
                  clear hk1 hk hlw hq1 hq2 e2
                  as_aux_lemma =>
                    go_wp2_with (first
                      | (refine wpList_loadA rfl _ rfl b (off + k * 18) rfl x HRg.out ?_)
                      | (refine wpList_allocA rfl rfl ?_; intro v1 hv1; have X0 := Lib.hid (hv1 ▸ XA.new wr az : XA v1 wr.heap.size az); have B0 := Lib.hid (hv1 ▸ (Below.refl wr.heap.size wr).alloc (Nat.le_refl _) _ : Below wr.heap.size wr v1); clear hv1)
                      | (refine wpList_storeA rfl _ _ rfl wr.heap.size rfl x rfl X0.out.there ?_; intro v2 hv2; have X1 := Lib.hid (hv2 ▸ X0.out.store x : XA v2 wr.heap.size x); have B1 := Lib.hid (hv2 ▸ belowA_setCells (Nat.le_refl _) _ _ B0.out : Below wr.heap.size wr v2); have R1 := Lib.hid (HR.out.below B1.out)
                         have q1 := R1.out.lf.cell 1
                         simp only [lfC, List.getElem?_toArray, List.getElem?_cons_zero, List.getElem?_cons_succ] at q1
                         clear hv2)
                      | (refine wpList_loadA rfl _ rfl wr.heap.size 0 rfl x X1.out.range ?_)
                      | (go_at_call 10; with_reducible refine (HLg.out _).mono ?_; rintro e w4 ⟨rfl, hb4⟩
                         have R4 := Lib.hid (R1.out.below hb4)
                         have X4 := Lib.hid (X1.out.below hb4 X1.out.lt)
                         have a0 := X4.out.cell 0
                         simp only [Ac.cells, List.getElem?_cons_zero, List.getElem?_cons_succ] at a0
                         clear hb4)
                      | (refine wpList_loadA rfl _ rfl wr.heap.size 0 rfl x X4.out.range ?_)
                      | (go_at_call 11; with_reducible refine (HDo.out _ R4.out).mono ?_; rintro e w5 ⟨rfl, N2, E2, hN2, hbm, hr5⟩
                         have HN2 := Lib.hid hN2
                         have hb5 := (Below.refl w5.heap.size w5).alloc (Nat.le_refl _) (.cells #[.int .i64 2, .int .i64 aep, .int .i64 asq, .int .i64 aN, .int .i64 ab, .int .i64 acl, .int .i64 0, .int .i64 at0, .int .i64 at1, .int .i64 at2, .int .i64 at3, .string adt, .string arw] 35)
                         have R5 := Lib.hid (hr5.below hb5)
                         have M5 := MB.new w5 ⟨2, aep, asq, aN, ab, acl, 0, at0, at1, at2, at3, adt, arw⟩
                         have X5 := (X4.out.but hbm HGm.out).below hb5 (Nat.lt_of_lt_of_le X4.out.lt hbm.size)
                         have a0 := X5.cell 0
                         have a1 := X5.cell 1
                         simp only [Ac.cells, List.getElem?_cons_zero, List.getElem?_cons_succ] at a0 a1
                         have b0 := M5.cell 0
                         have b6 := M5.cell 6
                         simp only [Mg.cells, List.getElem?_toArray, List.getElem?_cons_zero, List.getElem?_cons_succ] at b0 b6
                         have q1 := R5.out.lf.cell 1
                         have q2 := R5.out.lf.cell 2
                         simp only [lfC, List.getElem?_toArray, List.getElem?_cons_zero, List.getElem?_cons_succ] at q1 q2
                         clear hr5 hb5 hbm M5 X5)
                      | (go_at_call 17; with_reducible refine (left_any R5.out.ws).mono ?_; rintro e w6 ⟨rfl, rfl⟩))
                    go_roundw
                    case rel => exact ⟨k + 1, _, _, _, _, _, by have := HK.out; omega, by have := HK.out; omega, rfl, by go_num, by have := HN.out; have := HN2.out; omega, R5.out⟩
                    case measure => have := HK.out; simp [intOf]; omega
                · have h6' : (ae == 0) = false := by rw [beq_eq_false_iff_ne]; exact h6
                  obtain rfl : L2 = L := by rw [HL2.out, if_neg (by simp [grants, h6]), if_neg hk1]
                  have hz : ((L2 : Int) != L2) = false := by simp
                  subst h2
                  clear hk1 hk hlw hq1 hq2 e2 h6
                  as_aux_lemma =>
                    go_wp2_with (first
                      | (refine wpList_loadA rfl _ rfl b (off + k * 18) rfl x HRg.out ?_)
                      | (refine wpList_allocA rfl rfl ?_; intro v1 hv1; have X0 := Lib.hid (hv1 ▸ XA.new wr az : XA v1 wr.heap.size az); have B0 := Lib.hid (hv1 ▸ (Below.refl wr.heap.size wr).alloc (Nat.le_refl _) _ : Below wr.heap.size wr v1); clear hv1)
                      | (refine wpList_storeA rfl _ _ rfl wr.heap.size rfl x rfl X0.out.there ?_; intro v2 hv2; have X1 := Lib.hid (hv2 ▸ X0.out.store x : XA v2 wr.heap.size x); have B1 := Lib.hid (hv2 ▸ belowA_setCells (Nat.le_refl _) _ _ B0.out : Below wr.heap.size wr v2); have R1 := Lib.hid (HR.out.below B1.out)
                         have q1 := R1.out.lf.cell 1
                         simp only [lfC, List.getElem?_toArray, List.getElem?_cons_zero, List.getElem?_cons_succ] at q1
                         clear hv2)
                      | (refine wpList_loadA rfl _ rfl wr.heap.size 0 rfl x X1.out.range ?_)
                      | (go_at_call 10; with_reducible refine (HLg.out _).mono ?_; rintro e w4 ⟨rfl, hb4⟩
                         have R4 := Lib.hid (R1.out.below hb4)
                         have X4 := Lib.hid (X1.out.below hb4 X1.out.lt)
                         have a0 := X4.out.cell 0
                         simp only [Ac.cells, List.getElem?_cons_zero, List.getElem?_cons_succ] at a0
                         clear hb4)
                      | (refine wpList_loadA rfl _ rfl wr.heap.size 0 rfl x X4.out.range ?_)
                      | (go_at_call 11; with_reducible refine (HDo.out _ R4.out).mono ?_; rintro e w5 ⟨rfl, N2, E2, hN2, hbm, hr5⟩
                         have HN2 := Lib.hid hN2
                         have hb5 := (Below.refl w5.heap.size w5).alloc (Nat.le_refl _) (.cells #[.int .i64 2, .int .i64 aep, .int .i64 asq, .int .i64 aN, .int .i64 ab, .int .i64 acl, .int .i64 ae, .int .i64 at0, .int .i64 at1, .int .i64 at2, .int .i64 at3, .string adt, .string arw] 35)
                         have R5 := Lib.hid (hr5.below hb5)
                         have M5 := MB.new w5 ⟨2, aep, asq, aN, ab, acl, ae, at0, at1, at2, at3, adt, arw⟩
                         have X5 := (X4.out.but hbm HGm.out).below hb5 (Nat.lt_of_lt_of_le X4.out.lt hbm.size)
                         have a0 := X5.cell 0
                         have a1 := X5.cell 1
                         simp only [Ac.cells, List.getElem?_cons_zero, List.getElem?_cons_succ] at a0 a1
                         have b0 := M5.cell 0
                         have b6 := M5.cell 6
                         simp only [Mg.cells, List.getElem?_toArray, List.getElem?_cons_zero, List.getElem?_cons_succ] at b0 b6
                         have q1 := R5.out.lf.cell 1
                         have q2 := R5.out.lf.cell 2
                         simp only [lfC, List.getElem?_toArray, List.getElem?_cons_zero, List.getElem?_cons_succ] at q1 q2
                         clear hr5 hb5 hbm M5 X5)
                      | (go_at_call 17; with_reducible refine (left_any R5.out.ws).mono ?_; rintro e w6 ⟨rfl, rfl⟩))
                    go_roundw
                    case rel => exact ⟨k + 1, _, _, _, _, _, by have := HK.out; omega, by have := HK.out; omega, rfl, by go_num, by have := HN.out; have := HN2.out; omega, R5.out⟩
                    case measure => have := HK.out; simp [intOf]; omega
              · have h2' : (ak == 2) = false := by rw [beq_eq_false_iff_ne]; exact h2
                obtain rfl : L2 = L := by rw [HL2.out, if_neg (by simp [grants, h2]), if_neg hk1]
                have hz : ((L2 : Int) != L2) = false := by simp
                clear hk1 hk hlw hq1 hq2 e2 h2
                as_aux_lemma =>
                  go_wp2_with (first
                    | (refine wpList_loadA rfl _ rfl b (off + k * 18) rfl x HRg.out ?_)
                    | (refine wpList_allocA rfl rfl ?_; intro v1 hv1; have X0 := Lib.hid (hv1 ▸ XA.new wr az : XA v1 wr.heap.size az); have B0 := Lib.hid (hv1 ▸ (Below.refl wr.heap.size wr).alloc (Nat.le_refl _) _ : Below wr.heap.size wr v1); clear hv1)
                    | (refine wpList_storeA rfl _ _ rfl wr.heap.size rfl x rfl X0.out.there ?_; intro v2 hv2; have X1 := Lib.hid (hv2 ▸ X0.out.store x : XA v2 wr.heap.size x); have B1 := Lib.hid (hv2 ▸ belowA_setCells (Nat.le_refl _) _ _ B0.out : Below wr.heap.size wr v2); have R1 := Lib.hid (HR.out.below B1.out)
                       have q1 := R1.out.lf.cell 1
                       simp only [lfC, List.getElem?_toArray, List.getElem?_cons_zero, List.getElem?_cons_succ] at q1
                       clear hv2)
                    | (refine wpList_loadA rfl _ rfl wr.heap.size 0 rfl x X1.out.range ?_)
                    | (go_at_call 10; with_reducible refine (HLg.out _).mono ?_; rintro e w4 ⟨rfl, hb4⟩
                       have R4 := Lib.hid (R1.out.below hb4)
                       have X4 := Lib.hid (X1.out.below hb4 X1.out.lt)
                       have a0 := X4.out.cell 0
                       simp only [Ac.cells, List.getElem?_cons_zero, List.getElem?_cons_succ] at a0
                       clear hb4)
                    | (refine wpList_loadA rfl _ rfl wr.heap.size 0 rfl x X4.out.range ?_)
                    | (go_at_call 11; with_reducible refine (HDo.out _ R4.out).mono ?_; rintro e w5 ⟨rfl, N2, E2, hN2, hbm, hr5⟩
                       have HN2 := Lib.hid hN2
                       have hb5 := (Below.refl w5.heap.size w5).alloc (Nat.le_refl _) (.cells #[.int .i64 ak, .int .i64 aep, .int .i64 asq, .int .i64 aN, .int .i64 ab, .int .i64 acl, .int .i64 ae, .int .i64 at0, .int .i64 at1, .int .i64 at2, .int .i64 at3, .string adt, .string arw] 35)
                       have R5 := Lib.hid (hr5.below hb5)
                       have M5 := MB.new w5 ⟨ak, aep, asq, aN, ab, acl, ae, at0, at1, at2, at3, adt, arw⟩
                       have X5 := (X4.out.but hbm HGm.out).below hb5 (Nat.lt_of_lt_of_le X4.out.lt hbm.size)
                       have a0 := X5.cell 0
                       have a1 := X5.cell 1
                       simp only [Ac.cells, List.getElem?_cons_zero, List.getElem?_cons_succ] at a0 a1
                       have b0 := M5.cell 0
                       have b6 := M5.cell 6
                       simp only [Mg.cells, List.getElem?_toArray, List.getElem?_cons_zero, List.getElem?_cons_succ] at b0 b6
                       have q1 := R5.out.lf.cell 1
                       have q2 := R5.out.lf.cell 2
                       simp only [lfC, List.getElem?_toArray, List.getElem?_cons_zero, List.getElem?_cons_succ] at q1 q2
                       clear hr5 hb5 hbm M5 X5)
                    | (go_at_call 17; with_reducible refine (left_any R5.out.ws).mono ?_; rintro e w6 ⟨rfl, rfl⟩))
                  go_roundw
                  case rel => exact ⟨k + 1, _, _, _, _, _, by have := HK.out; omega, by have := HK.out; omega, rfl, by go_num, by have := HN.out; have := HN2.out; omega, R5.out⟩
                  case measure => have := HK.out; simp [intOf]; omega
        · have gk : 1 < x.kind := by omega
          as_aux_lemma =>
            go_wp2_with (first
              | (refine wpList_loadA rfl _ rfl b (off + k * 18) rfl x HRg.out ?_)
              | (refine wpList_allocA rfl rfl ?_; intro v1 hv1; have X0 := Lib.hid (hv1 ▸ XA.new wr az : XA v1 wr.heap.size az); have B0 := Lib.hid (hv1 ▸ (Below.refl wr.heap.size wr).alloc (Nat.le_refl _) _ : Below wr.heap.size wr v1); clear hv1)
              | (refine wpList_storeA rfl _ _ rfl wr.heap.size rfl x rfl X0.out.there ?_; intro v2 hv2; have X1 := Lib.hid (hv2 ▸ X0.out.store x : XA v2 wr.heap.size x); have B1 := Lib.hid (hv2 ▸ belowA_setCells (Nat.le_refl _) _ _ B0.out : Below wr.heap.size wr v2); have R1 := Lib.hid (HR.out.below B1.out)
                 have q1 := R1.out.lf.cell 1
                 simp only [lfC, List.getElem?_toArray, List.getElem?_cons_zero, List.getElem?_cons_succ] at q1
                 clear hv2)
              | (refine wpList_loadA rfl _ rfl wr.heap.size 0 rfl x X1.out.range ?_)
              | (go_at_call 10; with_reducible refine (HLg.out _).mono ?_; rintro e w4 ⟨rfl, hb4⟩
                 have R4 := Lib.hid (R1.out.below hb4)
                 have X4 := Lib.hid (X1.out.below hb4 X1.out.lt)
                 have a0 := X4.out.cell 0
                 simp only [Ac.cells, List.getElem?_cons_zero, List.getElem?_cons_succ] at a0
                 clear hb4))
            go_roundw
            case rel => exact ⟨k + 1, _, _, _, _, _, by have := HK.out; omega, by have := HK.out; omega, rfl, by go_num, by have := HN.out; omega, R4.out⟩
            case measure => have := HK.out; simp [intOf]; omega
    · have q4 := HR.out.lf.cell 4
      simp only [lfC, List.getElem?_toArray, List.getElem?_cons_zero, List.getElem?_cons_succ] at q4
      have hnot : (¬ k < n1) ∨ (k < n1 ∧ ¬ k < 100) := by omega
      rcases hnot with h9 | ⟨h8, h9⟩
      · have g1 : decide ((k : Int) < (n1 : Int)) = false := by simpa using h9
        go_wp2
        go_ret
        exact ⟨rfl, HR.out.be HGe.out⟩
      · have g1 : (k : Int) < (n1 : Int) := by omega
        have g2 : decide ((k : Int) < 100) = false := by simp; omega
        go_wp2
        go_ret
        exact ⟨rfl, HR.out.be HGe.out⟩

set_option maxRecDepth 100000 in
theorem lifted (os : Os) (started : os.Started) (H : Type) (enc : TypeId × Value → H) :
    ReturnsInHanded {} Try.checked os 7 .any (Rows.witnessTicksSpec.pre6 enc Try.prog Try.f7 Rows.witnessTicksRow.domain false) (Rows.witnessTicksSpec.post enc Try.prog Try.f7 false true false false) := by
  refine returnsInHanded_of_change (C := Try.checked) own started (by kernel_rfl) Try.func7
    (ChangeSpec.witness6 (enc := enc) (C := Try.checked) false ⟨#[], #[.int .u8 0, .slice none 0 0], []⟩ 8 (by kernel_rfl) (by kernel_rfl) (by kernel_rfl) (by kernel_rfl)) ?_
  intro W base args ds gs before hval0 hW hcnd _
  have hval : ∀ (j : Nat) t v, Try.f7.params[j]? = some t → args[j]? = some v → Value.okWide Try.prog W .any base t v := hval0
  have hW' := hW
  obtain ⟨p, q, hA0, hV, rfl, hfz, hnd⟩ := hW
  have hA : DataW.TrodAll enc Try.prog W 0 (fun _ => true) true Try.f7.params.toList args.toList ds p := hA0
  rw [Try.params7] at hA hval
  obtain ⟨v0, vs0, d0, ds0, p0, q0, hargs, rfl, rfl, h0, r0'⟩ := trodAll_cons hA
  obtain ⟨v1, vs1, d1, ds1, p1, q1, rfl, rfl, rfl, h1, r1'⟩ := trodAll_cons r0'
  obtain ⟨rfl, rfl, rfl⟩ := trodAll_nil r1'
  obtain rfl : args = #[v0, v1] := by cases args; simp_all
  obtain ⟨rfl, rfl⟩ := trodVars_none hV
  obtain ⟨x0, rfl, rfl, rfl, w0⟩ := open_int Try.underlying5 (hval 0 5 v0 rfl rfl) h0
  have k1 := h1
  have lt1 : ∀ x ∈ p1, x.block < W.heap.size := by obtain ⟨m, hm⟩ := k1; exact DataW.trod_lt m _ _ _ hm
  obtain ⟨a1, n1, c1, l1, rfl, w1⟩ := Wt.open_acts h1 (okWide_slice Try.underlying22 (hval 1 22 v1 rfl rfl))
  clear hA0 hval0
  refine (walk x0 a1 n1 c1 l1 W w0 w1).mono fun e W' ⟨he, bel⟩ => ?_
  subst he
  exact ⟨_, rfl, _, _, _, [], _, [], hW', trodAll_mk1 (shut_bool Try.underlying4 _), (trodAll_cons_mk (shut_int Try.underlying5 w0) (trodAll_cons_mk (Below.trod laidOut (by kernel_rfl) (of_decide_eq_true (by kernel_rfl)) k1 bel lt1) trodAll_mk0)), rfl, bel.frame _, fun h => by cases h⟩

theorem over : Rows.witnessTicksRow.holds Try.pinned (OpenSpec.ofChange Rows.witnessTicksSpec) :=
  OpenClaim.holds_of_wide 7 Try.f7 rfl rfl rfl rfl rfl rfl rfl ⟨rfl, rfl, rfl, rfl, rfl⟩ rfl rfl rfl rfl rfl (by kernel_rfl) Try.func7 (by kernel_rfl)
    (of_decide_eq_true (by kernel_rfl)) (by unfold Func.isWrapper; first | (rw [if_pos (by decide +kernel)]; kernel_rfl) | (rw [if_neg (by decide +kernel)]; exact ⟨rfl, rfl⟩))
    (fun os started H enc _ => lifted os started H enc)

/-- the statement -/
theorem proved : Rows.WitnessTicksSaid := over
#print axioms proved
end Go.Proofs.Ytpoolpckabpnfaa.witnessTicks
