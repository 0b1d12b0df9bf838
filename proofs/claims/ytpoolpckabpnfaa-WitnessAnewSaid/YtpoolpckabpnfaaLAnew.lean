/-
  PROVED: opened anew a witness has what it had, and waits anew. CONDITIONS: none (any number that tells how long is waited; any acts, of which up to 100 are done; without failures).
-/
import Derived.Test.YtpoolpckabpnfaaWtRun
import Derived.BigQuiet
import Derived.Deep.RegionHeld3
import Derived.Deep.DeepCutAuto
namespace Go.Proofs.Ytpoolpckabpnfaa.witnessAnew
open Go.ChangeShapes Go.WideShapes Go.ChangeAt Go.RowKit Go.Joins
open Go.ChangeMaps (open_string shut_string)
set_option linter.unusedVariables false
set_option linter.unusedSimpArgs false
set_option maxRecDepth 20000

open Wt
open Ml (Mg may msgV MB)
section
variable {ops : Array Oper} {rest : List Oper} {o : Oper} {a : Act} {Q : Exit → Act → World → Prop}
theorem wpList_loadG {w : World} (hw : Region.wanted o (yielded ops a.tmps) = true) (x : Operand) (ho : o.op = .load 38 x) (b off : Nat) (hx : a.eval x = .pointer (some ⟨b, off, none⟩)) (y : Ac) (hc : w.rangeAt b off y.cells)
    (h : wpList Try.prog ops Q rest (a.put o.dst (actV y)) w) : wpList Try.prog ops Q (o :: rest) a w :=
  BigFrame.wpList_want hw fun _ hK => wp_load_mid 38 x ho b off hx y.cells _ hc Try.underlying38 rfl (by rw [act_size, y.len]) (hK _ _ h)
end

set_option maxHeartbeats 4000000 in
theorem walk (x0 : Int) (a1 : Option Addr) (n1 c1 : Nat) (l1 : List Wt.Ac) (w : World) (w0 : (Lit.int .u8 x0).wf = true) (w1 : Wt.Acts w a1 n1 c1 l1) :
    Calls Try.prog 5 #[.int .u8 x0, .slice a1 n1 c1] w fun e w' => e = .returned (.bool true) ∧ Below w.heap.size w w' := by
  have hx := u8_in w0
  obtain ⟨W, hW⟩ : ∃ W, W = x0 % 20 + 1 := ⟨_, rfl⟩
  have HA := Lib.hid (awake_any w)
  have HB := Lib.hid (fun (wv : World) (hv : Below w.heap.size w wv) => begin_any w wv hv hx hW)
  have HW := Lib.hid w1
  have hcap : n1 ≤ 9223372036854775807 := by have := w1.2.1; have := w1.2.2.1; simp only [maxLen] at this; omega
  have hW1 : 1 ≤ W := by omega
  have hW2 : W ≤ 20 := by omega
  clear w0 w1 hx hW
  go_enter Try.func5, Try.ntmps5
  go_wp2_with (first
    | (go_at_call 8; with_reducible refine HA.out.mono ?_; rintro e w1 ⟨rfl, hb1⟩
       have HB1 := Lib.hid hb1
       clear hb1)
    | (go_at_call 9; with_reducible refine (HB.out _ HB1.out).mono ?_; rintro e w2 ⟨gB, pB, dB, sB, mB, tB0, cB0, rfl, hl, hge⟩
       have HGe := Lib.hid hge
       have HL0 := Lib.hid hl
       have q1 := hl.lf.cell 1
       have q2 := hl.lf.cell 2
       simp only [lfC, List.getElem?_toArray, List.getElem?_cons_zero, List.getElem?_cons_succ] at q1 q2
       clear hl hge))
  clear HA HB HB1 q1 q2

  go_loopw [6] (fun iv wr => ∃ (k : Nat) (d : M.Dv) (c : M.Cl) (L : Int) (N : Nat) (E : Int → Option Int), k ≤ n1 ∧ k ≤ 100 ∧ iv = .int .i64 (k : Int) ∧ N ≤ k ∧ Free d ∧ LF w wr gB pB dB sB mB d tB0 cB0 c L W N E) (fun iv _ => 100 - (intOf iv).toNat)
  case atStart => exact ⟨0, _, _, _, _, _, by omega, by omega, rfl, by omega, Free.fresh, HL0.out⟩
  case round =>
    obtain ⟨k, d, c, L, N, E, hk1, hk2, rfl, hN, hfree, hr⟩ := hrel
    have HFr := Lib.hid hfree
    clear HL0 hfree
    have HR := Lib.hid hr
    have HN := Lib.hid hN
    have HGm : Hid (wr.heap.size ∉ gB :: pB :: ours dB sB mB cB0 tB0) := Lib.hid (hr.not_mem (Nat.le_refl _))
    clear hr hN
    by_cases hlt : k < n1 ∧ k < 100
    · have g1 : (k : Int) < (n1 : Int) := by omega
      have g2 : (k : Int) < 100 := by omega
      have g0 : (0 : Int) ≤ (k : Int) := by omega
      obtain ⟨b, off, x, rfl, _, hok, hb, hc⟩ := acts_at HW.out (HR.out.be HGe.out) (show k < n1 by omega)
      have HOk := Lib.hid hok.2.1
      have HLg := Lib.hid (fun w' => large_any w' x)
      have HRg : Hid (wr.rangeAt b (off + k * 18) x.cells) := Lib.hid (fun j v hv => by rw [Nat.add_assoc]; exact hc j v hv)
      obtain ⟨y0, y1, y2, y3, y4, y5, y6, y7, y8, y9, y10, y11, y12, y13, y14, y15, y16, y17⟩ := act18 hc
      clear hc hok
      obtain ⟨lg, hlg⟩ : ∃ lg, decide (Lrg x) = lg := ⟨_, rfl⟩
      rw [hlg] at HLg
      have HK : Hid (k < n1 ∧ k < 100) := Lib.hid hlt
      have Hlg := Lib.hid hlg
      clear hlt hk1 hk2 hlg
      clear y1 y2 y3 y4 y5 y6 y7 y8 y9 y10 y11 y12 y13 y14 y15 y16 y17
      have q1 := HR.out.lf.cell 1
      simp only [lfC, List.getElem?_toArray, List.getElem?_cons_zero, List.getElem?_cons_succ] at q1
      have Hbl : Hid (b < wr.heap.size) := Lib.hid (Nat.lt_of_lt_of_le hb (HR.out.be HGe.out).size)
      cases lg with
      | true =>
        go_wp2_with (first
          | (refine wpList_loadG (by rfl) _ rfl b (off + k * 18) rfl x HRg.out ?_)
          | (go_at_call 10; with_reducible refine (HLg.out _).mono ?_; rintro e w4 ⟨rfl, hb4⟩
             have R4 := Lib.hid (HR.out.below hb4)
             have HRg4 : Hid (w4.rangeAt b (off + k * 18) x.cells) := Lib.hid (fun j v hv => (hb4.cell (p := ⟨b, off + k * 18 + j, none⟩) Hbl.out).trans (HRg.out j v hv))
             have y0' := (hb4.cell (p := ⟨b, off + k * 18, none⟩) Hbl.out).trans y0
             clear y0
             have q1' := R4.out.lf.cell 1
             simp only [lfC, List.getElem?_toArray, List.getElem?_cons_zero, List.getElem?_cons_succ] at q1'
             clear hb4))
        go_ret
        exact ⟨rfl, R4.out.be HGe.out⟩
      | false =>
        by_cases hk : x.kind ≤ 1
        · have gk : x.kind ≤ 1 := hk
          have HDo := Lib.hid (fun (w' : World) (h : LF w w' gB pB dB sB mB d tB0 cB0 c L W N E) => do01 h x hk (by have := HN.out; have := HK.out; omega) HOk.out)
          have HFr5 : Hid (Free (stD x d c L)) := Lib.hid (free_st HR.out.fi HFr.out)
          generalize stA x d c L = A at *
          generalize stI x d c L = I at *
          generalize stL x d c L W = L2 at *
          generalize stD x d c L = d2 at *
          generalize stC x d c L = c2 at *
          obtain ⟨ak, aep, asq, aN, ab, acl, ae, at0, at1, at2, at3, adt, arw⟩ := A
          simp only [msgV, Mg.cells] at HDo
          clear hk
          go_upto_region 11 with (first
            | (refine wpList_loadG (by rfl) _ rfl b (off + k * 18) rfl x HRg.out ?_)
            | (go_at_call 10; with_reducible refine (HLg.out _).mono ?_; rintro e w4 ⟨rfl, hb4⟩
               have R4 := Lib.hid (HR.out.below hb4)
               have HRg4 : Hid (w4.rangeAt b (off + k * 18) x.cells) := Lib.hid (fun j v hv => (hb4.cell (p := ⟨b, off + k * 18 + j, none⟩) Hbl.out).trans (HRg.out j v hv))
               have y0' := (hb4.cell (p := ⟨b, off + k * 18, none⟩) Hbl.out).trans y0
               clear y0
               have q1' := R4.out.lf.cell 1
               simp only [lfC, List.getElem?_toArray, List.getElem?_cons_zero, List.getElem?_cons_succ] at q1'
               clear hb4)
            | (refine wpList_loadA rfl _ rfl b (off + k * 18) rfl x HRg4.out ?_)
            | (go_at_call 11; with_reducible refine (HDo.out _ R4.out).mono ?_; rintro e w5 ⟨rfl, N2, E2, hN2, hbm, hr5⟩
               have HN2 := Lib.hid hN2
               have R5 := Lib.hid hr5
               clear hr5 hbm hN2))
          clear HLg HDo HRg HRg4 R4 HR HFr q1
          have HFi : Hid (FI 2 0 1 d2 c2) := Lib.hid R5.out.fi
          have HD5 := Lib.hid R5.out.ws.dev
          have HOp : Hid (∀ w', DevAt w' dB sB mB 2 d2 → Calls Try.prog 16 #[.pointer (some ⟨dB, 0, none⟩), .int .i64 0, .int .i64 1, .int .i64 W] w' fun e w'' => ∃ tB cB, e = .returned (.tuple #[.pointer (some ⟨tB, 0, none⟩), .int .i64 0]) ∧ w'.heap.size ≤ tB ∧ w'.heap.size ≤ cB ∧ WS w'' dB sB mB 2 d2 tB cB 0 1 c2 W W ∧ Below w'.heap.size w' w'') := Lib.hid fun w' h => by
            have := wopen_yes w' h HFr5.out.2 (a := 0) (b := 1) (by omega) (W := W) (by omega)
            rw [show there d2 0 1 = c2 from fi_opened HFi.out HFr5.out.2] at this
            exact this
          have Hdl : Hid (dB ≠ w5.heap.size ∧ True) := Lib.hid ⟨by have := R5.out.ws.dev.ltD; omega, trivial⟩
          have p0 := R5.out.lf.cell 0
          have p2 := R5.out.lf.cell 2
          simp only [lfC, List.getElem?_toArray, List.getElem?_cons_zero, List.getElem?_cons_succ] at p0 p2
          have HLf := Lib.hid R5.out.lf
          have HS : Hid (∀ w', Below w5.heap.size w5 w' → (w'.cell? ⟨gB, 0, none⟩ = some (.pointer (some ⟨dB, 0, none⟩)) ∧ w'.cell? ⟨gB, 2, none⟩ = some (.int .i64 W)) ∧ (w'.cell? ⟨gB, 1, none⟩ = some (.pointer (some ⟨tB0, 0, none⟩)) ∧ w'.cell? ⟨gB, 2, none⟩ = some (.int .i64 W)) ∧ LF w w' gB pB dB sB mB d2 tB0 cB0 c2 L2 W N2 E2) := Lib.hid fun w' hb => ⟨⟨(HLf.out.below hb HLf.out.lt).cell 0, (HLf.out.below hb HLf.out.lt).cell 2⟩, ⟨(HLf.out.below hb HLf.out.lt).cell 1, (HLf.out.below hb HLf.out.lt).cell 2⟩, R5.out.below hb⟩
          go_region_held3 (fun w' => w'.cell? ⟨gB, 0, none⟩ = some (.pointer (some ⟨dB, 0, none⟩)) ∧ w'.cell? ⟨gB, 2, none⟩ = some (.int .i64 W))
            (first
              | with_reducible exact ⟨p0, p2⟩
              | exact (HS.out _ (Below.refl _ _).drew).1
              | exact (HS.out _ B6.out).1)
            (first
              | (go_at_call 16; refine (HOp.out _ (HS.out _ (Below.refl _ _).drew).2.2.ws.dev).mono ?_; rintro e w6 ⟨tB2, cB2, rfl, h1, h2, h3, hb6⟩
                 have B6 : Hid (Below w5.heap.size w5 w6) := Lib.hid ((Below.refl _ _).drew.trans hb6)
                 have S6 := Lib.hid h3
                 clear h1 h2 h3 hb6))
          clear p0 p2
          have R6 := Lib.hid (HS.out _ B6.out).2.2
          have s1 := (HS.out _ B6.out).2.1.1
          have s2 := (HS.out _ B6.out).2.1.2
          have HQ : Hid (∀ w', Below w6.heap.size w6 w' → (w'.cell? ⟨gB, 1, none⟩ = some (.pointer (some ⟨tB0, 0, none⟩)) ∧ w'.cell? ⟨gB, 2, none⟩ = some (.int .i64 W)) ∧ LF w w' gB pB dB sB mB d2 tB0 cB0 c2 L2 W N2 E2 ∧ WS w' dB sB mB 2 d2 tB2 cB2 0 1 c2 W W) := Lib.hid fun w' hb => ⟨⟨(R6.out.lf.below hb R6.out.lf.lt).cell 1, (R6.out.lf.below hb R6.out.lf.lt).cell 2⟩, R6.out.below hb, S6.out.below hb⟩
          have HEp := Lib.hid (fun (w' : World) (tB cB : Nat) (L' : Int) (h : WS w' dB sB mB 2 d2 tB cB 0 1 c2 L' W) => epoch_any w' h)
          have HHo := Lib.hid (fun (w' : World) (tB cB : Nat) (L' : Int) (h : WS w' dB sB mB 2 d2 tB cB 0 1 c2 L' W) => holder_any w' h)
          have HMa := Lib.hid (fun (w' : World) (tB cB : Nat) (L' : Int) (h : WS w' dB sB mB 2 d2 tB cB 0 1 c2 L' W) => mask_any w' h)
          obtain ⟨X, hX⟩ : ∃ X, fx (c2).text = X := ⟨_, rfl⟩
          rw [hX] at HEp HHo HMa
          clear hX
          obtain ⟨ep, ho, ma, ch⟩ := X
          simp only at HEp HHo HMa
          have z1 : ((ep : Int) != ep) = false := by simp
          have z2 : ((ho : Int) != ho) = false := by simp
          have z3 : ((ma : Int) != ma) = false := by simp
          have z4 : ((W : Int) != W) = false := by simp
          go_upto_region 12 with fail
          go_region_held3 (fun w' => w'.cell? ⟨gB, 1, none⟩ = some (.pointer (some ⟨tB0, 0, none⟩)) ∧ w'.cell? ⟨gB, 2, none⟩ = some (.int .i64 W))
            (first
              | with_reducible exact ⟨s1, s2⟩
              | exact (HQ.out _ (Below.refl _ _).drew).1
              | exact (HQ.out _ C1.out).1
              | exact (HQ.out _ C2.out).1
              | exact (HQ.out _ C3.out).1
              | exact (HQ.out _ C4.out).1
              | exact (HQ.out _ C5.out).1
              | exact (HQ.out _ C6.out).1)
            (first
              | (go_at_call 12; with_reducible refine (HEp.out _ _ _ _ (HQ.out w6.drew (Below.refl _ _).drew).2.2).mono ?_; rintro e v1 ⟨rfl, hb⟩
                 have C1 : Hid (Below w6.heap.size w6 v1) := Lib.hid ((Below.refl _ _).drew.trans hb)
                 clear hb)
              | (go_at_call 12; with_reducible refine (HEp.out _ _ _ _ (HQ.out _ C1.out).2.1.ws).mono ?_; rintro e v2 ⟨rfl, hb⟩
                 have C2 : Hid (Below w6.heap.size w6 v2) := Lib.hid (C1.out.trans (hb.mono C1.out.size))
                 clear hb)
              | (go_at_call 14; with_reducible refine (HHo.out _ _ _ _ (HQ.out _ C2.out).2.2).mono ?_; rintro e v3 ⟨rfl, hb⟩
                 have C3 : Hid (Below w6.heap.size w6 v3) := Lib.hid (C2.out.trans (hb.mono C2.out.size))
                 clear hb)
              | (go_at_call 14; with_reducible refine (HHo.out _ _ _ _ (HQ.out _ C3.out).2.1.ws).mono ?_; rintro e v4 ⟨rfl, hb⟩
                 have C4 : Hid (Below w6.heap.size w6 v4) := Lib.hid (C3.out.trans (hb.mono C3.out.size))
                 clear hb)
              | (go_at_call 13; with_reducible refine (HMa.out _ _ _ _ (HQ.out _ C4.out).2.2).mono ?_; rintro e v5 ⟨rfl, hb⟩
                 have C5 : Hid (Below w6.heap.size w6 v5) := Lib.hid (C4.out.trans (hb.mono C4.out.size))
                 clear hb)
              | (go_at_call 13; with_reducible refine (HMa.out _ _ _ _ (HQ.out _ C5.out).2.1.ws).mono ?_; rintro e v6 ⟨rfl, hb⟩
                 have C6 : Hid (Below w6.heap.size w6 v6) := Lib.hid (C5.out.trans (hb.mono C5.out.size))
                 clear hb)
              | (go_at_call 17; with_reducible refine (left_any (HQ.out _ C6.out).2.2).mono ?_; rintro e v7 ⟨rfl, rfl⟩))
          have R9 := Lib.hid (HQ.out _ C6.out).2.1
          go_wp2
          go_roundw
          case rel => exact ⟨k + 1, _, _, _, _, _, by have := HK.out; omega, by have := HK.out; omega, by go_num, by have := HN.out; have := HN2.out; omega, HFr5.out, R9.out⟩
          case measure => have := HK.out; simp [intOf]; omega
        · have gk : ¬ x.kind ≤ 1 := hk
          clear hk
          go_upto_region 11 with (first
            | (refine wpList_loadG (by rfl) _ rfl b (off + k * 18) rfl x HRg.out ?_)
            | (go_at_call 10; with_reducible refine (HLg.out _).mono ?_; rintro e w4 ⟨rfl, hb4⟩
               have R4 := Lib.hid (HR.out.below hb4)
               have HRg4 : Hid (w4.rangeAt b (off + k * 18) x.cells) := Lib.hid (fun j v hv => (hb4.cell (p := ⟨b, off + k * 18 + j, none⟩) Hbl.out).trans (HRg.out j v hv))
               have y0' := (hb4.cell (p := ⟨b, off + k * 18, none⟩) Hbl.out).trans y0
               clear y0
               have q1' := R4.out.lf.cell 1
               simp only [lfC, List.getElem?_toArray, List.getElem?_cons_zero, List.getElem?_cons_succ] at q1'
               clear hb4))
          clear HLg HRg HRg4 HR q1
          have HFr5 := HFr
          have HFi : Hid (FI 2 0 1 d c) := Lib.hid R4.out.fi
          have HD5 := Lib.hid R4.out.ws.dev
          have HOp : Hid (∀ w', DevAt w' dB sB mB 2 d → Calls Try.prog 16 #[.pointer (some ⟨dB, 0, none⟩), .int .i64 0, .int .i64 1, .int .i64 W] w' fun e w'' => ∃ tB cB, e = .returned (.tuple #[.pointer (some ⟨tB, 0, none⟩), .int .i64 0]) ∧ w'.heap.size ≤ tB ∧ w'.heap.size ≤ cB ∧ WS w'' dB sB mB 2 d tB cB 0 1 c W W ∧ Below w'.heap.size w' w'') := Lib.hid fun w' h => by
            have := wopen_yes w' h HFr5.out.2 (a := 0) (b := 1) (by omega) (W := W) (by omega)
            rw [show there d 0 1 = c from fi_opened HFi.out HFr5.out.2] at this
            exact this
          have Hdl : Hid (dB ≠ w4.heap.size ∧ True) := Lib.hid ⟨by have := R4.out.ws.dev.ltD; omega, trivial⟩
          have p0 := R4.out.lf.cell 0
          have p2 := R4.out.lf.cell 2
          simp only [lfC, List.getElem?_toArray, List.getElem?_cons_zero, List.getElem?_cons_succ] at p0 p2
          have HLf := Lib.hid R4.out.lf
          have HS : Hid (∀ w', Below w4.heap.size w4 w' → (w'.cell? ⟨gB, 0, none⟩ = some (.pointer (some ⟨dB, 0, none⟩)) ∧ w'.cell? ⟨gB, 2, none⟩ = some (.int .i64 W)) ∧ (w'.cell? ⟨gB, 1, none⟩ = some (.pointer (some ⟨tB0, 0, none⟩)) ∧ w'.cell? ⟨gB, 2, none⟩ = some (.int .i64 W)) ∧ LF w w' gB pB dB sB mB d tB0 cB0 c L W N E) := Lib.hid fun w' hb => ⟨⟨(HLf.out.below hb HLf.out.lt).cell 0, (HLf.out.below hb HLf.out.lt).cell 2⟩, ⟨(HLf.out.below hb HLf.out.lt).cell 1, (HLf.out.below hb HLf.out.lt).cell 2⟩, R4.out.below hb⟩
          go_region_held3 (fun w' => w'.cell? ⟨gB, 0, none⟩ = some (.pointer (some ⟨dB, 0, none⟩)) ∧ w'.cell? ⟨gB, 2, none⟩ = some (.int .i64 W))
            (first
              | with_reducible exact ⟨p0, p2⟩
              | exact (HS.out _ (Below.refl _ _).drew).1
              | exact (HS.out _ B6.out).1)
            (first
              | (go_at_call 16; refine (HOp.out _ (HS.out _ (Below.refl _ _).drew).2.2.ws.dev).mono ?_; rintro e w6 ⟨tB2, cB2, rfl, h1, h2, h3, hb6⟩
                 have B6 : Hid (Below w4.heap.size w4 w6) := Lib.hid ((Below.refl _ _).drew.trans hb6)
                 have S6 := Lib.hid h3
                 clear h1 h2 h3 hb6))
          clear p0 p2
          have R6 := Lib.hid (HS.out _ B6.out).2.2
          have s1 := (HS.out _ B6.out).2.1.1
          have s2 := (HS.out _ B6.out).2.1.2
          have HQ : Hid (∀ w', Below w6.heap.size w6 w' → (w'.cell? ⟨gB, 1, none⟩ = some (.pointer (some ⟨tB0, 0, none⟩)) ∧ w'.cell? ⟨gB, 2, none⟩ = some (.int .i64 W)) ∧ LF w w' gB pB dB sB mB d tB0 cB0 c L W N E ∧ WS w' dB sB mB 2 d tB2 cB2 0 1 c W W) := Lib.hid fun w' hb => ⟨⟨(R6.out.lf.below hb R6.out.lf.lt).cell 1, (R6.out.lf.below hb R6.out.lf.lt).cell 2⟩, R6.out.below hb, S6.out.below hb⟩
          have HEp := Lib.hid (fun (w' : World) (tB cB : Nat) (L' : Int) (h : WS w' dB sB mB 2 d tB cB 0 1 c L' W) => epoch_any w' h)
          have HHo := Lib.hid (fun (w' : World) (tB cB : Nat) (L' : Int) (h : WS w' dB sB mB 2 d tB cB 0 1 c L' W) => holder_any w' h)
          have HMa := Lib.hid (fun (w' : World) (tB cB : Nat) (L' : Int) (h : WS w' dB sB mB 2 d tB cB 0 1 c L' W) => mask_any w' h)
          obtain ⟨X, hX⟩ : ∃ X, fx (c).text = X := ⟨_, rfl⟩
          rw [hX] at HEp HHo HMa
          clear hX
          obtain ⟨ep, ho, ma, ch⟩ := X
          simp only at HEp HHo HMa
          have z1 : ((ep : Int) != ep) = false := by simp
          have z2 : ((ho : Int) != ho) = false := by simp
          have z3 : ((ma : Int) != ma) = false := by simp
          have z4 : ((W : Int) != W) = false := by simp
          go_upto_region 12 with fail
          go_region_held3 (fun w' => w'.cell? ⟨gB, 1, none⟩ = some (.pointer (some ⟨tB0, 0, none⟩)) ∧ w'.cell? ⟨gB, 2, none⟩ = some (.int .i64 W))
            (first
              | with_reducible exact ⟨s1, s2⟩
              | exact (HQ.out _ (Below.refl _ _).drew).1
              | exact (HQ.out _ C1.out).1
              | exact (HQ.out _ C2.out).1
              | exact (HQ.out _ C3.out).1
              | exact (HQ.out _ C4.out).1
              | exact (HQ.out _ C5.out).1
              | exact (HQ.out _ C6.out).1)
            (first
              | (go_at_call 12; with_reducible refine (HEp.out _ _ _ _ (HQ.out w6.drew (Below.refl _ _).drew).2.2).mono ?_; rintro e v1 ⟨rfl, hb⟩
                 have C1 : Hid (Below w6.heap.size w6 v1) := Lib.hid ((Below.refl _ _).drew.trans hb)
                 clear hb)
              | (go_at_call 12; with_reducible refine (HEp.out _ _ _ _ (HQ.out _ C1.out).2.1.ws).mono ?_; rintro e v2 ⟨rfl, hb⟩
                 have C2 : Hid (Below w6.heap.size w6 v2) := Lib.hid (C1.out.trans (hb.mono C1.out.size))
                 clear hb)
              | (go_at_call 14; with_reducible refine (HHo.out _ _ _ _ (HQ.out _ C2.out).2.2).mono ?_; rintro e v3 ⟨rfl, hb⟩
                 have C3 : Hid (Below w6.heap.size w6 v3) := Lib.hid (C2.out.trans (hb.mono C2.out.size))
                 clear hb)
              | (go_at_call 14; with_reducible refine (HHo.out _ _ _ _ (HQ.out _ C3.out).2.1.ws).mono ?_; rintro e v4 ⟨rfl, hb⟩
                 have C4 : Hid (Below w6.heap.size w6 v4) := Lib.hid (C3.out.trans (hb.mono C3.out.size))
                 clear hb)
              | (go_at_call 13; with_reducible refine (HMa.out _ _ _ _ (HQ.out _ C4.out).2.2).mono ?_; rintro e v5 ⟨rfl, hb⟩
                 have C5 : Hid (Below w6.heap.size w6 v5) := Lib.hid (C4.out.trans (hb.mono C4.out.size))
                 clear hb)
              | (go_at_call 13; with_reducible refine (HMa.out _ _ _ _ (HQ.out _ C5.out).2.1.ws).mono ?_; rintro e v6 ⟨rfl, hb⟩
                 have C6 : Hid (Below w6.heap.size w6 v6) := Lib.hid (C5.out.trans (hb.mono C5.out.size))
                 clear hb)
              | (go_at_call 17; with_reducible refine (left_any (HQ.out _ C6.out).2.2).mono ?_; rintro e v7 ⟨rfl, rfl⟩))
          have R9 := Lib.hid (HQ.out _ C6.out).2.1
          go_wp2
          go_roundw
          case rel => exact ⟨k + 1, _, _, _, _, _, by have := HK.out; omega, by have := HK.out; omega, by go_num, by have := HN.out; omega, HFr5.out, R9.out⟩
          case measure => have := HK.out; simp [intOf]; omega
    · have hnone : True := trivial
      have hnot : (¬ k < n1) ∨ (k < n1 ∧ ¬ k < 100) := by omega
      rcases hnot with h9 | ⟨h8, h9⟩
      · have g1 : decide ((k : Int) < (n1 : Int)) = false := by simpa using h9
        go_wp2
        go_ret
        exact ⟨rfl, HR.out.be HGe.out⟩
      · have g1 : (k : Int) < (n1 : Int) := by omega
        have g2 : decide ((k : Int) < 100) = false := by simp; omega
        go_wp2
        go_ret
        exact ⟨rfl, HR.out.be HGe.out⟩

set_option maxRecDepth 100000 in
theorem lifted (os : Os) (started : os.Started) (H : Type) (enc : TypeId × Value → H) :
    ReturnsInHanded {} Try.checked os 5 .any (Rows.witnessAnewSpec.pre6 enc Try.prog Try.f5 Rows.witnessAnewRow.domain false) (Rows.witnessAnewSpec.post enc Try.prog Try.f5 false true false false) := by
  refine returnsInHanded_of_change (C := Try.checked) own started (by kernel_rfl) Try.func5
    (ChangeSpec.witness6 (enc := enc) (C := Try.checked) false ⟨#[], #[.int .u8 0, .slice none 0 0], []⟩ 8 (by kernel_rfl) (by kernel_rfl) (by kernel_rfl) (by kernel_rfl)) ?_
  intro W base args ds gs before hval0 hW hcnd _
  have hval : ∀ (j : Nat) t v, Try.f5.params[j]? = some t → args[j]? = some v → Value.okWide Try.prog W .any base t v := hval0
  have hW' := hW
  obtain ⟨p, q, hA0, hV, rfl, hfz, hnd⟩ := hW
  have hA : DataW.TrodAll enc Try.prog W 0 (fun _ => true) true Try.f5.params.toList args.toList ds p := hA0
  rw [Try.params5] at hA hval
  obtain ⟨v0, vs0, d0, ds0, p0, q0, hargs, rfl, rfl, h0, r0'⟩ := trodAll_cons hA
  obtain ⟨v1, vs1, d1, ds1, p1, q1, rfl, rfl, rfl, h1, r1'⟩ := trodAll_cons r0'
  obtain ⟨rfl, rfl, rfl⟩ := trodAll_nil r1'
  obtain rfl : args = #[v0, v1] := by cases args; simp_all
  obtain ⟨rfl, rfl⟩ := trodVars_none hV
  obtain ⟨x0, rfl, rfl, rfl, w0⟩ := open_int Try.underlying5 (hval 0 5 v0 rfl rfl) h0
  have k1 := h1
  have lt1 : ∀ x ∈ p1, x.block < W.heap.size := by obtain ⟨m, hm⟩ := k1; exact DataW.trod_lt m _ _ _ hm
  obtain ⟨a1, n1, c1, l1, rfl, w1⟩ := Wt.open_acts h1 (okWide_slice Try.underlying22 (hval 1 22 v1 rfl rfl))
  clear hA0 hval0
  refine (walk x0 a1 n1 c1 l1 W w0 w1).mono fun e W' ⟨he, bel⟩ => ?_
  subst he
  exact ⟨_, rfl, _, _, _, [], _, [], hW', trodAll_mk1 (shut_bool Try.underlying4 _), (trodAll_cons_mk (shut_int Try.underlying5 w0) (trodAll_cons_mk (Below.trod laidOut (by kernel_rfl) (of_decide_eq_true (by kernel_rfl)) k1 bel lt1) trodAll_mk0)), rfl, bel.frame _, fun h => by cases h⟩

theorem over : Rows.witnessAnewRow.holds Try.pinned (OpenSpec.ofChange Rows.witnessAnewSpec) :=
  OpenClaim.holds_of_wide 5 Try.f5 rfl rfl rfl rfl rfl rfl rfl ⟨rfl, rfl, rfl, rfl, rfl⟩ rfl rfl rfl rfl rfl (by kernel_rfl) Try.func5 (by kernel_rfl)
    (of_decide_eq_true (by kernel_rfl)) (by unfold Func.isWrapper; first | (rw [if_pos (by decide +kernel)]; kernel_rfl) | (rw [if_neg (by decide +kernel)]; exact ⟨rfl, rfl⟩))
    (fun os started H enc _ => lifted os started H enc)

/-- the statement -/
theorem proved : Rows.WitnessAnewSaid := over
#print axioms proved
end Go.Proofs.Ytpoolpckabpnfaa.witnessAnew
