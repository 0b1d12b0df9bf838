/-
  PROVED: an elder token is refused: the token never goes down, not behind crashes either; what was accepted with one stays what it is when an elder one comes. CONDITIONS: none (any number of blocks; any acts, of which up to 60 are done, but writes to the device; in a crash no sector tears).
-/
import Derived.Test.YtofhijnfbilieaaBkMore
import Derived.Test.YtofhijnfbilieaaBkFen3
import Derived.BigQuiet
import Derived.Deep.RegionHeld3
import Derived.Deep.DeepCutAuto
namespace Go.Proofs.Ytofhijnfbilieaa.backingFences
open Go.ChangeShapes Go.WideShapes Go.ChangeAt Go.RowKit Go.Joins
open Go.ChangeMaps (open_string shut_string)
set_option linter.unusedVariables false
set_option linter.unusedSimpArgs false
set_option maxRecDepth 20000

open Bk

set_option maxHeartbeats 4000000 in
theorem walk (x0 : Int) (a1 : Option Addr) (n1 c1 : Nat) (l1 : List Bk.Ac) (w : World) (w0 : (Lit.int .u8 x0).wf = true) (w1 : Bk.Acts w a1 n1 c1 l1) :
    Calls Try.prog 3 #[.int .u8 x0, .slice a1 n1 c1] w fun e w' => e = .returned (.bool true) ∧ Below w.heap.size w w' := by
  have hx := u8_in w0
  obtain ⟨bl, hbl⟩ : ∃ bl, bl = (x0 % 32).toNat + 1 := ⟨_, rfl⟩
  have hb32 : 1 ≤ bl ∧ bl ≤ 32 := by omega
  have HA := Lib.hid (awake_any w)
  have HL := Lib.hid (lopen_fs w hx hbl)
  have HW := Lib.hid w1
  have hcap : n1 ≤ 9223372036854775807 := by have := w1.2.1; have := w1.2.2.1; simp only [maxLen] at this; omega
  have Hb := Lib.hid hb32
  clear w0 w1 hx hbl hb32
  go_enter Try.func3, Try.ntmps3
  go_wp2_with (first
    | (go_at_call 8; with_reducible refine HA.out.mono ?_; rintro e w1 ⟨rfl, hb1⟩
       have HB1 := Lib.hid hb1
       clear hb1)
    | (go_at_call 9; with_reducible refine (HL.out _ HB1.out).mono ?_; rintro e w2 ⟨dB, sB, mB, tB0, K0, rfl, hrs⟩
       have HR0 := Lib.hid hrs
       clear hrs))
  clear HA HL HB1
  go_loopw [6, 8, 9] (fun cp tv i wr => ∃ (k : Nat) (d : M.Dv) (C : Cs) (tB : Nat) (K : Nat → Nat), k ≤ n1 ∧ k ≤ 60 ∧ cp = .pointer (some ⟨tB, 0, none⟩) ∧ tv = .int .i64 (token C) ∧ i = .int .i64 (k : Int) ∧ FS w wr dB sB mB (2 + 2 * bl) bl d tB K C) (fun _ _ i _ => 60 - (intOf i).toNat)
  case atStart => exact ⟨0, _, _, _, _, by omega, by omega, rfl, by rw [token_fresh], rfl, HR0.out⟩
  case round =>
    obtain ⟨k, d, C, tB, K, hk1, hk2, rfl, rfl, rfl, hr⟩ := hrel
    have HR := Lib.hid hr
    clear hr HR0
    by_cases hlt : k < n1 ∧ k < 60
    · have g1 : (k : Int) < (n1 : Int) := by omega
      have g2 : (k : Int) < 60 := by omega
      have g0 : (0 : Int) ≤ (k : Int) := by omega
      obtain ⟨b, off, x, rfl, _, hok, hb, hc⟩ := acts_at HW.out HR.out.be (show k < n1 by omega)
      have HOk := Lib.hid hok
      have HTk := Lib.hid (fun w' (h : FS w w' dB sB mB (2 + 2 * bl) bl d tB K C) => h.take x.m)
      have HFI := Lib.hid (HR.out.fi.take x.m)
      have HLg := Lib.hid (fun w' => large_any w' x)
      have HTo := Lib.hid (fun w' (h : FS w w' dB sB mB (2 + 2 * bl) bl d tB K C) => h.tok)
      have HG0 := Lib.hid (fun w' (h : FS w w' dB sB mB (2 + 2 * bl) bl d tB K C) => bget_any w' h.st x.m.block)
      have HRg : Hid (wr.rangeAt b (off + k * 17) x.cells) := Lib.hid (fun j v hv => by rw [Nat.add_assoc]; exact hc j v hv)
      clear hc hok
      simp only [Ml.msgV, Ml.Mg.cells] at HTk
      obtain ⟨lg, hlg⟩ : ∃ lg, decide (Lrg x) = lg := ⟨_, rfl⟩
      rw [hlg] at HLg
      have HG1 : Hid (wr.heap.size ∉ ours dB sB mB bl K ∧ wr.heap.size ≠ tB ∧ ∀ b ∈ ours dB sB mB bl K, b < wr.heap.size) := Lib.hid ⟨mem_lt HR.out.st (Nat.le_refl _), by have := HR.out.st.ours_lt.1; omega, HR.out.st.ours_lt.2⟩
      have HK : Hid (k < n1 ∧ k < 60) := Lib.hid hlt
      have Hlg := Lib.hid hlg
      clear hlt hk1 hk2 hlg
      go_upto_region 11 with (first
        | (refine wpList_loadA rfl _ rfl b (off + k * 17) rfl x HRg.out ?_)
        | (refine wpList_allocA rfl rfl ?_; intro w1 hw1; have X0 := Lib.hid (hw1 ▸ XA.new wr az : XA w1 wr.heap.size az); have B0 := Lib.hid (hw1 ▸ (Below.refl wr.heap.size wr).alloc (Nat.le_refl _) _ : Below wr.heap.size wr w1); clear hw1)
        | (refine wpList_storeA rfl _ _ rfl wr.heap.size rfl x rfl X0.out.there ?_; intro w2 hw2; have X1 := Lib.hid (hw2 ▸ X0.out.store x : XA w2 wr.heap.size x); have B1 := Lib.hid (hw2 ▸ belowA_setCells (Nat.le_refl _) _ _ B0.out : Below wr.heap.size wr w2); clear hw2))
      have R1 := Lib.hid (HR.out.below B1.out)
      have HOk1 := Lib.hid (HOk.out.below B1.out)
      clear X0 B0 B1 HRg HR HOk
      generalize wr.heap.size = G at *
      cases lg with
      | true =>
        go_wp2_with (first
          | (refine wpList_loadA rfl _ rfl G 0 rfl x X1.out.range ?_)
          | (go_at_call 10; with_reducible refine (HLg.out _).mono ?_; rintro e w4 ⟨rfl, hb4⟩; have R4 := Lib.hid (R1.out.below hb4); clear hb4))
        go_ret
        exact ⟨rfl, R4.out.be⟩
      | false =>
        go_upto_region 13 with (first
          | (refine wpList_loadA rfl _ rfl G 0 rfl x X1.out.range ?_)
          | (go_at_call 10; with_reducible refine (HLg.out _).mono ?_; rintro e w4 ⟨rfl, hb4⟩
             have R4 := Lib.hid (R1.out.below hb4)
             have X4 := Lib.hid (X1.out.below hb4 X1.out.lt)
             have HOk4 := Lib.hid (HOk1.out.below hb4)
             clear hb4))
        clear R1 X1 HOk1 HLg
        have y0 := X4.out.cell 0
        simp only [List.getElem?_toArray, Ac.cells, List.getElem?_cons_zero, List.getElem?_cons_succ] at y0
        have hn600 : x.nL ≤ 600 := by have h := of_decide_eq_false Hlg.out; unfold Lrg at h; omega
        have HN6 := Lib.hid hn600
        clear Hlg hn600
        by_cases h0 : x.kind = 0
        · have d0 : (x.kind == 0) = true := by simpa using h0
          as_aux_lemma =>
            obtain ⟨f1, f2, f3, f4, f5⟩ := HFI.out
            have f3' : x.m.epoch < token C → (getV bl (takC (2 + 2 * bl) 0 bl d C x.m) x.m.block = getV bl C x.m.block) ∧ (takI (2 + 2 * bl) 0 bl d C x.m = true → (takA (2 + 2 * bl) 0 bl d C x.m).e = 24) := fun h => ⟨by unfold getV; rw [(f3 h).1], (f3 h).2⟩
            clear f1 f3 HFI
            generalize hI : takI (2 + 2 * bl) 0 bl d C x.m = is at *
            generalize hA : takA (2 + 2 * bl) 0 bl d C x.m = A at *
            generalize hC : takC (2 + 2 * bl) 0 bl d C x.m = C2 at *
            generalize hD : takD (2 + 2 * bl) 0 bl d C x.m = d2 at *
            clear hI hA hC hD
            have HG2 := Lib.hid (fun w' (h : FS w w' dB sB mB (2 + 2 * bl) bl d2 tB K C2) => bget_any w' h.st x.m.block)
            have HT2 := Lib.hid (fun w' (h : FS w w' dB sB mB (2 + 2 * bl) bl d2 tB K C2) => h.tok)
            have HFin : Hid (∀ w' tk, FS w w' dB sB mB (2 + 2 * bl) bl d2 tB K C2 → tk = token C2 → ∃ (k' : Nat) (d' : M.Dv) (C' : Cs) (tB' : Nat) (K' : Nat → Nat), k' ≤ n1 ∧ k' ≤ 60 ∧ (Value.pointer (some ⟨tB, 0, none⟩)) = .pointer (some ⟨tB', 0, none⟩) ∧ Value.int .i64 tk = .int .i64 (token C') ∧ Value.int .i64 ((k : Int) + 1) = .int .i64 (k' : Int) ∧ FS w w' dB sB mB (2 + 2 * bl) bl d' tB' K' C') := Lib.hid fun w' tk h e => ⟨k + 1, _, _, _, _, by have := HK.out; omega, by have := HK.out; omega, rfl, by rw [e], by go_num, h⟩
            generalize hg1 : getV bl C x.m.block = gv at *
            generalize hg2 : getV bl C2 x.m.block = hv at *
            obtain ⟨gp, gq, gs⟩ := gv
            obtain ⟨hp, hq, hs⟩ := hv
            obtain ⟨ak, aep, asq, aN, ab, acl, ae, at0, at1, at2, at3, adt, arw⟩ := A
            generalize htk : token C = tk at *
            generalize htk2 : token C2 = tk2 at *
            simp only [Ml.msgV, Ml.Mg.cells, verV, Prod.mk.injEq] at HTk HG0 HG2 f3' f4 f5
            clear hg1 hg2 htk
            have y6 := X4.out.cell 6
            simp only [List.getElem?_toArray, Ac.cells, List.getElem?_cons_zero, List.getElem?_cons_succ] at y6
            go_upto_region 16 with (go_at_call 11; with_reducible refine (HG0.out _ R4.out).mono ?_; rintro e w5 ⟨rfl, hbx⟩
                                    have hbw := hbx.alloc hbx.size (.cells #[.int .i64 gp, .int .i64 gq] 37)
                                    have R6 := Lib.hid (R4.out.below hbw)
                                    have X6 := Lib.hid (X4.out.below hbw X4.out.lt)
                                    have V6 := Lib.hid (Bo.new w5 #[.int .i64 gp, .int .i64 gq] 37)
                                    have HG6 : Hid (w5.heap.size ∉ ours dB sB mB bl K) := Lib.hid (fun z => by have := R4.out.st.ours_lt.2 _ z; have := hbx.size; omega)
                                    clear hbx hbw)
            generalize w5.alloc (.cells #[.int .i64 gp, .int .i64 gq] 37) = W6 at *
            generalize w5.heap.size = GV at *
            clear y0 y6 R4 X4 HG0
            have y2 := X6.out.cell 2
            have y3 := X6.out.cell 3
            have y4 := X6.out.cell 4
            have y5 := X6.out.cell 5
            have y6 := X6.out.cell 6
            have y7 := X6.out.cell 7
            have y8 := X6.out.cell 8
            have y9 := X6.out.cell 9
            have y10 := X6.out.cell 10
            have y11 := X6.out.cell 11
            have y12 := X6.out.cell 12
            have y13 := X6.out.cell 13
            have y14 := X6.out.cell 14
            simp only [List.getElem?_toArray, Ac.cells, List.getElem?_cons_zero, List.getElem?_cons_succ] at y2 y3 y4 y5 y6 y7 y8 y9 y10 y11 y12 y13 y14
            go_upto_region 17 with (go_at_call 12; with_reducible refine (HTk.out _ R6.out).mono ?_; rintro e w7 ⟨rfl, hr7, hb7⟩
                                    have hn7 := (Below.refl w7.heap.size w7).alloc (Nat.le_refl _) (.cells #[.int .i64 ak, .int .i64 aep, .int .i64 asq, .int .i64 aN, .int .i64 ab, .int .i64 acl, .int .i64 ae, .int .i64 at0, .int .i64 at1, .int .i64 at2, .int .i64 at3, .string adt, .string arw] 31)
                                    have R8 := Lib.hid (hr7.below hn7)
                                    have X8 := Lib.hid ((X6.out.but hb7 HG1.out.1).below hn7 (Nat.lt_of_lt_of_le X6.out.lt hb7.size))
                                    have V8 := Lib.hid ((V6.out.but hb7 HG6.out).below hn7 (Nat.lt_of_lt_of_le V6.out.lt hb7.size))
                                    have A8 := Lib.hid (Bo.new w7 #[.int .i64 ak, .int .i64 aep, .int .i64 asq, .int .i64 aN, .int .i64 ab, .int .i64 acl, .int .i64 ae, .int .i64 at0, .int .i64 at1, .int .i64 at2, .int .i64 at3, .string adt, .string arw] 31)
                                    clear hr7 hb7 hn7)
            generalize w7.alloc (.cells #[.int .i64 ak, .int .i64 aep, .int .i64 asq, .int .i64 aN, .int .i64 ab, .int .i64 acl, .int .i64 ae, .int .i64 at0, .int .i64 at1, .int .i64 at2, .int .i64 at3, .string adt, .string arw] 31) = W8 at *
            generalize w7.heap.size = GA at *
            clear R6 X6 V6 HTk y2 y3 y4 y5 y6 y7 y8 y9 y10 y11 y12 y13 y14
            have y6 := X8.out.cell 6
            simp only [List.getElem?_toArray, Ac.cells, List.getElem?_cons_zero, List.getElem?_cons_succ] at y6
            go_upto_region 18 with (go_at_call 11; with_reducible refine (HG2.out _ R8.out).mono ?_; rintro e w9 ⟨rfl, hbx⟩
                                    have hbw := hbx.alloc hbx.size (.cells #[.int .i64 hp, .int .i64 hq] 37)
                                    have R10 := Lib.hid (R8.out.below hbw)
                                    have X10 := Lib.hid (X8.out.below hbw X8.out.lt)
                                    have V10 := Lib.hid (V8.out.below hbw V8.out.lt)
                                    have A10 := Lib.hid (A8.out.below hbw A8.out.lt)
                                    have N10 := Lib.hid (Bo.new w9 #[.int .i64 hp, .int .i64 hq] 37)
                                    clear hbx hbw)
            generalize w9.alloc (.cells #[.int .i64 hp, .int .i64 hq] 37) = W at *
            generalize w9.heap.size = GN at *
            clear y6 R8 X8 V8 A8 HG2 HG1 HG6 HOk4 HTo
            have y3 := X10.out.cell 3
            have y6 := X10.out.cell 6
            simp only [List.getElem?_toArray, Ac.cells, List.getElem?_cons_zero, List.getElem?_cons_succ] at y3 y6
            have a6 := A10.out.cell 6
            simp only [List.getElem?_toArray, Ac.cells, List.getElem?_cons_zero, List.getElem?_cons_succ] at a6
            have v0 := V10.out.cell 0
            have v1 := V10.out.cell 1
            simp only [List.getElem?_toArray, Ac.cells, List.getElem?_cons_zero, List.getElem?_cons_succ] at v0 v1
            have n0 := N10.out.cell 0
            have n1 := N10.out.cell 1
            simp only [List.getElem?_toArray, Ac.cells, List.getElem?_cons_zero, List.getElem?_cons_succ] at n0 n1
            by_cases hl : x.m.epoch < tk
            · obtain ⟨⟨rfl, rfl, rfl⟩, f24⟩ := f3' hl
              have vn := ver_neq hp hq hp hq
              simp only [and_self, decide_true, Bool.not_true] at vn
              have hl' : ¬ tk ≤ x.m.epoch := by omega
              have hz : ¬ tk2 < tk := by omega
              clear f4 f5
              cases is with
              | false =>
                as_aux_lemma =>
                  clear f24
                  go_upto_region 20 with fail
                  go_quiet (fail)
                  generalize hWq : W.drewN nq = Wq at *
                  have hbq : Below W.heap.size W Wq := by rw [← hWq]; exact drewN_below _ _ _
                  clear hWq
                  have R30 := Lib.hid (R10.out.below hbq)
                  clear y3 y6 a6 v0 v1 n0 n1
                  have y3 := (X10.out.below hbq X10.out.lt).cell 3
                  simp only [List.getElem?_toArray, Ac.cells, List.getElem?_cons_zero, List.getElem?_cons_succ] at y3
                  have a6 := (A10.out.below hbq A10.out.lt).cell 6
                  simp only [List.getElem?_toArray, Ac.cells, List.getElem?_cons_zero, List.getElem?_cons_succ] at a6
                  go_wp2_with (first
                    | (go_at_call 13; with_reducible refine (HT2.out _ R30n.out).mono ?_; rintro e wb ⟨rfl, hbb⟩
                       have R30m := Lib.hid (R30n.out.below hbb)
                       clear hbb)
                    | (go_at_call 13; with_reducible refine (HT2.out _ R30.out).mono ?_; rintro e wa ⟨rfl, hba⟩
                       have R30n := Lib.hid (R30.out.below hba)
                       clear hba))
                  go_roundw
                  case rel => exact HFin.out _ _ R30m.out (by first | rfl | exact htk2.symm)
                  case measure => have := HK.out; simp [intOf]; omega
              | true =>
                as_aux_lemma =>
                  obtain rfl := f24 rfl
                  go_upto_region 20 with fail
                  go_quiet (fail)
                  generalize hWq : W.drewN nq = Wq at *
                  have hbq : Below W.heap.size W Wq := by rw [← hWq]; exact drewN_below _ _ _
                  clear hWq
                  have R30 := Lib.hid (R10.out.below hbq)
                  clear y3 y6 a6 v0 v1 n0 n1
                  have y3 := (X10.out.below hbq X10.out.lt).cell 3
                  simp only [List.getElem?_toArray, Ac.cells, List.getElem?_cons_zero, List.getElem?_cons_succ] at y3
                  have a6 := (A10.out.below hbq A10.out.lt).cell 6
                  simp only [List.getElem?_toArray, Ac.cells, List.getElem?_cons_zero, List.getElem?_cons_succ] at a6
                  go_wp2_with (first
                    | (go_at_call 13; with_reducible refine (HT2.out _ R30n.out).mono ?_; rintro e wb ⟨rfl, hbb⟩
                       have R30m := Lib.hid (R30n.out.below hbb)
                       clear hbb)
                    | (go_at_call 13; with_reducible refine (HT2.out _ R30.out).mono ?_; rintro e wa ⟨rfl, hba⟩
                       have R30n := Lib.hid (R30.out.below hba)
                       clear hba))
                  go_roundw
                  case rel => exact HFin.out _ _ R30m.out (by first | rfl | exact htk2.symm)
                  case measure => have := HK.out; simp [intOf]; omega
            · have hl' : tk ≤ x.m.epoch := by omega
              have hz : ¬ tk2 < tk := by omega
              clear f3'
              cases is with
              | false =>
                as_aux_lemma =>
                  clear f4 f5
                  go_upto_region 20 with fail
                  go_quiet (fail)
                  generalize hWq : W.drewN nq = Wq at *
                  have hbq : Below W.heap.size W Wq := by rw [← hWq]; exact drewN_below _ _ _
                  clear hWq
                  have R30 := Lib.hid (R10.out.below hbq)
                  clear y3 y6 a6 v0 v1 n0 n1
                  have y3 := (X10.out.below hbq X10.out.lt).cell 3
                  simp only [List.getElem?_toArray, Ac.cells, List.getElem?_cons_zero, List.getElem?_cons_succ] at y3
                  have a6 := (A10.out.below hbq A10.out.lt).cell 6
                  simp only [List.getElem?_toArray, Ac.cells, List.getElem?_cons_zero, List.getElem?_cons_succ] at a6
                  go_wp2_with (first
                    | (go_at_call 13; with_reducible refine (HT2.out _ R30n.out).mono ?_; rintro e wb ⟨rfl, hbb⟩
                       have R30m := Lib.hid (R30n.out.below hbb)
                       clear hbb)
                    | (go_at_call 13; with_reducible refine (HT2.out _ R30.out).mono ?_; rintro e wa ⟨rfl, hba⟩
                       have R30n := Lib.hid (R30.out.below hba)
                       clear hba))
                  go_roundw
                  case rel => exact HFin.out _ _ R30m.out (by first | rfl | exact htk2.symm)
                  case measure => have := HK.out; simp [intOf]; omega
              | true =>
                have he24 : ae ≠ 24 := f4 rfl (by first | exact hl | exact hl')
                by_cases he0 : ae = 0
                · subst he0
                  as_aux_lemma =>
                    have hz2 : x.m.epoch ≤ tk2 := f5 rfl rfl
                    have hz3 : ¬ tk2 < x.m.epoch := by omega
                    clear f4 f5 he24
                    have hmx : max tk x.m.epoch = x.m.epoch := by omega
                    have HS : Hid (∀ w', Below W.heap.size W w' → w'.cell? ⟨G, 3, none⟩ = some (.int .i64 x.m.epoch) ∧ w'.cell? ⟨GA, 6, none⟩ = some (.int .i64 0)) := Lib.hid fun w' hb => ⟨(X10.out.below hb X10.out.lt).cell 3, (A10.out.below hb A10.out.lt).cell 6⟩
                    go_upto_region 20 with fail
                    clear y3 y6 a6 v0 v1 n0 n1
                    obtain ⟨z3, z6⟩ := HS.out W (Below.refl _ _)
                    go_region_held3 (fun w' => w'.cell? ⟨G, 3, none⟩ = some (.int .i64 x.m.epoch) ∧ w'.cell? ⟨GA, 6, none⟩ = some (.int .i64 0))
                      (first
                        | exact HS.out W (Below.refl _ _)
                        | exact HS.out _ (Below.refl W.heap.size W).drew
                        | exact HS.out _ B20.out)
                      (first
                        | (go_at_call 13; refine (HT2.out W.drew (R10.out.below (Below.refl W.heap.size W).drew)).mono ?_; rintro e20 w20 ⟨rfl, hb20⟩
                           have B20 : Hid (Below W.heap.size W w20) := Lib.hid ((Below.refl W.heap.size W).drew.trans hb20)
                           clear hb20))
                    clear z3 z6
                    have R30 := Lib.hid (R10.out.below B20.out)
                    obtain ⟨y3, a6⟩ := HS.out _ B20.out
                    go_wp2_with (first
                      | (go_at_call 13; with_reducible refine (HT2.out _ R30n.out).mono ?_; rintro e wb ⟨rfl, hbb⟩
                         have R30m := Lib.hid (R30n.out.below hbb)
                         clear hbb)
                      | (go_at_call 13; with_reducible refine (HT2.out _ R30.out).mono ?_; rintro e wa ⟨rfl, hba⟩
                         have R30n := Lib.hid (R30.out.below hba)
                         clear hba))
                    go_roundw
                    case rel => exact HFin.out _ _ R30m.out (by first | rfl | exact htk2.symm)
                    case measure => have := HK.out; simp [intOf]; omega
                · have h24' : (ae == 24) = false := by rw [beq_eq_false_iff_ne]; exact he24
                  as_aux_lemma =>
                    have h0' : (ae == 0) = false := by rw [beq_eq_false_iff_ne]; exact he0
                    clear f4 f5
                    go_upto_region 20 with fail
                    go_quiet (fail)
                    generalize hWq : W.drewN nq = Wq at *
                    have hbq : Below W.heap.size W Wq := by rw [← hWq]; exact drewN_below _ _ _
                    clear hWq
                    have R30 := Lib.hid (R10.out.below hbq)
                    clear y3 y6 a6 v0 v1 n0 n1
                    have y3 := (X10.out.below hbq X10.out.lt).cell 3
                    simp only [List.getElem?_toArray, Ac.cells, List.getElem?_cons_zero, List.getElem?_cons_succ] at y3
                    have a6 := (A10.out.below hbq A10.out.lt).cell 6
                    simp only [List.getElem?_toArray, Ac.cells, List.getElem?_cons_zero, List.getElem?_cons_succ] at a6
                    go_wp2_with (first
                      | (go_at_call 13; with_reducible refine (HT2.out _ R30n.out).mono ?_; rintro e wb ⟨rfl, hbb⟩
                         have R30m := Lib.hid (R30n.out.below hbb)
                         clear hbb)
                      | (go_at_call 13; with_reducible refine (HT2.out _ R30.out).mono ?_; rintro e wa ⟨rfl, hba⟩
                         have R30n := Lib.hid (R30.out.below hba)
                         clear hba))
                    go_roundw
                    case rel => exact HFin.out _ _ R30m.out (by first | rfl | exact htk2.symm)
                    case measure => have := HK.out; simp [intOf]; omega
        have d0 : (x.kind == 0) = false := by rw [beq_eq_false_iff_ne]; exact h0
        clear h0 HTk HFI HG0
        by_cases h1 : x.kind = 1
        · have d1 : (x.kind == 1) = true := by simpa using h1
          as_aux_lemma =>
            have y16 := X4.out.cell 16
            simp only [List.getElem?_toArray, Ac.cells, List.getElem?_cons_zero, List.getElem?_cons_succ] at y16
            have hba := (Below.refl w4.heap.size w4).alloc (Nat.le_refl _) (.cells #[] 44)
            have R5 := Lib.hid (R4.out.below hba)
            have X5 := Lib.hid (X4.out.below hba X4.out.lt)
            have q16 := X5.out.cell 16
            simp only [List.getElem?_toArray, Ac.cells, List.getElem?_cons_zero, List.getElem?_cons_succ] at q16
            have HL5 := Lib.hid (HOk4.out.below hba).1
            clear hba X5
            go_wp2_with (first
              | (at_builtin
                 refine wpList_append_keeps _ rfl (.tmp 137) (.tmp 139) rfl (base := w4.heap.size) rfl (Nat.le_refl _) (heap_alloc_new w4 _) x.aL x.nL x.cL x.l rfl HL5.out HN6.out ?_
                 intro g5 c5 w5 hko hb5
                 have HKo := Lib.hid hko
                 have R6 : Hid (FS w w5 dB sB mB (2 + 2 * bl) bl d tB K C) := Lib.hid (R5.out.below (hb5.to_below (by simp) (Nat.le_refl _)))
                 have HG5 : Hid (g5 ∉ ours dB sB mB bl K ∧ g5 ≠ tB ∧ w.heap.size ≤ g5) := Lib.hid (by
                   have h1 := R4.out.st.ours_lt; have h2 := hko.bs; have h3 := R4.out.be.size
                   exact ⟨fun z => by have := h1.2 _ z; omega, by omega, by omega⟩)
                 clear hko hb5))
            clear y0 y16 q16 R4 X4 R5 HOk4 HL5
            have hnl0 : (0 : Int) ≤ (x.nL : Int) := by omega
            have hnlI : (x.nL : Int) ≤ 600 := by have := HN6.out; omega
            go_loopw [143] (fun js wz => ∃ (j : Nat) (ks : List (Int × Int)), j ≤ x.nL ∧ js = .int .i64 (j : Int) ∧ Hid (KOwn w4.heap.size wz g5 x.nL c5 ks) ∧ Hid (∀ y ∈ ks.take j, y.1 = 0 ∨ y.1 = 1) ∧ Hid (But [g5] w5 wz)) (fun js _ => x.nL - (intOf js).toNat)
            case atStart => exact ⟨0, _, by omega, rfl, HKo, Lib.hid (by simp), Lib.hid (But.refl _ _)⟩
            case round =>
              obtain ⟨j, ks, hj, rfl, HKj, HAj, HBj⟩ := hrel
              by_cases hjl : j < x.nL
              · have hjI : (j : Int) < (x.nL : Int) := by omega
                as_aux_lemma =>
                  have hj0 : (0 : Int) ≤ (j : Int) := by omega
                  obtain ⟨y, hy⟩ : ∃ y, ks[j]? = some y := ⟨_, List.getElem?_eq_getElem (by rw [HKj.out.ln]; exact hjl)⟩
                  have c0 := (HKj.out.cl j y hy).1
                  have fz := HKj.out.fz
                  obtain ⟨mm, hmm, hband⟩ := and1 y.1
                  have HKs := Lib.hid (HKj.out.set hy mm)
                  have HMm := Lib.hid hmm
                  have HJl := Lib.hid hjl
                  have HTk2 : Hid ((ks.set j (mm, y.2)).take (j + 1) = ks.take j ++ [(mm, y.2)]) := Lib.hid (by
                    have hjk : j < ks.length := by rw [HKj.out.ln]; exact hjl
                    rw [List.take_add_one, List.take_set_of_le (Nat.le_refl _), List.getElem?_set_self hjk]
                    rfl)
                  clear hjl hj hy hmm
                  go_wp2_with fail
                  go_roundw
                  case rel =>
                    refine ⟨j + 1, _, by have := HJl.out; omega, by go_num, HKs, Lib.hid (fun z hz => ?_), Lib.hid (HBj.out.set _ (.inl (by simp)))⟩
                    rw [HTk2.out] at hz
                    rcases List.mem_append.1 hz with hz | hz
                    · exact HAj.out z hz
                    · obtain rfl : z = (mm, y.2) := by simpa using hz
                      exact HMm.out
                  case measure => have := HJl.out; simp [intOf]; omega
              · obtain rfl : j = x.nL := by omega
                as_aux_lemma =>
                  have hjI : ¬ (x.nL : Int) < (x.nL : Int) := by omega
                  have R7 : Hid (FS w _ dB sB mB (2 + 2 * bl) bl d tB K C) := Lib.hid ⟨R6.out.st.but HBj.out (fun z hz => by (have hzz : z = g5 := (by simpa using hz)); subst hzz; exact ⟨HG5.out.2.1, HG5.out.1⟩), R6.out.fi, R6.out.be.trans (HBj.out.to_below (by simp; exact HG5.out.2.2) R6.out.be.size), R6.out.ge⟩
                  have HCr := Lib.hid (R7.out.crash g5 x.nL c5 ks HKj.out.row HG5.out.1 (fun z hz => HAj.out z (by rw [List.take_of_length_le (by rw [HKj.out.ln]; exact Nat.le_refl _)]; exact hz)))
                  clear hjl hj
                  go_wp2_with (first
                    | (go_at_call 14; with_reducible refine HCr.out.mono ?_; rintro e w8 ⟨rfl, hfd, _⟩
                       have HTc := Lib.hid hfd.tk
                       have HOp := Lib.hid hfd.open
                       clear hfd)
                    | (go_at_call 15; with_reducible refine HOp.out.mono ?_; rintro e w9 ⟨tB2, K2, rfl, hr9, _⟩
                       have R30 := Lib.hid hr9
                       have HT2 := Lib.hid (fun w' (h : FS w w' dB sB mB (2 + 2 * bl) bl (M.crashD (2 + 2 * bl) d ks) tB2 K2 (there (M.crashD (2 + 2 * bl) d ks) 0)) => h.tok)
                       have hz : ¬ token (there (M.crashD (2 + 2 * bl) d ks) 0) < token C := by have := HTc.out; omega
                       clear hr9)
                    | (go_at_call 13; with_reducible refine (HT2.out _ R30n.out).mono ?_; rintro e wb ⟨rfl, hbb⟩
                       have R30m := Lib.hid (R30n.out.below hbb)
                       clear hbb)
                    | (go_at_call 13; with_reducible refine (HT2.out _ R30.out).mono ?_; rintro e wa ⟨rfl, hba⟩
                       have R30n := Lib.hid (R30.out.below hba)
                       clear hba))
                  go_roundw
                  case rel => exact ⟨k + 1, _, _, _, _, by have := HK.out; omega, by have := HK.out; omega, rfl, rfl, by go_num, R30m.out⟩
                  case measure => have := HK.out; simp [intOf]; omega
        have d1 : (x.kind == 1) = false := by rw [beq_eq_false_iff_ne]; exact h1
        clear h1
        by_cases h2 : x.kind = 2
        · have d2 : (x.kind == 2) = true := by simpa using h2
          as_aux_lemma =>
            have y1 := X4.out.cell 1
            simp only [List.getElem?_toArray, Ac.cells, List.getElem?_cons_zero, List.getElem?_cons_succ] at y1
            have HFu := Lib.hid (R4.out.fuse x.n HOk4.out.2.1)
            go_wp2_with (first
              | (go_at_call 16; with_reducible refine HFu.out.mono ?_; rintro e w5 ⟨rfl, hr5, _⟩
                 have R30 := Lib.hid hr5
                 have HT2 := Lib.hid (fun w' (h : FS w w' dB sB mB (2 + 2 * bl) bl (M.fuseD d x.n) tB K C) => h.tok)
                 have hz : ¬ token C < token C := by omega
                 clear hr5)
              | (go_at_call 13; with_reducible refine (HT2.out _ R30n.out).mono ?_; rintro e wb ⟨rfl, hbb⟩
                 have R30m := Lib.hid (R30n.out.below hbb)
                 clear hbb)
              | (go_at_call 13; with_reducible refine (HT2.out _ R30.out).mono ?_; rintro e wa ⟨rfl, hba⟩
                 have R30n := Lib.hid (R30.out.below hba)
                 clear hba))
            go_roundw
            case rel => exact ⟨k + 1, _, _, _, _, by have := HK.out; omega, by have := HK.out; omega, rfl, rfl, by go_num, R30m.out⟩
            case measure => have := HK.out; simp [intOf]; omega
        · have d2 : (x.kind == 2) = false := by rw [beq_eq_false_iff_ne]; exact h2
          clear h2
          have hz : ¬ token C < token C := by omega
          have R30 := R4
          go_wp2_with (first
            | (go_at_call 13; with_reducible refine (HTo.out _ R30n.out).mono ?_; rintro e wb ⟨rfl, hbb⟩
               have R30m := Lib.hid (R30n.out.below hbb)
               clear hbb)
            | (go_at_call 13; with_reducible refine (HTo.out _ R30.out).mono ?_; rintro e wa ⟨rfl, hba⟩
               have R30n := Lib.hid (R30.out.below hba)
               clear hba))
          go_roundw
          case rel => exact ⟨k + 1, _, _, _, _, by have := HK.out; omega, by have := HK.out; omega, rfl, rfl, by go_num, R30m.out⟩
          case measure => have := HK.out; simp [intOf]; omega
    · have hnot : (¬ k < n1) ∨ (k < n1 ∧ ¬ k < 60) := by omega
      rcases hnot with h9 | ⟨h8, h9⟩
      · have g1 : decide ((k : Int) < (n1 : Int)) = false := by simpa using h9
        go_wp2
        go_ret
        exact ⟨rfl, HR.out.be⟩
      · have g1 : (k : Int) < (n1 : Int) := by omega
        have g2 : decide ((k : Int) < 60) = false := by simp; omega
        go_wp2
        go_ret
        exact ⟨rfl, HR.out.be⟩

set_option maxRecDepth 100000 in
theorem lifted (os : Os) (started : os.Started) (H : Type) (enc : TypeId × Value → H) :
    ReturnsInHanded {} Try.checked os 3 .any (Rows.backingFencesSpec.pre6 enc Try.prog Try.f3 Rows.backingFencesRow.domain false) (Rows.backingFencesSpec.post enc Try.prog Try.f3 false true false false) := by
  refine returnsInHanded_of_change (C := Try.checked) own started (by kernel_rfl) Try.func3
    (ChangeSpec.witness6 (enc := enc) (C := Try.checked) false ⟨#[], #[.int .u8 0, .slice none 0 0], []⟩ 8 (by kernel_rfl) (by kernel_rfl) (by kernel_rfl) (by kernel_rfl)) ?_
  intro W base args ds gs before hval0 hW hcnd _
  have hval : ∀ (j : Nat) t v, Try.f3.params[j]? = some t → args[j]? = some v → Value.okWide Try.prog W .any base t v := hval0
  have hW' := hW
  obtain ⟨p, q, hA0, hV, rfl, hfz, hnd⟩ := hW
  have hA : DataW.TrodAll enc Try.prog W 0 (fun _ => true) true Try.f3.params.toList args.toList ds p := hA0
  rw [Try.params3] at hA hval
  obtain ⟨v0, vs0, d0, ds0, p0, q0, hargs, rfl, rfl, h0, r0'⟩ := trodAll_cons hA
  obtain ⟨v1, vs1, d1, ds1, p1, q1, rfl, rfl, rfl, h1, r1'⟩ := trodAll_cons r0'
  obtain ⟨rfl, rfl, rfl⟩ := trodAll_nil r1'
  obtain rfl : args = #[v0, v1] := by cases args; simp_all
  obtain ⟨rfl, rfl⟩ := trodVars_none hV
  obtain ⟨x0, rfl, rfl, rfl, w0⟩ := open_int Try.underlying5 (hval 0 5 v0 rfl rfl) h0
  have k1 := h1
  have lt1 : ∀ x ∈ p1, x.block < W.heap.size := by obtain ⟨m, hm⟩ := k1; exact DataW.trod_lt m _ _ _ hm
  obtain ⟨a1, n1, c1, l1, rfl, w1⟩ := Bk.open_acts h1 (okWide_slice Try.underlying22 (hval 1 22 v1 rfl rfl))
  clear hA0 hval0
  refine (walk x0 a1 n1 c1 l1 W w0 w1).mono fun e W' ⟨he, bel⟩ => ?_
  subst he
  exact ⟨_, rfl, _, _, _, [], _, [], hW', trodAll_mk1 (shut_bool Try.underlying4 _), (trodAll_cons_mk (shut_int Try.underlying5 w0) (trodAll_cons_mk (Below.trod laidOut (by kernel_rfl) (of_decide_eq_true (by kernel_rfl)) k1 bel lt1) trodAll_mk0)), rfl, bel.frame _, fun h => by cases h⟩

theorem over : Rows.backingFencesRow.holds Try.pinned (OpenSpec.ofChange Rows.backingFencesSpec) :=
  OpenClaim.holds_of_wide 3 Try.f3 rfl rfl rfl rfl rfl rfl rfl ⟨rfl, rfl, rfl, rfl, rfl⟩ rfl rfl rfl rfl rfl (by kernel_rfl) Try.func3 (by kernel_rfl)
    (of_decide_eq_true (by kernel_rfl)) (by unfold Func.isWrapper; first | (rw [if_pos (by decide +kernel)]; kernel_rfl) | (rw [if_neg (by decide +kernel)]; exact ⟨rfl, rfl⟩))
    (fun os started H enc _ => lifted os started H enc)

/-- the statement -/
theorem proved : Rows.BackingFencesSaid := over
#print axioms proved
end Go.Proofs.Ytofhijnfbilieaa.backingFences
