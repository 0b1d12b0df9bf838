/-
  PROVED: opened anew a list is the same; and another list on the same device, in other sectors, knows nothing of it. CONDITIONS: none (any number of blocks from 1 to 32; any bytes, of which up to 60 are marked; any place of the Clear).
-/
import Derived.Test.YtcofahpeinkhfaaDrl7
namespace Go.Proofs.Ytcofahpeinkhfaa.drlAnew
open Go.ChangeShapes Go.WideShapes Go.ChangeAt Go.RowKit Go.Joins
open Go.ChangeMaps (open_string shut_string)
set_option linter.unusedVariables false
set_option linter.unusedSimpArgs false
set_option maxRecDepth 20000

theorem arg_is (y : UInt8) (bl : Nat) : (y.toNat : Int) % (bl : Int) = ((y.toNat % bl : Nat) : Int) := by omega
theorem mark_byte (w : World) {dB sB mB n lB cB a b bl : Nat} {d : M.Dv} {c : M.Cl} (H : LF w dB sB mB n d lB cB a b bl c) (k : Nat) (hk : k < bl) (g : Int) (hg : c.gen ≤ g) (hg2 : g ≤ 1000) (x : Int) (hx : x = (k : Int)) :
    Calls Try.prog 9 #[.pointer (some ⟨lB, 0, none⟩), .int .i64 x] w fun e w' => e = .returned (.int .i64 0) ∧ ∃ d' c', LF w' dB sB mB n d' lB cB a b bl c' ∧
      D.marks bl c'.text = B.M.put (D.marks bl c.text) (k / 4) ∧ c'.gen ≤ g + 1 ∧ But [dB, sB, mB, cB] w w' := by
  subst hx
  refine (mark_free w H (by omega) k hk).mono ?_
  rintro e w' ⟨rfl, d', c', h1, h2, h3, _, h5⟩
  exact ⟨rfl, d', c', h1, h2, by omega, h5⟩

theorem new4 (w : World) : Calls Try.prog 7 #[.int .i64 4] w fun e w' =>
    ∃ dB sB mB, e = .returned (.pointer (some ⟨dB, 0, none⟩)) ∧ DevAt w' dB sB mB 4 M.fresh ∧ Below w.heap.size w w' ∧ w.heap.size ≤ dB ∧ w.heap.size ≤ sB ∧ w.heap.size ≤ mB := new_yes 4 (by omega) w
theorem fnd01 : M.found (M.rdS (M.seen M.fresh 0)) (M.rdS (M.seen M.fresh 1)) = M.none0 := found_zero
theorem fnd23 : M.found (M.rdS (M.seen M.fresh 2)) (M.rdS (M.seen M.fresh 3)) = M.none0 := found_zero
theorem textN (w : World) {g m : Nat} (hg : g ≤ 64) (hm : m < 2 ^ g) (t : ByteArray) (ht : B.str (B.M.txt g m) = t) :
    Calls Try.prog 19 #[.agg #[.int .i64 (g : Int), .int .u64 (m : Int)]] w fun e w' => e = .returned (.string t) ∧ Below w.heap.size w w' := by
  subst ht
  exact B.text_any g m w hg hm
theorem blocksM (w : World) {lM cM dB bl : Nat} (hl : ListAt w lM cM bl) (hc : CellAt w cM dB 2 3 M.none0) (hb : 1 ≤ bl ∧ bl ≤ 32) :
    Calls Try.prog 10 #[.pointer (some ⟨lM, 0, none⟩)] w fun e w' => ∃ x cap, e = .returned (.slice x 0 cap) ∧ Below w.heap.size w w' := by
  refine (blocksC w hl hc hb (by show (0 : Nat) ≤ 100; omega) (m := 0) (D.marks_empty bl) (k := 0) (by rw [D.blocks_none]; rfl)).mono ?_
  rintro e w' ⟨x, cap, rfl, _, h⟩
  exact ⟨x, cap, rfl, h⟩

set_option maxHeartbeats 4000000 in
theorem walk (x0 : Int) (a1 : Option Addr) (n1 c1 : Nat) (l1 : List UInt8) (x2 : Int) (w : World) (w0 : (Lit.int .u8 x0).wf = true) (w1 : Row w a1 n1 c1 (u8s l1)) (w2 : (Lit.int .u8 x2).wf = true) :
    Calls Try.prog 4 #[.int .u8 x0, .slice a1 n1 c1, .int .u8 x2] w fun e w' => e = .returned (.bool true) ∧ Below w.heap.size w w' := by
  have HA := Lib.hid (awake_any w)
  obtain ⟨k0, rfl⟩ := Int.eq_ofNat_of_zero_le (show 0 ≤ x0 by simp [Lit.wf, IntKind.min, IntKind.max, IntKind.signed, IntKind.bits] at w0; omega)
  have hk0 : k0 < 256 := by simp [Lit.wf, IntKind.min, IntKind.max, IntKind.signed, IntKind.bits] at w0; omega
  have hk0I : (k0 : Int) < 256 := by omega
  obtain ⟨o0, rfl⟩ := Int.eq_ofNat_of_zero_le (show 0 ≤ x2 by simp [Lit.wf, IntKind.min, IntKind.max, IntKind.signed, IntKind.bits] at w2; omega)
  have ho0 : o0 < 256 := by simp [Lit.wf, IntKind.min, IntKind.max, IntKind.signed, IntKind.bits] at w2; omega
  have ho0I : (o0 : Int) < 256 := by omega
  have ho00 : (0 : Int) ≤ (o0 : Int) := by omega
  clear w0 w2
  obtain ⟨bl, hbl, hbl1, hbl2⟩ : ∃ bl : Nat, (k0 : Int) % 32 + 1 = (bl : Int) ∧ 1 ≤ bl ∧ bl ≤ 32 := ⟨k0 % 32 + 1, by omega, by omega, by omega⟩
  have Hbl := Lib.hid hbl
  have Hb := Lib.hid (And.intro hbl1 hbl2)
  have hblI : (bl : Int) ≤ 32 := by omega
  have hblI1 : (1 : Int) ≤ (bl : Int) := by omega
  have hbl0 : ¬ (bl : Int) = 0 := by omega
  have HW := Lib.hid w1
  have hn1 : n1 ≤ maxLen := by have := w1.2.1; have := w1.2.2.1; omega
  unfold maxLen at hn1
  have hn1I : (n1 : Int) ≤ 9223372036854775807 := by omega
  have hr8 : D.regs bl ≤ 64 := by have := D.regs_le hbl2; omega
  have Hr8 := Lib.hid hr8
  clear hbl w1 hn1 hr8
  go_enter Try.func4, Try.ntmps4
  go_wp2_with (first
    | (go_at_call 6; with_reducible refine HA.out.mono ?_; rintro e w1 ⟨rfl, hb1⟩; have HB1 := Lib.hid hb1; clear hb1)
    | (go_at_call 7; with_reducible refine (new4 _).mono ?_; rintro e w2 ⟨dB, sB, mB, rfl, hd2, hb2, l1', l2', l3'⟩
       have HD2 := Lib.hid hd2
       have HB2 := Lib.hid (HB1.out.trans (hb2.mono HB1.out.size))
       have HL : Hid (w.heap.size ≤ dB ∧ w.heap.size ≤ sB ∧ w.heap.size ≤ mB) := Lib.hid ⟨by have := HB1.out.size; omega, by have := HB1.out.size; omega, by have := HB1.out.size; omega⟩
       rw [Hbl.out]
       clear hd2 hb2 l1' l2' l3')
    | (go_at_call 8; with_reducible refine (open01 w2 HD2.out (by omega) Free.fresh bl Hb.out).mono ?_; rintro e w3 ⟨lB, cB, rfl, h1, h2, h3, h4, h5⟩
       rw [fnd01] at h4
       have H3 := Lib.hid h4
       have HB3 := Lib.hid (HB2.out.trans (h5.mono HB2.out.size))
       have HLc : Hid (w.heap.size ≤ cB) := Lib.hid (by have := HB2.out.size; omega)
       clear h1 h2 h3 h4 h5)
    | (go_at_call 8; with_reducible refine (open23 w3 H3.out.ld.dev (by omega) Free.fresh bl Hb.out).mono ?_; rintro e w4 ⟨lM, cM, rfl, h1, h2, h3, h4, h5⟩
       rw [fnd23] at h4
       have H4 := Lib.hid (H3.out.below h5)
       have HLM := Lib.hid h4.ld.li
       have HCM := Lib.hid h4.ld.cel
       have HB4 := Lib.hid (HB3.out.trans (h5.mono HB3.out.size))
       have HY : Hid (lM ∉ [dB, sB, mB, cB] ∧ cM ∉ [dB, sB, mB, cB]) := Lib.hid (by
         have g1 := H3.out.ld.dev.ltD
         have g2 := H3.out.ld.dev.lt
         have g3 := H3.out.ld.dev.pend.lt
         have g4 := H3.out.ld.cel.lt
         simp; omega)
       clear h1 h2 h3 h4 h5))
  have HX : Hid (∀ x ∈ [dB, sB, mB, cB], w.heap.size ≤ x) := Lib.hid (by have := HL.out; have := HLc.out; simp; omega)
  clear HL HLc HB1 HB2 HB3 HD2 H3
  go_loopw [13] (fun i wr => ∃ (k : Nat) (d : M.Dv) (c : M.Cl), i = .int .i64 (k : Int) ∧ k ≤ 60 ∧ c.gen ≤ 2 * (k : Int) ∧ LF wr dB sB mB 4 d lB cB 0 1 bl c ∧ ListAt wr lM cM bl ∧ CellAt wr cM dB 2 3 M.none0 ∧ Below w.heap.size w wr) (fun i _ => (60 - RowKit.intOf i).toNat)
  case atStart => exact ⟨0, _, _, rfl, by omega, by decide, H4.out, HLM.out, HCM.out, HB4.out⟩
  case round =>
    obtain ⟨k, d, c, rfl, hk, hg, h, hlm, hcm, hbw⟩ := hrel
    have H := Lib.hid h
    have HB := Lib.hid hbw
    have HG := Lib.hid hg
    clear H4 HLM HCM HB4
    have HLM := Lib.hid hlm
    have HCM := Lib.hid hcm
    have hk0' : (0 : Int) ≤ (k : Int) := by omega
    have hkI : (k : Int) ≤ 60 := by omega
    clear h hbw hg hlm hcm
    by_cases hkn : k < n1
    · have hknI : (k : Int) < (n1 : Int) := by omega
      by_cases hk6 : k < 60
      · have hk6I : (k : Int) < 60 := by omega
        obtain ⟨b1, off1, y, rfl, hy, hcell⟩ := bytes_at HW.out HB.out hkn
        have Hk6 := Lib.hid hk6
        have HM := Lib.hid (mark_byte wr H.out (y.toNat % bl) (Nat.mod_lt _ (by omega)) (2 * (k : Int)) HG.out (by omega) _ (arg_is y bl))
        have hy8 : (y.toNat : Int) < 256 := by have := y.toNat_lt; omega
        clear hy hk hk6
        by_cases hko : k = o0
        · have hkoI : ((k : Int) == (o0 : Int)) = true := by rw [beq_iff_eq]; omega
          clear hko
          go_wp2_with (first
            | (go_at_call 9; with_reducible refine HM.out.mono ?_; rintro e w5 ⟨rfl, d5, c5, h1, h2, h3, h4⟩
               have H5 := Lib.hid h1
               have HG5 := Lib.hid h3
               have HB5 := Lib.hid (LF.up HB.out h4 HX.out)
               have HL5 := Lib.hid (HLM.out.but h4 HY.out.1)
               have HC5 := Lib.hid (HCM.out.but h4 HY.out.2)
               clear h1 h2 h3 h4)
            | (go_at_call 17; with_reducible refine (clear_free w5 H5.out (by have := HG5.out; omega)).mono ?_; rintro e w6 ⟨rfl, d6, c6, h1, h2, h3, _, h4⟩
               have H6 := Lib.hid h1
               have HM6 := Lib.hid h2
               have HG6 : Hid (c6.gen ≤ 2 * ((k : Int) + 1)) := Lib.hid (by have := HG5.out; omega)
               have HB6 := Lib.hid (LF.up HB5.out h4 HX.out)
               have HL6 := Lib.hid (HL5.out.but h4 HY.out.1)
               have HC6 := Lib.hid (HC5.out.but h4 HY.out.2)
               clear h1 h2 h3 h4)
            | (go_at_call 10; with_reducible refine (blocks0 w6 H6.out HM6.out).mono ?_; rintro e w7 ⟨xB, capB, rfl, hb⟩
               have H7 := Lib.hid (H6.out.below hb)
               have HB7 := Lib.hid (B.below_up HB6.out hb HB6.out.size)
               have HL7 := Lib.hid (HL6.out.below hb HL6.out.lt)
               have HC7 := Lib.hid (HC6.out.below hb HC6.out.lt)
               have HG7 := Lib.hid HG6.out
               clear hb)
            | (go_at_call 8; with_reducible refine (open01 w7 H7.out.ld.dev (by omega) H7.out.fr bl Hb.out).mono ?_; rintro e w8 ⟨lK, cK, rfl, h1, h2, h3, h4, h5⟩
               rw [← H7.out.fnd] at h4
               have H8 := Lib.hid (H7.out.below h5)
               have K8 := Lib.hid h4
               have HB8 := Lib.hid (B.below_up HB7.out h5 HB7.out.size)
               have HL8 := Lib.hid (HL7.out.below h5 HL7.out.lt)
               have HC8 := Lib.hid (HC7.out.below h5 HC7.out.lt)
               have HG8 : Hid (c6.gen ≤ 2 * ((k : Int) + 1)) := Lib.hid (by have := HG7.out; omega)
               clear h1 h2 h3 h4 h5)
            | (go_at_call 10; with_reducible refine (blocksC w8 K8.out.ld.li K8.out.ld.cel Hb.out K8.out.ld.tx rfl rfl).mono ?_; rintro e w9 ⟨x9, cap9, rfl, hr, hb⟩
               have H9 := Lib.hid (H8.out.below hb)
               have K9 := Lib.hid (K8.out.below hb)
               have HR9 := Lib.hid hr
               have HB9 := Lib.hid (B.below_up HB8.out hb HB8.out.size)
               have HL9 := Lib.hid (HL8.out.below hb HL8.out.lt)
               have HC9 := Lib.hid (HC8.out.below hb HC8.out.lt)
               have hlen9 := D.blocks_len bl (D.marks bl c6.text)
               clear hb hr)
            | (go_at_call 10; with_reducible refine (blocksC w9 H9.out.ld.li H9.out.ld.cel Hb.out H9.out.ld.tx rfl rfl).mono ?_; rintro e w10 ⟨x10, cap10, rfl, hr, hb⟩
               have H10 := Lib.hid (H9.out.below hb)
               have K10 := Lib.hid (K9.out.below hb)
               have HR10 := Lib.hid hr
               have HQ10 := Lib.hid (B.row_below HR9.out hb (Nat.le_refl _))
               have HB10 := Lib.hid (B.below_up HB9.out hb HB9.out.size)
               have HL10 := Lib.hid (HL9.out.below hb HL9.out.lt)
               have HC10 := Lib.hid (HC9.out.below hb HC9.out.lt)
               clear hb hr)
            | (go_at_call 18; with_reducible refine (ints_nat w10 _ _ _ _ _ _ HQ10.out HR10.out (by omega)).mono ?_; rintro e w11 ⟨rfl, hb⟩
               have H11 := Lib.hid (H10.out.below hb)
               have K11 := Lib.hid (K10.out.below hb)
               have HB11 := Lib.hid (B.below_up HB10.out hb HB10.out.size)
               have HL11 := Lib.hid (HL10.out.below hb HL10.out.lt)
               have HC11 := Lib.hid (HC10.out.below hb HC10.out.lt)
               have Hml := Lib.hid (D.marks_lt bl c6.text)
               clear hb)
            | (go_at_call 15; with_reducible refine (rowC w11 K11.out.ld.li K11.out.ld.cel Hb.out K11.out.ld.tx rfl).mono ?_; rintro e w12 ⟨rfl, hb⟩
               have H12 := Lib.hid (H11.out.below hb)
               have HB12 := Lib.hid (B.below_up HB11.out hb HB11.out.size)
               have HL12 := Lib.hid (HL11.out.below hb HL11.out.lt)
               have HC12 := Lib.hid (HC11.out.below hb HC11.out.lt)
               obtain ⟨t0, ht0⟩ : ∃ t0, B.str (B.M.txt (D.regs bl) (D.marks bl c6.text)) = t0 := ⟨_, rfl⟩
               have Ht0 := Lib.hid ht0
               clear ht0 hb)
            | (go_at_call 19; with_reducible refine (textN w12 Hr8.out Hml.out t0 Ht0.out).mono ?_; rintro e w13 ⟨rfl, hb⟩
               have H13 := Lib.hid (H12.out.below hb)
               have HB13 := Lib.hid (B.below_up HB12.out hb HB12.out.size)
               have HL13 := Lib.hid (HL12.out.below hb HL12.out.lt)
               have HC13 := Lib.hid (HC12.out.below hb HC12.out.lt)
               clear hb)
            | (go_at_call 15; with_reducible refine (rowC w13 H13.out.ld.li H13.out.ld.cel Hb.out H13.out.ld.tx rfl).mono ?_; rintro e w14 ⟨rfl, hb⟩
               have H14 := Lib.hid (H13.out.below hb)
               have HB14 := Lib.hid (B.below_up HB13.out hb HB13.out.size)
               have HL14 := Lib.hid (HL13.out.below hb HL13.out.lt)
               have HC14 := Lib.hid (HC13.out.below hb HC13.out.lt)
               clear hb)
            | (go_at_call 19; with_reducible refine (textN w14 Hr8.out Hml.out t0 Ht0.out).mono ?_; rintro e w15 ⟨rfl, hb⟩
               have H15 := Lib.hid (H14.out.below hb)
               have HB15 := Lib.hid (B.below_up HB14.out hb HB14.out.size)
               have HL15 := Lib.hid (HL14.out.below hb HL14.out.lt)
               have HC15 := Lib.hid (HC14.out.below hb HC14.out.lt)
               clear hb))
          go_roundw
          case rel => exact ⟨k + 1, d6, c6, by go_num, by have := Hk6.out; omega, by have := HG8.out; omega, H15.out, HL15.out, HC15.out, HB15.out⟩
          case measure => have := Hk6.out; simp [RowKit.intOf]; omega
        · have hkoI : ((k : Int) == (o0 : Int)) = false := by rw [beq_eq_false_iff_ne]; omega
          clear hko
          go_wp2_with (first
            | (go_at_call 9; with_reducible refine HM.out.mono ?_; rintro e w5 ⟨rfl, d5, c5, h1, h2, h3, h4⟩
               have H5 := Lib.hid h1
               have HG5 := Lib.hid h3
               have HB5 := Lib.hid (LF.up HB.out h4 HX.out)
               have HL5 := Lib.hid (HLM.out.but h4 HY.out.1)
               have HC5 := Lib.hid (HCM.out.but h4 HY.out.2)
               clear h1 h2 h3 h4)
            | (go_at_call 8; with_reducible refine (open01 w5 H5.out.ld.dev (by omega) H5.out.fr bl Hb.out).mono ?_; rintro e w8 ⟨lK, cK, rfl, h1, h2, h3, h4, h5⟩
               rw [← H5.out.fnd] at h4
               have H8 := Lib.hid (H5.out.below h5)
               have K8 := Lib.hid h4
               have HB8 := Lib.hid (B.below_up HB5.out h5 HB5.out.size)
               have HL8 := Lib.hid (HL5.out.below h5 HL5.out.lt)
               have HC8 := Lib.hid (HC5.out.below h5 HC5.out.lt)
               have HG8 : Hid (c5.gen ≤ 2 * ((k : Int) + 1)) := Lib.hid (by have := HG5.out; omega)
               clear h1 h2 h3 h4 h5)
            | (go_at_call 10; with_reducible refine (blocksC w8 K8.out.ld.li K8.out.ld.cel Hb.out K8.out.ld.tx rfl rfl).mono ?_; rintro e w9 ⟨x9, cap9, rfl, hr, hb⟩
               have H9 := Lib.hid (H8.out.below hb)
               have K9 := Lib.hid (K8.out.below hb)
               have HR9 := Lib.hid hr
               have HB9 := Lib.hid (B.below_up HB8.out hb HB8.out.size)
               have HL9 := Lib.hid (HL8.out.below hb HL8.out.lt)
               have HC9 := Lib.hid (HC8.out.below hb HC8.out.lt)
               have hlen9 := D.blocks_len bl (D.marks bl c5.text)
               clear hb hr)
            | (go_at_call 10; with_reducible refine (blocksC w9 H9.out.ld.li H9.out.ld.cel Hb.out H9.out.ld.tx rfl rfl).mono ?_; rintro e w10 ⟨x10, cap10, rfl, hr, hb⟩
               have H10 := Lib.hid (H9.out.below hb)
               have K10 := Lib.hid (K9.out.below hb)
               have HR10 := Lib.hid hr
               have HQ10 := Lib.hid (B.row_below HR9.out hb (Nat.le_refl _))
               have HB10 := Lib.hid (B.below_up HB9.out hb HB9.out.size)
               have HL10 := Lib.hid (HL9.out.below hb HL9.out.lt)
               have HC10 := Lib.hid (HC9.out.below hb HC9.out.lt)
               clear hb hr)
            | (go_at_call 18; with_reducible refine (ints_nat w10 _ _ _ _ _ _ HQ10.out HR10.out (by omega)).mono ?_; rintro e w11 ⟨rfl, hb⟩
               have H11 := Lib.hid (H10.out.below hb)
               have K11 := Lib.hid (K10.out.below hb)
               have HB11 := Lib.hid (B.below_up HB10.out hb HB10.out.size)
               have HL11 := Lib.hid (HL10.out.below hb HL10.out.lt)
               have HC11 := Lib.hid (HC10.out.below hb HC10.out.lt)
               have Hml := Lib.hid (D.marks_lt bl c5.text)
               clear hb)
            | (go_at_call 15; with_reducible refine (rowC w11 K11.out.ld.li K11.out.ld.cel Hb.out K11.out.ld.tx rfl).mono ?_; rintro e w12 ⟨rfl, hb⟩
               have H12 := Lib.hid (H11.out.below hb)
               have HB12 := Lib.hid (B.below_up HB11.out hb HB11.out.size)
               have HL12 := Lib.hid (HL11.out.below hb HL11.out.lt)
               have HC12 := Lib.hid (HC11.out.below hb HC11.out.lt)
               obtain ⟨t0, ht0⟩ : ∃ t0, B.str (B.M.txt (D.regs bl) (D.marks bl c5.text)) = t0 := ⟨_, rfl⟩
               have Ht0 := Lib.hid ht0
               clear ht0 hb)
            | (go_at_call 19; with_reducible refine (textN w12 Hr8.out Hml.out t0 Ht0.out).mono ?_; rintro e w13 ⟨rfl, hb⟩
               have H13 := Lib.hid (H12.out.below hb)
               have HB13 := Lib.hid (B.below_up HB12.out hb HB12.out.size)
               have HL13 := Lib.hid (HL12.out.below hb HL12.out.lt)
               have HC13 := Lib.hid (HC12.out.below hb HC12.out.lt)
               clear hb)
            | (go_at_call 15; with_reducible refine (rowC w13 H13.out.ld.li H13.out.ld.cel Hb.out H13.out.ld.tx rfl).mono ?_; rintro e w14 ⟨rfl, hb⟩
               have H14 := Lib.hid (H13.out.below hb)
               have HB14 := Lib.hid (B.below_up HB13.out hb HB13.out.size)
               have HL14 := Lib.hid (HL13.out.below hb HL13.out.lt)
               have HC14 := Lib.hid (HC13.out.below hb HC13.out.lt)
               clear hb)
            | (go_at_call 19; with_reducible refine (textN w14 Hr8.out Hml.out t0 Ht0.out).mono ?_; rintro e w15 ⟨rfl, hb⟩
               have H15 := Lib.hid (H14.out.below hb)
               have HB15 := Lib.hid (B.below_up HB14.out hb HB14.out.size)
               have HL15 := Lib.hid (HL14.out.below hb HL14.out.lt)
               have HC15 := Lib.hid (HC14.out.below hb HC14.out.lt)
               clear hb))
          go_roundw
          case rel => exact ⟨k + 1, d5, c5, by go_num, by have := Hk6.out; omega, by have := HG8.out; omega, H15.out, HL15.out, HC15.out, HB15.out⟩
          case measure => have := Hk6.out; simp [RowKit.intOf]; omega
      · have hk6I : ¬ (k : Int) < 60 := by omega
        clear hkn hk6 hk
        go_wp2_with (first
          | (go_at_call 10; with_reducible refine (blocksM wr HLM.out HCM.out Hb.out).mono ?_; rintro e w5 ⟨x5, cap5, rfl, hb⟩
             have HB5 := Lib.hid (B.below_up HB.out hb HB.out.size)
             clear hb))
        go_ret
        exact ⟨rfl, HB5.out⟩
    · have hknI : ¬ (k : Int) < (n1 : Int) := by omega
      clear hkn hk
      go_wp2_with (first
        | (go_at_call 10; with_reducible refine (blocksM wr HLM.out HCM.out Hb.out).mono ?_; rintro e w5 ⟨x5, cap5, rfl, hb⟩
           have HB5 := Lib.hid (B.below_up HB.out hb HB.out.size)
           clear hb))
      go_ret
      exact ⟨rfl, HB5.out⟩

set_option maxRecDepth 100000 in
theorem lifted (os : Os) (started : os.Started) (H : Type) (enc : TypeId × Value → H) :
    ReturnsInHanded {} Try.checked os 4 .any (Rows.drlAnewSpec.pre6 enc Try.prog Try.f4 Rows.drlAnewRow.domain false) (Rows.drlAnewSpec.post enc Try.prog Try.f4 false true false false) := by
  refine returnsInHanded_of_change (C := Try.checked) own started (by kernel_rfl) Try.func4
    (ChangeSpec.witness6 (enc := enc) (C := Try.checked) false ⟨#[], #[.int .u8 0, .slice none 0 0, .int .u8 0], []⟩ 8 (by kernel_rfl) (by kernel_rfl) (by kernel_rfl) (by kernel_rfl)) ?_
  intro W base args ds gs before hval0 hW hcnd _
  have hval : ∀ (j : Nat) t v, Try.f4.params[j]? = some t → args[j]? = some v → Value.okWide Try.prog W .any base t v := hval0
  have hW' := hW
  obtain ⟨p, q, hA0, hV, rfl, hfz, hnd⟩ := hW
  have hA : DataW.TrodAll enc Try.prog W 0 (fun _ => true) true Try.f4.params.toList args.toList ds p := hA0
  rw [Try.params4] at hA hval
  obtain ⟨v0, vs0, d0, ds0, p0, q0, hargs, rfl, rfl, h0, r0'⟩ := trodAll_cons hA
  obtain ⟨v1, vs1, d1, ds1, p1, q1, rfl, rfl, rfl, h1, r1'⟩ := trodAll_cons r0'
  obtain ⟨v2, vs2, d2, ds2, p2, q2, rfl, rfl, rfl, h2, r2'⟩ := trodAll_cons r1'
  obtain ⟨rfl, rfl, rfl⟩ := trodAll_nil r2'
  obtain rfl : args = #[v0, v1, v2] := by cases args; simp_all
  obtain ⟨rfl, rfl⟩ := trodVars_none hV
  obtain ⟨x0, rfl, rfl, rfl, w0⟩ := open_int Try.underlying5 (hval 0 5 v0 rfl rfl) h0
  have k1 := h1
  have lt1 : ∀ x ∈ p1, x.block < W.heap.size := by obtain ⟨m, hm⟩ := k1; exact DataW.trod_lt m _ _ _ hm
  obtain ⟨a1, n1, c1, l1, rfl, w1⟩ := open_bytes h1 (okWide_slice Try.underlying40 (hval 1 40 v1 rfl rfl))
  obtain ⟨x2, rfl, rfl, rfl, w2⟩ := open_int Try.underlying5 (hval 2 5 v2 rfl rfl) h2
  clear hA0 hval0
  refine (walk x0 a1 n1 c1 l1 x2 W w0 w1 w2).mono fun e W' ⟨he, bel⟩ => ?_
  subst he
  exact ⟨_, rfl, _, _, _, [], _, [], hW', trodAll_mk1 (shut_bool Try.underlying4 _), (trodAll_cons_mk (shut_int Try.underlying5 w0) (trodAll_cons_mk (Below.trod laidOut (by kernel_rfl) (of_decide_eq_true (by kernel_rfl)) k1 bel lt1) (trodAll_cons_mk (shut_int Try.underlying5 w2) trodAll_mk0))), rfl, bel.frame _, fun h => by cases h⟩

theorem over : Rows.drlAnewRow.holds Try.pinned (OpenSpec.ofChange Rows.drlAnewSpec) :=
  OpenClaim.holds_of_wide 4 Try.f4 rfl rfl rfl rfl rfl rfl rfl ⟨rfl, rfl, rfl, rfl, rfl⟩ rfl rfl rfl rfl rfl (by kernel_rfl) Try.func4 (by kernel_rfl)
    (of_decide_eq_true (by kernel_rfl)) (by unfold Func.isWrapper; first | (rw [if_pos (by decide +kernel)]; kernel_rfl) | (rw [if_neg (by decide +kernel)]; exact ⟨rfl, rfl⟩))
    (fun os started H enc _ => lifted os started H enc)

/-- the statement -/
theorem proved : Rows.DrlAnewSaid := over
#print axioms proved
end Go.Proofs.Ytcofahpeinkhfaa.drlAnew
