/-
  PROVED: Clear takes all marks away, and only those; what is marked then is marked alone. CONDITIONS: none (any number of blocks from 1 to 32; any bytes, of which up to 60 are marked; any block marked behind).
-/
import Derived.Test.YtcofahpeinkhfaaDrl6
namespace Go.Proofs.Ytcofahpeinkhfaa.drlClears
open Go.ChangeShapes Go.WideShapes Go.ChangeAt Go.RowKit Go.Joins
open Go.ChangeMaps (open_string shut_string)
set_option linter.unusedVariables false
set_option linter.unusedSimpArgs false
set_option maxRecDepth 20000

theorem arg_is (y : UInt8) (bl : Nat) : (y.toNat : Int) % (bl : Int) = ((y.toNat % bl : Nat) : Int) := by omega
theorem mark_byte (w : World) {dB sB mB n lB cB a b bl : Nat} {d : M.Dv} {c : M.Cl} (H : LF w dB sB mB n d lB cB a b bl c) (k : Nat) (hk : k < bl) (g : Int) (hg : c.gen ≤ g) (hg2 : g ≤ 1000) (x : Int) (hx : x = (k : Int)) :
    Calls Try.prog 9 #[.pointer (some ⟨lB, 0, none⟩), .int .i64 x] w fun e w' => e = .returned (.int .i64 0) ∧ ∃ d' c', LF w' dB sB mB n d' lB cB a b bl c' ∧
      D.marks bl c'.text = B.M.put (D.marks bl c.text) (k / 4) ∧ c'.gen ≤ g + 1 ∧ But [dB, sB, mB, cB] w w' := by
  subst hx
  refine (mark_free w H (by omega) k hk).mono ?_
  rintro e w' ⟨rfl, d', c', h1, h2, h3, _, h5⟩
  exact ⟨rfl, d', c', h1, h2, by omega, h5⟩

set_option maxHeartbeats 4000000 in
theorem walk (x0 : Int) (a1 : Option Addr) (n1 c1 : Nat) (l1 : List UInt8) (x2 : Int) (w : World) (w0 : (Lit.int .u8 x0).wf = true) (w1 : Row w a1 n1 c1 (u8s l1)) (w2 : (Lit.int .u8 x2).wf = true) :
    Calls Try.prog 5 #[.int .u8 x0, .slice a1 n1 c1, .int .u8 x2] w fun e w' => e = .returned (.bool true) ∧ Below w.heap.size w w' := by
  have HA := Lib.hid (awake_any w)
  obtain ⟨k0, rfl⟩ := Int.eq_ofNat_of_zero_le (show 0 ≤ x0 by simp [Lit.wf, IntKind.min, IntKind.max, IntKind.signed, IntKind.bits] at w0; omega)
  have hk0 : k0 < 256 := by simp [Lit.wf, IntKind.min, IntKind.max, IntKind.signed, IntKind.bits] at w0; omega
  have hk0I : (k0 : Int) < 256 := by omega
  obtain ⟨o0, rfl⟩ := Int.eq_ofNat_of_zero_le (show 0 ≤ x2 by simp [Lit.wf, IntKind.min, IntKind.max, IntKind.signed, IntKind.bits] at w2; omega)
  have ho0 : o0 < 256 := by simp [Lit.wf, IntKind.min, IntKind.max, IntKind.signed, IntKind.bits] at w2; omega
  have ho0I : (o0 : Int) < 256 := by omega
  have ho00 : (0 : Int) ≤ (o0 : Int) := by omega
  clear w0 w2
  obtain ⟨bl, hbl, hbl1, hbl2⟩ : ∃ bl : Nat, (k0 : Int) % 32 + 1 = (bl : Int) ∧ 1 ≤ bl ∧ bl ≤ 32 := ⟨k0 % 32 + 1, by omega, by omega, by omega⟩
  have Hbl := Lib.hid hbl
  have Hb := Lib.hid (And.intro hbl1 hbl2)
  have hblI : (bl : Int) ≤ 32 := by omega
  have hblI1 : (1 : Int) ≤ (bl : Int) := by omega
  have hbl0 : ¬ (bl : Int) = 0 := by omega
  obtain ⟨q, hq, hqb⟩ : ∃ q : Nat, (o0 : Int) % (bl : Int) = (q : Int) ∧ q < bl := ⟨o0 % bl, by omega, Nat.mod_lt _ (by omega)⟩
  have Hqb := Lib.hid hqb
  have hqI : (q : Int) < (bl : Int) := by omega
  have hqI0 : (0 : Int) ≤ (q : Int) := by omega
  clear hqb
  have HW := Lib.hid w1
  have hn1 : n1 ≤ maxLen := by have := w1.2.1; have := w1.2.2.1; omega
  unfold maxLen at hn1
  have hn1I : (n1 : Int) ≤ 9223372036854775807 := by omega
  clear hbl w1 hn1
  go_enter Try.func5, Try.ntmps5
  go_wp2_with (first
    | (go_at_call 6; with_reducible refine HA.out.mono ?_; rintro e w1 ⟨rfl, hb1⟩; have HB1 := Lib.hid hb1; clear hb1)
    | (go_at_call 7; with_reducible refine (new2 _).mono ?_; rintro e w2 ⟨dB, sB, mB, rfl, hd2, hb2, l1', l2', l3'⟩
       have HD2 := Lib.hid hd2
       have HB2 := Lib.hid (HB1.out.trans (hb2.mono HB1.out.size))
       have HL : Hid (w.heap.size ≤ dB ∧ w.heap.size ≤ sB ∧ w.heap.size ≤ mB) := Lib.hid ⟨by have := HB1.out.size; omega, by have := HB1.out.size; omega, by have := HB1.out.size; omega⟩
       rw [Hbl.out]
       clear hd2 hb2 l1' l2' l3')
    | (go_at_call 8; with_reducible refine (open01 w2 HD2.out (by omega) Free.fresh bl Hb.out).mono ?_; rintro e w3 ⟨lB, cB, rfl, h1, h2, h3, h4, h5⟩
       have H3 := Lib.hid h4
       have HB3 := Lib.hid (HB2.out.trans (h5.mono HB2.out.size))
       have HLc : Hid (w.heap.size ≤ cB) := Lib.hid (by have := HB2.out.size; omega)
       clear h1 h2 h3 h4 h5))
  have HX : Hid (∀ x ∈ [dB, sB, mB, cB], w.heap.size ≤ x) := Lib.hid (by have := HL.out; have := HLc.out; simp; omega)
  have HX1 : Hid (∀ x ∈ [dB], w.heap.size ≤ x) := Lib.hid (by have := HL.out; simp; omega)
  go_loopw [11] (fun i wr => ∃ (k : Nat) (d : M.Dv) (c : M.Cl), i = .int .i64 (k : Int) ∧ k ≤ 60 ∧ c.gen ≤ (k : Int) ∧ LF wr dB sB mB 2 d lB cB 0 1 bl c ∧ Below w.heap.size w wr) (fun i _ => (60 - RowKit.intOf i).toNat)
  case atStart => exact ⟨0, _, _, rfl, by omega, by rw [fnd0]; decide, H3.out, HB3.out⟩
  case round =>
    obtain ⟨k, d, c, rfl, hk, hg, h, hbw⟩ := hrel
    have H := Lib.hid h
    have HB := Lib.hid hbw
    have HG := Lib.hid hg
    have hk0' : (0 : Int) ≤ (k : Int) := by omega
    have hkI : (k : Int) ≤ 60 := by omega
    clear h hbw hg
    by_cases hkn : k < n1
    · have hknI : (k : Int) < (n1 : Int) := by omega
      by_cases hk6 : k < 60
      · have hk6I : (k : Int) < 60 := by omega
        obtain ⟨b1, off1, y, rfl, hy, hcell⟩ := bytes_at HW.out HB.out hkn
        have Hk6 := Lib.hid hk6
        have HM := Lib.hid (mark_byte wr H.out (y.toNat % bl) (Nat.mod_lt _ (by omega)) (k : Int) HG.out (by omega) _ (arg_is y bl))
        have hy8 : (y.toNat : Int) < 256 := by have := y.toNat_lt; omega
        clear hy hk hk6
        go_wp2_with (first
          | (go_at_call 9; with_reducible refine HM.out.mono ?_; rintro e w5 ⟨rfl, d5, c5, h1, h2, h3, h4⟩
             have H5 := Lib.hid h1
             have HG5 := Lib.hid h3
             have HB5 := Lib.hid (LF.up HB.out h4 HX.out)
             clear h1 h2 h3 h4))
        go_roundw
        case rel => exact ⟨k + 1, d5, c5, by go_num, by have := Hk6.out; omega, by have := HG5.out; omega, H5.out, HB5.out⟩
        case measure => have := Hk6.out; simp [RowKit.intOf]; omega
      · have hk6I : ¬ (k : Int) < 60 := by omega
        clear hkn hk6 hk
        have hr8 : D.regs bl ≤ 64 := by have := D.regs_le Hb.out.2; omega
        have Hr8 := Lib.hid hr8
        clear hr8
        go_wp2_with (first
          | (go_at_call 17; with_reducible refine (clear_free wr H.out (by have := HG.out; omega)).mono ?_; rintro e w5 ⟨rfl, d5, c5, h1, h2, h3, _, h4⟩
             have H5 := Lib.hid h1
             have HM5 := Lib.hid h2
             have HG5 := Lib.hid h3
             have HB5 := Lib.hid (LF.up HB.out h4 HX.out)
             clear h1 h2 h3 h4)
          | (go_at_call 10; with_reducible refine (blocks0 w5 H5.out HM5.out).mono ?_; rintro e w6 ⟨xB, capB, rfl, hb⟩
             have H6 := Lib.hid (H5.out.below hb)
             have HB6 := Lib.hid (B.below_up HB5.out hb HB5.out.size)
             clear hb)
          | (go_at_call 15; with_reducible refine (row0 w6 H6.out.ld HM5.out).mono ?_; rintro e w7 ⟨rfl, hb⟩
             have H7 := Lib.hid (H6.out.below hb)
             have HB7 := Lib.hid (B.below_up HB6.out hb HB6.out.size)
             clear hb)
          | (go_at_call 16; with_reducible refine (count0 w7 Hr8.out).mono ?_; rintro e w8 ⟨rfl, hb⟩
             have H8 := Lib.hid (H7.out.below hb)
             have HB8 := Lib.hid (B.below_up HB7.out hb HB7.out.size)
             clear hb)
          | (go_at_call 13; with_reducible refine (fuse_ld w8 H8.out.ld 0 (by omega) (by omega)).mono ?_; rintro e w9 ⟨rfl, h1, h2⟩
             have H9 := Lib.hid h1
             have HB9 := Lib.hid (LF.up HB8.out h2 HX1.out)
             clear h1 h2)
          | (go_at_call 17; with_reducible refine (clear_none w9 H9.out.li H9.out.cel H9.out.bl1 H9.out.tx HM5.out).mono ?_; rintro e w10 ⟨rfl, hb⟩
             have H10 := Lib.hid (H9.out.below hb)
             have HB10 := Lib.hid (B.below_up HB9.out hb HB9.out.size)
             have Hdd : Hid ((M.fuseD d5 0).dead = false) := Lib.hid H8.out.fr.2
             clear hb)
          | (go_at_call 14; with_reducible refine (ldead_any w10 H10.out.dev false Hdd.out).mono ?_; rintro e w11 ⟨rfl, hw⟩; subst hw)
          | (go_at_call 13; with_reducible refine (fuse_ld w10 H10.out (-1) (by omega) (by omega)).mono ?_; rintro e w12 ⟨rfl, h1, h2⟩
             have H12 := Lib.hid (H8.out.fused h1 rfl rfl (fun _ => rfl))
             have HB12 := Lib.hid (LF.up HB10.out h2 HX1.out)
             clear h1 h2)
          | (go_at_call 9; refine (mark_byte w12 H12.out q Hqb.out 61 (by have := HG5.out; have := HG.out; omega) (by omega) _ rfl).mono ?_; rintro e w13 ⟨rfl, d13, c13, h1, h2, h3, h4⟩
             have H13 := Lib.hid h1
             have HM13 := Lib.hid h2
             have HB13 := Lib.hid (LF.up HB12.out h4 HX.out)
             clear h1 h2 h3 h4))
        have Hq : Hid (D.marks bl c13.text = B.M.put 0 (q / 4)) := Lib.hid (by rw [HM13.out, HM5.out])
        have HBy := Lib.hid HB13.out
        have H13y := Lib.hid H13.out
        clear HB HG H5 H6 H7 H8 H9 H10 H12 HB5 HB6 HB7 HB8 HB9 HB10 HB12 HM5 HG5 Hdd H HM13 H13 HB13
        go_loopw [13] (fun i wz => ∃ j : Nat, i = .int .i64 (j : Int) ∧ j ≤ bl ∧ LF wz dB sB mB 2 d13 lB cB 0 1 bl c13 ∧ Below w.heap.size w wz) (fun i _ => ((bl : Int) - RowKit.intOf i).toNat)
        case atStart => exact ⟨0, rfl, by omega, H13y.out, HBy.out⟩
        case round =>
          obtain ⟨j, rfl, hj, h, hbw⟩ := hrel
          have H := Lib.hid h
          have HB := Lib.hid hbw
          have hj0 : (0 : Int) ≤ (j : Int) := by omega
          clear h hbw
          by_cases hjb : j < bl
          · have hjI : (j : Int) < (bl : Int) := by omega
            by_cases hqj : q / 4 = j / 4
            · have heq : ((j : Int) / 4 == (q : Int) / 4) = true := by rw [beq_iff_eq]; omega
              have HF := Lib.hid (has1 wr H.out Hq.out (j : Int) true (by rw [decide_eq_true (show 0 ≤ (j : Int) ∧ (j : Int) < (bl : Int) from ⟨hj0, hjI⟩)]; simp [hqj]))
              have Hjb := Lib.hid hjb
              clear hqj hjb hj
              go_wp2_with (first
                | (go_at_call 11; with_reducible refine HF.out.mono ?_; rintro e w14 ⟨rfl, hb⟩
                   have H14 := Lib.hid (H.out.below hb)
                   have HB14 := Lib.hid (B.below_up HB.out hb HB.out.size)
                   clear hb))
              go_roundw
              case rel => exact ⟨j + 1, by go_num, by have := Hjb.out; omega, H14.out, HB14.out⟩
              case measure => have := Hjb.out; simp [RowKit.intOf]; omega
            · have heq : ((j : Int) / 4 == (q : Int) / 4) = false := by rw [beq_eq_false_iff_ne]; omega
              have HF := Lib.hid (has1 wr H.out Hq.out (j : Int) false (by rw [decide_eq_true (show 0 ≤ (j : Int) ∧ (j : Int) < (bl : Int) from ⟨hj0, hjI⟩)]; simp [hqj]))
              have Hjb := Lib.hid hjb
              clear hqj hjb hj
              go_wp2_with (first
                | (go_at_call 11; with_reducible refine HF.out.mono ?_; rintro e w14 ⟨rfl, hb⟩
                   have H14 := Lib.hid (H.out.below hb)
                   have HB14 := Lib.hid (B.below_up HB.out hb HB.out.size)
                   clear hb))
              go_roundw
              case rel => exact ⟨j + 1, by go_num, by have := Hjb.out; omega, H14.out, HB14.out⟩
              case measure => have := Hjb.out; simp [RowKit.intOf]; omega
          · have hjI : ¬ (j : Int) < (bl : Int) := by omega
            go_wp2_with fail
            go_ret
            exact ⟨rfl, HB.out⟩
    · have hknI : ¬ (k : Int) < (n1 : Int) := by omega
      clear hkn hk
      have hr8 : D.regs bl ≤ 64 := by have := D.regs_le Hb.out.2; omega
      have Hr8 := Lib.hid hr8
      clear hr8
      go_wp2_with (first
        | (go_at_call 17; with_reducible refine (clear_free wr H.out (by have := HG.out; omega)).mono ?_; rintro e w5 ⟨rfl, d5, c5, h1, h2, h3, _, h4⟩
           have H5 := Lib.hid h1
           have HM5 := Lib.hid h2
           have HG5 := Lib.hid h3
           have HB5 := Lib.hid (LF.up HB.out h4 HX.out)
           clear h1 h2 h3 h4)
        | (go_at_call 10; with_reducible refine (blocks0 w5 H5.out HM5.out).mono ?_; rintro e w6 ⟨xB, capB, rfl, hb⟩
           have H6 := Lib.hid (H5.out.below hb)
           have HB6 := Lib.hid (B.below_up HB5.out hb HB5.out.size)
           clear hb)
        | (go_at_call 15; with_reducible refine (row0 w6 H6.out.ld HM5.out).mono ?_; rintro e w7 ⟨rfl, hb⟩
           have H7 := Lib.hid (H6.out.below hb)
           have HB7 := Lib.hid (B.below_up HB6.out hb HB6.out.size)
           clear hb)
        | (go_at_call 16; with_reducible refine (count0 w7 Hr8.out).mono ?_; rintro e w8 ⟨rfl, hb⟩
           have H8 := Lib.hid (H7.out.below hb)
           have HB8 := Lib.hid (B.below_up HB7.out hb HB7.out.size)
           clear hb)
        | (go_at_call 13; with_reducible refine (fuse_ld w8 H8.out.ld 0 (by omega) (by omega)).mono ?_; rintro e w9 ⟨rfl, h1, h2⟩
           have H9 := Lib.hid h1
           have HB9 := Lib.hid (LF.up HB8.out h2 HX1.out)
           clear h1 h2)
        | (go_at_call 17; with_reducible refine (clear_none w9 H9.out.li H9.out.cel H9.out.bl1 H9.out.tx HM5.out).mono ?_; rintro e w10 ⟨rfl, hb⟩
           have H10 := Lib.hid (H9.out.below hb)
           have HB10 := Lib.hid (B.below_up HB9.out hb HB9.out.size)
           have Hdd : Hid ((M.fuseD d5 0).dead = false) := Lib.hid H8.out.fr.2
           clear hb)
        | (go_at_call 14; with_reducible refine (ldead_any w10 H10.out.dev false Hdd.out).mono ?_; rintro e w11 ⟨rfl, hw⟩; subst hw)
        | (go_at_call 13; with_reducible refine (fuse_ld w10 H10.out (-1) (by omega) (by omega)).mono ?_; rintro e w12 ⟨rfl, h1, h2⟩
           have H12 := Lib.hid (H8.out.fused h1 rfl rfl (fun _ => rfl))
           have HB12 := Lib.hid (LF.up HB10.out h2 HX1.out)
           clear h1 h2)
        | (go_at_call 9; refine (mark_byte w12 H12.out q Hqb.out 61 (by have := HG5.out; have := HG.out; omega) (by omega) _ rfl).mono ?_; rintro e w13 ⟨rfl, d13, c13, h1, h2, h3, h4⟩
           have H13 := Lib.hid h1
           have HM13 := Lib.hid h2
           have HB13 := Lib.hid (LF.up HB12.out h4 HX.out)
           clear h1 h2 h3 h4))
      have Hq : Hid (D.marks bl c13.text = B.M.put 0 (q / 4)) := Lib.hid (by rw [HM13.out, HM5.out])
      have HBy := Lib.hid HB13.out
      have H13y := Lib.hid H13.out
      clear HB HG H5 H6 H7 H8 H9 H10 H12 HB5 HB6 HB7 HB8 HB9 HB10 HB12 HM5 HG5 Hdd H HM13 H13 HB13
      go_loopw [13] (fun i wz => ∃ j : Nat, i = .int .i64 (j : Int) ∧ j ≤ bl ∧ LF wz dB sB mB 2 d13 lB cB 0 1 bl c13 ∧ Below w.heap.size w wz) (fun i _ => ((bl : Int) - RowKit.intOf i).toNat)
      case atStart => exact ⟨0, rfl, by omega, H13y.out, HBy.out⟩
      case round =>
        obtain ⟨j, rfl, hj, h, hbw⟩ := hrel
        have H := Lib.hid h
        have HB := Lib.hid hbw
        have hj0 : (0 : Int) ≤ (j : Int) := by omega
        clear h hbw
        by_cases hjb : j < bl
        · have hjI : (j : Int) < (bl : Int) := by omega
          by_cases hqj : q / 4 = j / 4
          · have heq : ((j : Int) / 4 == (q : Int) / 4) = true := by rw [beq_iff_eq]; omega
            have HF := Lib.hid (has1 wr H.out Hq.out (j : Int) true (by rw [decide_eq_true (show 0 ≤ (j : Int) ∧ (j : Int) < (bl : Int) from ⟨hj0, hjI⟩)]; simp [hqj]))
            have Hjb := Lib.hid hjb
            clear hqj hjb hj
            go_wp2_with (first
              | (go_at_call 11; with_reducible refine HF.out.mono ?_; rintro e w14 ⟨rfl, hb⟩
                 have H14 := Lib.hid (H.out.below hb)
                 have HB14 := Lib.hid (B.below_up HB.out hb HB.out.size)
                 clear hb))
            go_roundw
            case rel => exact ⟨j + 1, by go_num, by have := Hjb.out; omega, H14.out, HB14.out⟩
            case measure => have := Hjb.out; simp [RowKit.intOf]; omega
          · have heq : ((j : Int) / 4 == (q : Int) / 4) = false := by rw [beq_eq_false_iff_ne]; omega
            have HF := Lib.hid (has1 wr H.out Hq.out (j : Int) false (by rw [decide_eq_true (show 0 ≤ (j : Int) ∧ (j : Int) < (bl : Int) from ⟨hj0, hjI⟩)]; simp [hqj]))
            have Hjb := Lib.hid hjb
            clear hqj hjb hj
            go_wp2_with (first
              | (go_at_call 11; with_reducible refine HF.out.mono ?_; rintro e w14 ⟨rfl, hb⟩
                 have H14 := Lib.hid (H.out.below hb)
                 have HB14 := Lib.hid (B.below_up HB.out hb HB.out.size)
                 clear hb))
            go_roundw
            case rel => exact ⟨j + 1, by go_num, by have := Hjb.out; omega, H14.out, HB14.out⟩
            case measure => have := Hjb.out; simp [RowKit.intOf]; omega
        · have hjI : ¬ (j : Int) < (bl : Int) := by omega
          go_wp2_with fail
          go_ret
          exact ⟨rfl, HB.out⟩

set_option maxRecDepth 100000 in
theorem lifted (os : Os) (started : os.Started) (H : Type) (enc : TypeId × Value → H) :
    ReturnsInHanded {} Try.checked os 5 .any (Rows.drlClearsSpec.pre6 enc Try.prog Try.f5 Rows.drlClearsRow.domain false) (Rows.drlClearsSpec.post enc Try.prog Try.f5 false true false false) := by
  refine returnsInHanded_of_change (C := Try.checked) own started (by kernel_rfl) Try.func5
    (ChangeSpec.witness6 (enc := enc) (C := Try.checked) false ⟨#[], #[.int .u8 0, .slice none 0 0, .int .u8 0], []⟩ 8 (by kernel_rfl) (by kernel_rfl) (by kernel_rfl) (by kernel_rfl)) ?_
  intro W base args ds gs before hval0 hW hcnd _
  have hval : ∀ (j : Nat) t v, Try.f5.params[j]? = some t → args[j]? = some v → Value.okWide Try.prog W .any base t v := hval0
  have hW' := hW
  obtain ⟨p, q, hA0, hV, rfl, hfz, hnd⟩ := hW
  have hA : DataW.TrodAll enc Try.prog W 0 (fun _ => true) true Try.f5.params.toList args.toList ds p := hA0
  rw [Try.params5] at hA hval
  obtain ⟨v0, vs0, d0, ds0, p0, q0, hargs, rfl, rfl, h0, r0'⟩ := trodAll_cons hA
  obtain ⟨v1, vs1, d1, ds1, p1, q1, rfl, rfl, rfl, h1, r1'⟩ := trodAll_cons r0'
  obtain ⟨v2, vs2, d2, ds2, p2, q2, rfl, rfl, rfl, h2, r2'⟩ := trodAll_cons r1'
  obtain ⟨rfl, rfl, rfl⟩ := trodAll_nil r2'
  obtain rfl : args = #[v0, v1, v2] := by cases args; simp_all
  obtain ⟨rfl, rfl⟩ := trodVars_none hV
  obtain ⟨x0, rfl, rfl, rfl, w0⟩ := open_int Try.underlying5 (hval 0 5 v0 rfl rfl) h0
  have k1 := h1
  have lt1 : ∀ x ∈ p1, x.block < W.heap.size := by obtain ⟨m, hm⟩ := k1; exact DataW.trod_lt m _ _ _ hm
  obtain ⟨a1, n1, c1, l1, rfl, w1⟩ := open_bytes h1 (okWide_slice Try.underlying40 (hval 1 40 v1 rfl rfl))
  obtain ⟨x2, rfl, rfl, rfl, w2⟩ := open_int Try.underlying5 (hval 2 5 v2 rfl rfl) h2
  clear hA0 hval0
  refine (walk x0 a1 n1 c1 l1 x2 W w0 w1 w2).mono fun e W' ⟨he, bel⟩ => ?_
  subst he
  exact ⟨_, rfl, _, _, _, [], _, [], hW', trodAll_mk1 (shut_bool Try.underlying4 _), (trodAll_cons_mk (shut_int Try.underlying5 w0) (trodAll_cons_mk (Below.trod laidOut (by kernel_rfl) (of_decide_eq_true (by kernel_rfl)) k1 bel lt1) (trodAll_cons_mk (shut_int Try.underlying5 w2) trodAll_mk0))), rfl, bel.frame _, fun h => by cases h⟩

theorem over : Rows.drlClearsRow.holds Try.pinned (OpenSpec.ofChange Rows.drlClearsSpec) :=
  OpenClaim.holds_of_wide 5 Try.f5 rfl rfl rfl rfl rfl rfl rfl ⟨rfl, rfl, rfl, rfl, rfl⟩ rfl rfl rfl rfl rfl (by kernel_rfl) Try.func5 (by kernel_rfl)
    (of_decide_eq_true (by kernel_rfl)) (by unfold Func.isWrapper; first | (rw [if_pos (by decide +kernel)]; kernel_rfl) | (rw [if_neg (by decide +kernel)]; exact ⟨rfl, rfl⟩))
    (fun os started H enc _ => lifted os started H enc)

/-- the statement -/
theorem proved : Rows.DrlClearsSaid := over
#print axioms proved
end Go.Proofs.Ytcofahpeinkhfaa.drlClears
