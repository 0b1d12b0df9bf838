/-
  PROVED: a region's blocks are marked together, and those of no other one; marked twice is marked once. CONDITIONS: none (any number of blocks from 1 to 32; any block).
-/
import Derived.Test.YtcofahpeinkhfaaDrl5
import Derived.Test.YtcofahpeinkhfaaOpenB
namespace Go.Proofs.Ytcofahpeinkhfaa.drlRegions
open Go.ChangeShapes Go.WideShapes Go.ChangeAt Go.RowKit Go.Joins
open Go.ChangeMaps (open_string shut_string)
set_option linter.unusedVariables false
set_option linter.unusedSimpArgs false
set_option maxRecDepth 20000

variable {dB sB mB n : Nat} {d : M.Dv}

theorem ldead_any (w : World) (h : DevAt w dB sB mB n d) (v : Bool) (hv : d.dead = v) : Calls Try.prog 14 #[.pointer (some ⟨dB, 0, none⟩)] w fun e w' => e = .returned (.bool v) ∧ w = w' := by
  have h1 := h.dead
  rw [hv] at h1
  clear h hv
  go_enter Try.func14, Try.ntmps14
  go_wp2
  go_ret
  exact ⟨rfl, rfl⟩

theorem pend_none {n : Nat} {P : Int → Option M.Sec} (h : ∀ k, P k = none) : M.pendL n P = [] := by
  unfold M.pendL
  rw [List.filter_eq_nil_iff]
  intro k _
  rw [h k]; simp

theorem pend0 (w : World) (h : DevAt w dB sB mB n d) (hp : ∀ k, d.P k = none) : Calls Try.prog 12 #[.pointer (some ⟨dB, 0, none⟩)] w fun e w' => ∃ a cap, e = .returned (.slice a 0 cap) ∧ Below w.heap.size w w' := by
  have HP := pending_any w h
  rw [pend_none hp] at HP
  refine HP.mono ?_
  rintro e w' ⟨v, rfl, hrow, hb⟩
  obtain ⟨aP, cP, rfl, _, _⟩ := own_row hrow (by simp [ints])
  exact ⟨aP, cP, rfl, hb⟩

theorem open10 (w : World) (bl : Nat) (hbl : 1 ≤ bl ∧ bl ≤ 32) (h : DevAt w dB sB mB 2 d) (hf : Free d) :
    Calls Try.prog 8 #[.pointer (some ⟨dB, 0, none⟩), .int .i64 1, .int .i64 0, .int .i64 (bl : Int)] w fun e w' => ∃ lB cB, e = .returned (.tuple #[.pointer (some ⟨lB, 0, none⟩), .int .i64 0]) ∧ w.heap.size ≤ cB ∧ w.heap.size ≤ lB ∧ lB ≠ cB ∧
      LF w' dB sB mB 2 d lB cB 1 0 bl (M.found (M.rdS (M.seen d 1)) (M.rdS (M.seen d 0))) ∧ Below w.heap.size w w' :=
  lopen_free w h hf 1 0 (by omega) (by omega) (by omega) bl hbl
theorem fnd10 : M.found (M.rdS (M.seen M.fresh 1)) (M.rdS (M.seen M.fresh 0)) = M.none0 := found_zero

/-- has, where one region is marked -/
theorem has1 (w : World) {lB cB a b bl : Nat} {c : M.Cl} (H : LF w dB sB mB n d lB cB a b bl c) {q : Nat} (hm : D.marks bl c.text = B.M.put 0 q) (i : Int) (v : Bool) (hv : (decide (0 ≤ i ∧ i < (bl : Int)) && decide (q = i.toNat / 4)) = v) :
    Calls Try.prog 11 #[.pointer (some ⟨lB, 0, none⟩), .int .i64 i] w fun e w' => e = .returned (.bool v) ∧ Below w.heap.size w w' := by
  have := lhas_any w H.ld.li H.ld.cel H.ld.bl1 H.ld.tx i
  rw [hm] at this
  have e : D.has bl (B.M.put 0 q) i = v := by
    rw [← hv]; unfold D.has
    rw [B.M.put_bit, Nat.zero_testBit, Bool.false_or]
  rwa [e] at this
theorem blocksN (w : World) {lB cB a b bl : Nat} {c : M.Cl} (H : LD w dB sB mB n d lB cB a b bl c) {m k : Nat} (hm : D.marks bl c.text = m) (hk : (D.blocks bl m).length = k) :
    Calls Try.prog 10 #[.pointer (some ⟨lB, 0, none⟩)] w fun e w' => ∃ x cap, e = .returned (.slice x k cap) ∧ Below w.heap.size w w' := by
  refine (blocks_any w H.li H.cel H.bl1 H.tx).mono ?_
  rw [hm, hk]
  rintro e w' ⟨x, cap, rfl, _, hb⟩
  exact ⟨x, cap, rfl, hb⟩
theorem rowN (w : World) {lB cB a b bl : Nat} {c : M.Cl} (H : LD w dB sB mB n d lB cB a b bl c) {m : Nat} (hm : D.marks bl c.text = m) :
    Calls Try.prog 15 #[.pointer (some ⟨lB, 0, none⟩)] w fun e w' => e = .returned (.agg #[.int .i64 (D.regs bl : Int), .int .u64 (m : Int)]) ∧ Below w.heap.size w w' := by
  refine (row_any w H.li H.cel H.bl1 H.tx).mono ?_
  rw [hm]
  exact fun e w' h => h
theorem countN (w : World) {g m k : Nat} (hg : g ≤ 64) (hm : m < 2 ^ g) (hk : (B.M.all g m).length = k) :
    Calls Try.prog 16 #[.agg #[.int .i64 (g : Int), .int .u64 (m : Int)]] w fun e w' => e = .returned (.int .i64 (k : Int)) ∧ Below w.heap.size w w' := by
  have := B.count_any g m w hg hm
  rw [hk] at this
  exact this

set_option maxHeartbeats 4000000 in
theorem walk (x0 : Int) (x1 : Int) (w : World) (w0 : (Lit.int .u8 x0).wf = true) (w1 : (Lit.int .i64 x1).wf = true) :
    Calls Try.prog 3 #[.int .u8 x0, .int .i64 x1] w fun e w' => e = .returned (.bool true) ∧ Below w.heap.size w w' := by
  have HA := Lib.hid (awake_any w)
  obtain ⟨k0, rfl⟩ := Int.eq_ofNat_of_zero_le (show 0 ≤ x0 by simp [Lit.wf, IntKind.min, IntKind.max, IntKind.signed, IntKind.bits] at w0; omega)
  have hk0 : k0 < 256 := by simp [Lit.wf, IntKind.min, IntKind.max, IntKind.signed, IntKind.bits] at w0; omega
  have hk0I : (k0 : Int) < 256 := by omega
  have hx1 := wf_i64 w1
  clear w0 w1
  obtain ⟨bl, hbl, hbl1, hbl2⟩ : ∃ bl : Nat, (k0 : Int) % 32 + 1 = (bl : Int) ∧ 1 ≤ bl ∧ bl ≤ 32 := ⟨k0 % 32 + 1, by omega, by omega, by omega⟩
  have Hbl := Lib.hid hbl
  have Hb := Lib.hid (And.intro hbl1 hbl2)
  have hblI : (bl : Int) ≤ 32 := by omega
  clear hbl
  by_cases hin : 0 ≤ x1 ∧ x1 < (bl : Int)
  · obtain ⟨k, rfl⟩ := Int.eq_ofNat_of_zero_le hin.1
    have hk : k < bl := by omega
    have Hk := Lib.hid hk
    have hkI : (k : Int) < (bl : Int) := by omega
    have hk0' : (0 : Int) ≤ (k : Int) := by omega
    clear hin
    go_enter Try.func3, Try.ntmps3
    go_wp2_with (first
      | (go_at_call 6; with_reducible refine HA.out.mono ?_; rintro e w1 ⟨rfl, hb1⟩; have HB1 := Lib.hid hb1; clear hb1)
      | (go_at_call 7; with_reducible refine (new2 _).mono ?_; rintro e w2 ⟨dB, sB, mB, rfl, hd2, hb2, l1, l2, l3⟩
         have HD2 := Lib.hid hd2
         have HB2 := Lib.hid (HB1.out.trans (hb2.mono HB1.out.size))
         have HL : Hid (w.heap.size ≤ dB ∧ w.heap.size ≤ sB ∧ w.heap.size ≤ mB) := Lib.hid ⟨by have := HB1.out.size; omega, by have := HB1.out.size; omega, by have := HB1.out.size; omega⟩
         rw [Hbl.out]
         clear hd2 hb2 l1 l2 l3)
      | (go_at_call 8; with_reducible refine (open10 w2 bl Hb.out HD2.out Free.fresh).mono ?_; rintro e w3 ⟨lB, cB, rfl, h1, h2, h3, h4, h5⟩
         have H3 := Lib.hid h4
         have HB3 := Lib.hid (HB2.out.trans (h5.mono HB2.out.size))
         have HLc : Hid (w.heap.size ≤ cB) := Lib.hid (by have := HB2.out.size; omega)
         clear h1 h2 h3 h4 h5)
      | (go_at_call 9; with_reducible refine (mark_free w3 H3.out (by rw [fnd10]; decide) k Hk.out).mono ?_; rintro e w4 ⟨rfl, d4, c4, h4, h5, h6, h7, h8⟩
         have H4 := Lib.hid h4
         have HM4 : Hid (D.marks bl c4.text = B.M.put 0 (k / 4)) := Lib.hid (by rw [h5, fnd10]; rw [show D.marks bl M.none0.text = 0 from D.marks_empty bl])
         have HP4 := Lib.hid (h7 (fun _ => rfl))
         have HB4 : Hid (Below w.heap.size w w4) := Lib.hid (HB3.out.trans (h8.to_below (by have := HL.out; have := HLc.out; simp; omega) HB3.out.size))
         clear h4 h5 h6 h7 h8))
    generalize hm : B.M.put 0 (k / 4) = m at *
    have Hm := Lib.hid hm
    clear hm
    go_loopw [10, 11] (fun many b wr => LF wr dB sB mB 2 d4 lB cB 1 0 bl c4 ∧ Below w.heap.size w wr ∧ ((b = .int .i64 (-1) ∧ many = .int .i64 0) ∨ (∃ j, j ≤ bl ∧ b = .int .i64 (j : Int) ∧ many = .int .i64 ((D.blocks j m).length : Int)) ∨ (b = .int .i64 ((bl : Int) + 1) ∧ many = .int .i64 ((D.blocks bl m).length : Int)))) (fun _ b _ => ((bl : Int) + 1 - RowKit.intOf b).toNat)
    case atStart => exact ⟨H4.out, HB4.out, .inl ⟨rfl, rfl⟩⟩
    case round =>
      obtain ⟨h, hbw, hi⟩ := hrel
      have H := Lib.hid h
      have HB := Lib.hid hbw
      clear h hbw
      rcases hi with ⟨rfl, rfl⟩ | ⟨j, hj, rfl, rfl⟩ | ⟨rfl, rfl⟩
      · have HF := fun w (h : LF w dB sB mB 2 d4 lB cB 1 0 bl c4) => Lib.hid (has1 w h (by rw [HM4.out, Hm.out]) (-1) false (by simp))
        go_wp2_with (first
          | (go_at_call 11; with_reducible refine (HF wr H.out).out.mono ?_; rintro e w5 ⟨rfl, hb⟩
             have H5 := Lib.hid (H.out.below hb)
             have HB5 := Lib.hid (B.below_up HB.out hb HB.out.size)
             clear hb)
          | (go_at_call 11; with_reducible refine (HF w5 H5.out).out.mono ?_; rintro e w6 ⟨rfl, hb⟩
             have H6 := Lib.hid (H5.out.below hb)
             have HB6 := Lib.hid (B.below_up HB5.out hb HB5.out.size)
             clear hb))
        go_roundw
        case rel => exact ⟨H6.out, HB6.out, .inr (.inl ⟨0, by omega, rfl, rfl⟩)⟩
        case measure => simp [RowKit.intOf]; omega
      · have hj0 : (0 : Int) ≤ (j : Int) := by omega
        have hjI : (j : Int) ≤ (bl : Int) := by omega
        have hlen := D.blocks_len j m
        by_cases hlt : j < bl
        · have hltI : (j : Int) < (bl : Int) := by omega
          by_cases hq : k / 4 = j / 4
          · have heq : ((j : Int) / 4 == (k : Int) / 4) = true := by rw [beq_iff_eq]; omega
            have HF := fun w (h : LF w dB sB mB 2 d4 lB cB 1 0 bl c4) => Lib.hid (has1 w h (q := k / 4) (by rw [HM4.out, Hm.out]) (j : Int) true (by rw [decide_eq_true (show 0 ≤ (j : Int) ∧ (j : Int) < (bl : Int) from ⟨hj0, hltI⟩)]; simp [hq]))
            have HN : Hid ((D.blocks (j + 1) m).length = (D.blocks j m).length + 1) := Lib.hid (by rw [D.blocks_yes (by rw [← Hm.out, B.M.put_bit, Nat.zero_testBit]; simp [hq])]; simp)
            have Hlt := Lib.hid hlt
            generalize (D.blocks j m).length = cnt at *
            have hcI : (cnt : Int) ≤ 32 := by omega
            clear hq hlt hlen hj
            go_wp2_with (first
              | (go_at_call 11; with_reducible refine (HF wr H.out).out.mono ?_; rintro e w5 ⟨rfl, hb⟩
                 have H5 := Lib.hid (H.out.below hb)
                 have HB5 := Lib.hid (B.below_up HB.out hb HB.out.size)
                 clear hb)
              | (go_at_call 11; with_reducible refine (HF w5 H5.out).out.mono ?_; rintro e w6 ⟨rfl, hb⟩
                 have H6 := Lib.hid (H5.out.below hb)
                 have HB6 := Lib.hid (B.below_up HB5.out hb HB5.out.size)
                 clear hb))
            go_roundw
            case rel => exact ⟨H6.out, HB6.out, .inr (.inl ⟨j + 1, by have := Hlt.out; omega, by go_num, by rw [HN.out]; go_num⟩)⟩
            case measure => simp [RowKit.intOf]; omega
          · have heq : ((j : Int) / 4 == (k : Int) / 4) = false := by rw [beq_eq_false_iff_ne]; omega
            have HF := fun w (h : LF w dB sB mB 2 d4 lB cB 1 0 bl c4) => Lib.hid (has1 w h (q := k / 4) (by rw [HM4.out, Hm.out]) (j : Int) false (by rw [decide_eq_true (show 0 ≤ (j : Int) ∧ (j : Int) < (bl : Int) from ⟨hj0, hltI⟩)]; simp [hq]))
            have HN : Hid ((D.blocks (j + 1) m).length = (D.blocks j m).length) := Lib.hid (by rw [D.blocks_no (by rw [← Hm.out, B.M.put_bit, Nat.zero_testBit]; simp [hq])])
            have Hlt := Lib.hid hlt
            generalize (D.blocks j m).length = cnt at *
            have hcI : (cnt : Int) ≤ 32 := by omega
            clear hq hlt hlen hj
            go_wp2_with (first
              | (go_at_call 11; with_reducible refine (HF wr H.out).out.mono ?_; rintro e w5 ⟨rfl, hb⟩
                 have H5 := Lib.hid (H.out.below hb)
                 have HB5 := Lib.hid (B.below_up HB.out hb HB.out.size)
                 clear hb)
              | (go_at_call 11; with_reducible refine (HF w5 H5.out).out.mono ?_; rintro e w6 ⟨rfl, hb⟩
                 have H6 := Lib.hid (H5.out.below hb)
                 have HB6 := Lib.hid (B.below_up HB5.out hb HB5.out.size)
                 clear hb))
            go_roundw
            case rel => exact ⟨H6.out, HB6.out, .inr (.inl ⟨j + 1, by have := Hlt.out; omega, by go_num, by rw [HN.out]⟩)⟩
            case measure => simp [RowKit.intOf]; omega
        · obtain rfl : j = bl := by omega
          have HF := fun w (h : LF w dB sB mB 2 d4 lB cB 1 0 j c4) => Lib.hid (has1 w h (q := k / 4) (by rw [HM4.out, Hm.out]) (j : Int) false (by simp))
          generalize (D.blocks j m).length = cnt at *
          clear hlt hlen hj
          go_wp2_with (first
            | (go_at_call 11; with_reducible refine (HF wr H.out).out.mono ?_; rintro e w5 ⟨rfl, hb⟩
               have H5 := Lib.hid (H.out.below hb)
               have HB5 := Lib.hid (B.below_up HB.out hb HB.out.size)
               clear hb)
            | (go_at_call 11; with_reducible refine (HF w5 H5.out).out.mono ?_; rintro e w6 ⟨rfl, hb⟩
               have H6 := Lib.hid (H5.out.below hb)
               have HB6 := Lib.hid (B.below_up HB5.out hb HB5.out.size)
               clear hb))
          go_roundw
          case rel => exact ⟨H6.out, HB6.out, .inr (.inr ⟨by go_num, rfl⟩)⟩
          case measure => simp [RowKit.intOf]
      · have HLn := Lib.hid (show (D.blocks bl m).length = (D.blocks bl m).length from rfl)
        have hr := D.reg_lt Hk.out
        have h8 := D.regs_le Hb.out.2
        have HC1 := Lib.hid (D.count_one hr)
        have Hbit : Hid ((D.marks bl c4.text).testBit (k / 4) = true) := Lib.hid (by rw [HM4.out, ← Hm.out, B.M.put_bit, decide_eq_true rfl, Bool.or_true])
        have Hmlt : Hid (m < 2 ^ D.regs bl) := Lib.hid (by rw [← Hm.out]; exact B.M.put_lt (Nat.two_pow_pos _) hr)
        have HC2 : Hid ((B.M.all (D.regs bl) m).length = 1) := Lib.hid (by rw [← Hm.out]; exact HC1.out)
        have h64 : D.regs bl ≤ 64 := by omega
        have H64 := Lib.hid h64
        have Hdd : Hid ((M.fuseD d4 0).dead = false) := Lib.hid H4.out.fr.2
        clear h64
        have Hr8 := Lib.hid (And.intro hr h8)
        clear hr h8
        generalize hcn : (D.blocks bl m).length = cnt at *
        have Hcn := Lib.hid hcn
        clear hcn HLn
        go_wp2_with (first
          | (go_at_call 12; with_reducible refine (pend0 wr H.out.ld.dev HP4.out).mono ?_; rintro e w5 ⟨aP, cP, rfl, hb⟩
             have H5 := Lib.hid (H.out.below hb)
             have HB5 := Lib.hid (B.below_up HB.out hb HB.out.size)
             clear hb)
          | (go_at_call 13; with_reducible refine (fuse_any w5 H5.out.ld.dev 0 (by omega) (by omega)).mono ?_; rintro e w6 ⟨rfl, hd6, hb⟩
             have h := H5.out.ld
             have H6 : Hid (LD w6 dB sB mB 2 (M.fuseD d4 0) lB cB 1 0 bl c4) := Lib.hid ⟨hd6, h.cel.but hb (by have := h.cd; simp; omega), h.li.but hb (by have := h.ld; simp; omega), h.cd, h.ld, h.o1, h.gn, h.tx, h.bl1, h.ab⟩
             have HB6 : Hid (Below w.heap.size w w6) := Lib.hid (HB5.out.trans (hb.to_below (by have := HL.out; simp; omega) HB5.out.size))
             clear hb hd6 h)
          | (go_at_call 9; with_reducible refine (mark_has w6 H6.out.li H6.out.cel H6.out.bl1 H6.out.tx k Hk.out Hbit.out).mono ?_; rintro e w7 ⟨rfl, hb⟩
             have H7 := Lib.hid (H6.out.below hb)
             have HB7 := Lib.hid (B.below_up HB6.out hb HB6.out.size)
             clear hb)
          | (go_at_call 14; with_reducible refine (ldead_any w7 H7.out.dev false Hdd.out).mono ?_; rintro e w8 ⟨rfl, hw⟩; subst hw)
          | (go_at_call 10; with_reducible refine (blocksN w7 H7.out HM4.out Hcn.out).mono ?_; rintro e w9 ⟨x, cap, rfl, hb⟩
             have H9 := Lib.hid (H7.out.below hb)
             have HB9 := Lib.hid (B.below_up HB7.out hb HB7.out.size)
             clear hb)
          | (go_at_call 15; with_reducible refine (rowN w9 H9.out HM4.out).mono ?_; rintro e w10 ⟨rfl, hb⟩
             have HB10 := Lib.hid (B.below_up HB9.out hb HB9.out.size)
             clear hb)
          | (go_at_call 16; with_reducible refine (countN w10 H64.out Hmlt.out HC2.out).mono ?_; rintro e w11 ⟨rfl, hb⟩
             have HB11 := Lib.hid (B.below_up HB10.out hb HB10.out.size)
             clear hb))
        go_ret
        exact ⟨rfl, HB11.out⟩
  · have Hin := Lib.hid hin
    have hcase : x1 < 0 ∨ ((bl : Int) ≤ x1 ∧ ¬ x1 < 0) := by omega
    clear hin
    have key : ∀ w2 (dB sB mB : Nat) (lB cB : Nat) (c : M.Cl), LF w2 dB sB mB 2 M.fresh lB cB 1 0 bl c → c = M.none0 → Calls Try.prog 10 #[.pointer (some ⟨lB, 0, none⟩)] w2 fun e w' => ∃ x cap, e = .returned (.slice x 0 cap) ∧ Below w2.heap.size w2 w' := fun w2 dB sB mB lB cB c h hc => blocksN w2 h.ld (m := 0) (by rw [hc]; exact D.marks_empty bl) (by rw [D.blocks_none]; rfl)
    rcases hcase with hlt | ⟨hge, hnl⟩
    · go_enter Try.func3, Try.ntmps3
      go_wp2_with (first
        | (go_at_call 6; with_reducible refine HA.out.mono ?_; rintro e w1 ⟨rfl, hb1⟩; have HB1 := Lib.hid hb1; clear hb1)
        | (go_at_call 7; with_reducible refine (new2 _).mono ?_; rintro e w2 ⟨dB, sB, mB, rfl, hd2, hb2, l1, l2, l3⟩
           have HD2 := Lib.hid hd2
           have HB2 := Lib.hid (HB1.out.trans (hb2.mono HB1.out.size))
           rw [Hbl.out]
           clear hd2 hb2 l1 l2 l3)
        | (go_at_call 8; with_reducible refine (open10 w2 bl Hb.out HD2.out Free.fresh).mono ?_; rintro e w3 ⟨lB, cB, rfl, h1, h2, h3, h4, h5⟩
           have H3 := Lib.hid h4
           have HB3 := Lib.hid (HB2.out.trans (h5.mono HB2.out.size))
           clear h1 h2 h3 h4 h5)
        | (go_at_call 9; with_reducible refine (mark_out w3 H3.out.ld.li x1 Hin.out).mono ?_; rintro e w4 ⟨rfl, rfl⟩)
        | (go_at_call 10; with_reducible refine (key w3 _ _ _ _ _ _ H3.out fnd10).mono ?_; rintro e w5 ⟨x, cap, rfl, hb⟩
           have HB5 := Lib.hid (B.below_up HB3.out hb HB3.out.size)
           clear hb))
      go_ret
      exact ⟨rfl, HB5.out⟩
    · go_enter Try.func3, Try.ntmps3
      go_wp2_with (first
        | (go_at_call 6; with_reducible refine HA.out.mono ?_; rintro e w1 ⟨rfl, hb1⟩; have HB1 := Lib.hid hb1; clear hb1)
        | (go_at_call 7; with_reducible refine (new2 _).mono ?_; rintro e w2 ⟨dB, sB, mB, rfl, hd2, hb2, l1, l2, l3⟩
           have HD2 := Lib.hid hd2
           have HB2 := Lib.hid (HB1.out.trans (hb2.mono HB1.out.size))
           rw [Hbl.out]
           clear hd2 hb2 l1 l2 l3)
        | (go_at_call 8; with_reducible refine (open10 w2 bl Hb.out HD2.out Free.fresh).mono ?_; rintro e w3 ⟨lB, cB, rfl, h1, h2, h3, h4, h5⟩
           have H3 := Lib.hid h4
           have HB3 := Lib.hid (HB2.out.trans (h5.mono HB2.out.size))
           clear h1 h2 h3 h4 h5)
        | (go_at_call 9; with_reducible refine (mark_out w3 H3.out.ld.li x1 Hin.out).mono ?_; rintro e w4 ⟨rfl, rfl⟩)
        | (go_at_call 10; with_reducible refine (key w3 _ _ _ _ _ _ H3.out fnd10).mono ?_; rintro e w5 ⟨x, cap, rfl, hb⟩
           have HB5 := Lib.hid (B.below_up HB3.out hb HB3.out.size)
           clear hb))
      go_ret
      exact ⟨rfl, HB5.out⟩

set_option maxRecDepth 100000 in
theorem lifted (os : Os) (started : os.Started) (H : Type) (enc : TypeId × Value → H) :
    ReturnsInHanded {} Try.checked os 3 .any (Rows.drlRegionsSpec.pre6 enc Try.prog Try.f3 Rows.drlRegionsRow.domain false) (Rows.drlRegionsSpec.post enc Try.prog Try.f3 false true false false) := by
  refine returnsInHanded_of_change (C := Try.checked) own started (by kernel_rfl) Try.func3
    (ChangeSpec.witness6 (enc := enc) (C := Try.checked) false ⟨#[], #[.int .u8 0, .int .i64 0], []⟩ 8 (by kernel_rfl) (by kernel_rfl) (by kernel_rfl) (by kernel_rfl)) ?_
  intro W base args ds gs before hval0 hW hcnd _
  have hval : ∀ (j : Nat) t v, Try.f3.params[j]? = some t → args[j]? = some v → Value.okWide Try.prog W .any base t v := hval0
  have hW' := hW
  obtain ⟨p, q, hA0, hV, rfl, hfz, hnd⟩ := hW
  have hA : DataW.TrodAll enc Try.prog W 0 (fun _ => true) true Try.f3.params.toList args.toList ds p := hA0
  rw [Try.params3] at hA hval
  obtain ⟨v0, vs0, d0, ds0, p0, q0, hargs, rfl, rfl, h0, r0'⟩ := trodAll_cons hA
  obtain ⟨v1, vs1, d1, ds1, p1, q1, rfl, rfl, rfl, h1, r1'⟩ := trodAll_cons r0'
  obtain ⟨rfl, rfl, rfl⟩ := trodAll_nil r1'
  obtain rfl : args = #[v0, v1] := by cases args; simp_all
  obtain ⟨rfl, rfl⟩ := trodVars_none hV
  obtain ⟨x0, rfl, rfl, rfl, w0⟩ := open_int Try.underlying5 (hval 0 5 v0 rfl rfl) h0
  obtain ⟨x1, rfl, rfl, rfl, w1⟩ := open_int Try.underlying3 (hval 1 3 v1 rfl rfl) h1
  clear hA0 hval0
  refine (walk x0 x1 W w0 w1).mono fun e W' ⟨he, bel⟩ => ?_
  subst he
  exact ⟨_, rfl, _, _, _, [], _, [], hW', trodAll_mk1 (shut_bool Try.underlying4 _), (trodAll_cons_mk (shut_int Try.underlying5 w0) (trodAll_cons_mk (shut_int Try.underlying3 w1) trodAll_mk0)), rfl, bel.frame _, fun h => by cases h⟩

theorem over : Rows.drlRegionsRow.holds Try.pinned (OpenSpec.ofChange Rows.drlRegionsSpec) :=
  OpenClaim.holds_of_wide 3 Try.f3 rfl rfl rfl rfl rfl rfl rfl ⟨rfl, rfl, rfl, rfl, rfl⟩ rfl rfl rfl rfl rfl (by kernel_rfl) Try.func3 (by kernel_rfl)
    (of_decide_eq_true (by kernel_rfl)) (by unfold Func.isWrapper; first | (rw [if_pos (by decide +kernel)]; kernel_rfl) | (rw [if_neg (by decide +kernel)]; exact ⟨rfl, rfl⟩))
    (fun os started H enc _ => lifted os started H enc)

/-- the statement -/
theorem proved : Rows.DrlRegionsSaid := over
#print axioms proved
end Go.Proofs.Ytcofahpeinkhfaa.drlRegions
