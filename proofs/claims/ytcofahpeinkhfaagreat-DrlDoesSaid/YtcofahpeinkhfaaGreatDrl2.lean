/-
  Which regions are marked, whether a block's is, and which blocks are of such.
-/
import Derived.Test.YtcofahpeinkhfaaGreatDrl1
namespace Go.Proofs.YtcofahpeinkhfaaGreat
open Go.RowKit
set_option linter.unusedVariables false
set_option linter.unusedSimpArgs false
set_option maxRecDepth 20000

variable {dB sB mB n : Nat} {d : M.Dv}

set_option maxHeartbeats 1000000 in
theorem row_any (w : World) {lB cB bl a b : Nat} {c : M.Cl} (hl : ListAt w lB cB bl) (hc : CellAt w cB dB a b c) (hb : 1 ≤ bl ∧ bl ≤ 32) (ht : c.text.size ≤ 100) :
    Calls Tryz.prog 26 #[.pointer (some ⟨lB, 0, none⟩)] w fun e w' => e = .returned (B.V (D.regs bl) (D.marks bl c.text)) ∧ Below w.heap.size w w' := by
  have HG := fun w' (h : CellAt w' cB dB a b c) => Lib.hid (get_any w' h)
  have HL := fun w => Lib.hid (B.load_any c.text w (by unfold maxLen; omega))
  have HN := fun w => Lib.hid (B.new_any (D.regs bl : Int) w)
  have HR := fun w' (h : ListAt w' lB cB bl) => Lib.hid (regions_any w' h hb)
  have hlen : B.M.len (D.regs bl : Int) = D.regs bl := by
    have := D.regs_le hb.2
    unfold B.M.len
    rw [if_pos ⟨by omega, by omega⟩]
    simp
  simp only [hlen] at HN
  have HM : Hid (D.marks bl c.text = if B.M.loadE c.text.data.toList = 0 ∧ B.M.loadN c.text.data.toList = D.regs bl then B.M.loadM c.text.data.toList else 0) := Lib.hid rfl
  have HLn := fun n m w => Lib.hid (B.len_any n m w)
  generalize D.regs bl = g at *
  generalize D.marks bl c.text = mk at *
  generalize B.M.loadE c.text.data.toList = E at *
  generalize B.M.loadN c.text.data.toList = N at *
  generalize B.M.loadM c.text.data.toList = K at *
  generalize c.text = tx at *
  have HC := Lib.hid hc
  have HLi := Lib.hid hl
  have hlt := hl.lt
  obtain ⟨q0, q1⟩ := hl
  unfold B.V at *
  clear hlen hc ht hb
  by_cases hE : E = 0
  · subst hE
    by_cases hN : N = g
    · subst hN
      have HM2 : Hid (mk = K) := Lib.hid (by rw [HM.out, if_pos ⟨rfl, rfl⟩])
      obtain rfl : K = mk := HM2.out.symm
      clear HM HM2
      go_enter Tryz.func26, Tryz.ntmps26
      go_wp2_with (first
      | (go_at_call 55; refine (HG _ (HC.out.below (B.bel1 w _) HC.out.lt)).out.mono ?_; rintro e w1 ⟨rfl, rfl⟩)
      | (go_at_call 54; with_reducible refine (HL _).out.mono ?_; rintro e w1 ⟨rfl, hb⟩
         have HB1 := Lib.hid (B.bel2 hb)
         have HR1 : Hid (B.At w1 w.heap.size 0 0) := Lib.hid ((B.at_new w 0 0).below hb (by simp))
         have HLi1 := Lib.hid (HLi.out.below HB1.out hlt)
         have HK1 : Hid (B.At (w1.alloc (.cells #[.int .i64 (N : Int), .int .u64 (K : Int)] 54)) w1.heap.size N K) := Lib.hid (B.at_new w1 N K)
         have hs1 := hb.size
         clear hb)
      | (go_at_call 44; refine (HR _ (HLi2.out)).out.mono ?_; rintro e wx ⟨rfl, rfl⟩)
      | (go_at_call 31; with_reducible refine (HLn N K _).out.mono ?_; rintro e w2 ⟨rfl, hb2⟩
         have HB2 : Hid (Below w.heap.size w w2) := Lib.hid (B.below_up HB1.out (B.bel2 hb2) HB1.out.size)
         have HR2 : Hid (B.At w2 w.heap.size 0 0) := Lib.hid (HR1.out.below (B.bel2 hb2) HR1.out.lt)
         have HLi2 := Lib.hid (HLi1.out.below (B.bel2 hb2) HLi1.out.lt)
         have HK2 : Hid (B.At w2 w1.heap.size N K) := Lib.hid (HK1.out.below hb2 (by simp))
         obtain ⟨c0, c1, cf⟩ := HR2.out
         have f0 := cf 0
         have f1 := cf 1
         obtain ⟨k0, k1, kf⟩ := HK2.out
         have hs2 := hb2.size
         clear hb2 cf kf)
      )
      exact bodyPost_ret (v := .agg #[.int .i64 (N : Int), .int .u64 (K : Int)]) (by simp [results, Tryz.results26, go_sem, c0, c1]) rfl ⟨rfl, (HB2.out.setCell (by simp) _).setCell (by simp) _⟩
    · have hne : ((N : Int) != (g : Int)) = true := by rw [bne_iff_ne]; omega
      obtain rfl : mk = 0 := by rw [HM.out, if_neg (fun h => hN h.2)]
      clear HM hN
      go_enter Tryz.func26, Tryz.ntmps26
      go_wp2_with (first
      | (go_at_call 55; refine (HG _ (HC.out.below (B.bel1 w _) HC.out.lt)).out.mono ?_; rintro e w1 ⟨rfl, rfl⟩)
      | (go_at_call 54; with_reducible refine (HL _).out.mono ?_; rintro e w1 ⟨rfl, hb⟩
         have HB1 := Lib.hid (B.bel2 hb)
         have HR1 : Hid (B.At w1 w.heap.size 0 0) := Lib.hid ((B.at_new w 0 0).below hb (by simp))
         have HLi1 := Lib.hid (HLi.out.below HB1.out hlt)
         have HK1 : Hid (B.At (w1.alloc (.cells #[.int .i64 (N : Int), .int .u64 (K : Int)] 54)) w1.heap.size N K) := Lib.hid (B.at_new w1 N K)
         have hs1 := hb.size
         clear hb)
      | (go_at_call 44; refine (HR _ (HLi2.out)).out.mono ?_; rintro e wx ⟨rfl, rfl⟩)
      | (go_at_call 31; with_reducible refine (HLn N K _).out.mono ?_; rintro e w2 ⟨rfl, hb2⟩
         have HB2 : Hid (Below w.heap.size w w2) := Lib.hid (B.below_up HB1.out (B.bel2 hb2) HB1.out.size)
         have HR2 : Hid (B.At w2 w.heap.size 0 0) := Lib.hid (HR1.out.below (B.bel2 hb2) HR1.out.lt)
         have HLi2 := Lib.hid (HLi1.out.below (B.bel2 hb2) HLi1.out.lt)
         have HK2 : Hid (B.At w2 w1.heap.size N K) := Lib.hid (HK1.out.below hb2 (by simp))
         obtain ⟨c0, c1, cf⟩ := HR2.out
         have f0 := cf 0
         have f1 := cf 1
         obtain ⟨k0, k1, kf⟩ := HK2.out
         have hs2 := hb2.size
         clear hb2 cf kf)
      | (go_at_call 43; with_reducible refine (HN _).out.mono ?_; rintro e w3 ⟨rfl, hb3⟩
         have HB3 : Hid (Below w.heap.size w w3) := Lib.hid (B.below_up HB2.out hb3 HB2.out.size)
         have HR3 : Hid (B.At w3 w.heap.size 0 0) := Lib.hid (HR2.out.below hb3 HR2.out.lt)
         obtain ⟨c0, c1, cf⟩ := HR3.out
         have f0 := cf 0
         have f1 := cf 1
         clear hb3 cf)
      )
      exact bodyPost_ret (v := .agg #[.int .i64 (g : Int), .int .u64 ((0 : Nat) : Int)]) (by simp [results, Tryz.results26, go_sem, c0, c1]) rfl ⟨rfl, (HB3.out.setCell (by simp) _).setCell (by simp) _⟩
  · have hE1 : (E != 0) = true := by simpa using hE
    obtain rfl : mk = 0 := by rw [HM.out, if_neg (fun h => hE h.1)]
    clear hE HM
    go_enter Tryz.func26, Tryz.ntmps26
    go_wp2_with (first
      | (go_at_call 55; refine (HG _ (HC.out.below (B.bel1 w _) HC.out.lt)).out.mono ?_; rintro e w1 ⟨rfl, rfl⟩)
      | (go_at_call 54; with_reducible refine (HL _).out.mono ?_; rintro e w1 ⟨rfl, hb⟩
         have HB1 := Lib.hid (B.bel2 hb)
         have HR1 : Hid (B.At w1 w.heap.size 0 0) := Lib.hid ((B.at_new w 0 0).below hb (by simp))
         have HLi1 := Lib.hid (HLi.out.below HB1.out hlt)
         have HK1 : Hid (B.At (w1.alloc (.cells #[.int .i64 (N : Int), .int .u64 (K : Int)] 54)) w1.heap.size N K) := Lib.hid (B.at_new w1 N K)
         have hs1 := hb.size
         clear hb)
      | (go_at_call 44; refine (HR _ (HLi1.out.below (B.bel1 w1 _) HLi1.out.lt)).out.mono ?_; rintro e wx ⟨rfl, rfl⟩)
      | (go_at_call 43; with_reducible refine (HN _).out.mono ?_; rintro e w3 ⟨rfl, hb3⟩
         have HB3 : Hid (Below w.heap.size w w3) := Lib.hid (B.below_up HB1.out (B.bel2 hb3) HB1.out.size)
         have HR3 : Hid (B.At w3 w.heap.size 0 0) := Lib.hid (HR1.out.below (B.bel2 hb3) HR1.out.lt)
         obtain ⟨c0, c1, cf⟩ := HR3.out
         have f0 := cf 0
         have f1 := cf 1
         clear hb3 cf)
    )
    exact bodyPost_ret (v := .agg #[.int .i64 (g : Int), .int .u64 ((0 : Nat) : Int)]) (by simp [results, Tryz.results26, go_sem, c0, c1]) rfl ⟨rfl, (HB3.out.setCell (by simp) _).setCell (by simp) _⟩

theorem lhas_any (w : World) {lB cB bl a b : Nat} {c : M.Cl} (hl : ListAt w lB cB bl) (hc : CellAt w cB dB a b c) (hb : 1 ≤ bl ∧ bl ≤ 32) (ht : c.text.size ≤ 100) (i : Int) :
    Calls Tryz.prog 24 #[.pointer (some ⟨lB, 0, none⟩), .int .i64 i] w fun e w' => e = .returned (.bool (D.has bl (D.marks bl c.text) i)) ∧ Below w.heap.size w w' := by
  have HRe := Lib.hid (lreach_any w hl i)
  by_cases h1 : 0 ≤ i ∧ i < (bl : Int)
  · rw [decide_eq_true h1] at HRe
    obtain ⟨k, rfl⟩ := Int.eq_ofNat_of_zero_le h1.1
    have hk : k < bl := by omega
    rw [D.has_nat hk]
    have hr := D.reg_lt hk
    have h8 := D.regs_le hb.2
    have hm := D.marks_lt bl c.text
    have HRow := Lib.hid (row_any w hl hc hb ht)
    have HG := fun w => Lib.hid (region_any k w (by omega))
    have HH := fun w => Lib.hid (B.has_any (D.regs bl) (D.marks bl c.text) ((k / 4 : Nat) : Int) w (by omega) hm)
    rw [B.has_bit hr] at HH
    generalize D.marks bl c.text = m at *
    generalize D.regs bl = g at *
    generalize hq : k / 4 = q at *
    generalize m.testBit q = r at *
    unfold B.V at *
    clear hm hr h8 hk h1 hl hc hb ht hq
    go_enter Tryz.func24, Tryz.ntmps24
    go_wp2_with (first
      | (go_at_call 36; with_reducible refine HRe.out.mono ?_; rintro e w1 ⟨rfl, rfl⟩)
      | (go_at_call 26; with_reducible refine HRow.out.mono ?_; rintro e w2 ⟨rfl, hb2⟩; have HB2 := Lib.hid hb2; clear hb2)
      | (go_at_call 38; with_reducible refine (HG _).out.mono ?_; rintro e w3 ⟨rfl, rfl⟩)
      | (go_at_call 52; with_reducible refine (HH _).out.mono ?_; rintro e w4 ⟨rfl, hb4⟩; have HB4 := Lib.hid (B.below_up HB2.out hb4 HB2.out.size); clear hb4))
    go_ret
    exact ⟨rfl, HB4.out⟩
  · rw [decide_eq_false h1] at HRe
    rw [D.has_out h1]
    clear hl hc hb ht h1
    go_enter Tryz.func24, Tryz.ntmps24
    go_wp2_with (go_at_call 36; with_reducible refine HRe.out.mono ?_; rintro e w1 ⟨rfl, rfl⟩)
    go_ret
    exact ⟨rfl, Below.refl _ _⟩

set_option maxHeartbeats 1000000 in
theorem blocks_any (w : World) {lB cB bl a b : Nat} {c : M.Cl} (hl : ListAt w lB cB bl) (hc : CellAt w cB dB a b c) (hb : 1 ≤ bl ∧ bl ≤ 32) (ht : c.text.size ≤ 100) :
    Calls Tryz.prog 22 #[.pointer (some ⟨lB, 0, none⟩)] w fun e w' => ∃ x cap, e = .returned (.slice x (D.blocks bl (D.marks bl c.text)).length cap) ∧ B.Own 3 w' w.heap.size x (D.blocks bl (D.marks bl c.text)).length cap (B.ints (D.blocks bl (D.marks bl c.text))) ∧ Below w.heap.size w w' := by
  have HH : ∀ (k : Nat) (v : Bool) (w' : World), k < bl → (D.marks bl c.text).testBit (k / 4) = v → Below w.heap.size w w' → Calls Tryz.prog 24 #[.pointer (some ⟨lB, 0, none⟩), .int .i64 (k : Int)] w' fun e w2 => e = .returned (.bool v) ∧ Below w'.heap.size w' w2 := fun k v w' hk hv hbw => by
    have := lhas_any w' (hl.below hbw hl.lt) (hc.below hbw hc.lt) hb ht (k : Int)
    rw [D.has_nat hk, hv] at this
    exact this
  generalize D.marks bl c.text = m at *
  have hblI : (bl : Int) ≤ 32 := by omega
  obtain ⟨q0, q1⟩ := hl
  have HB0 := Lib.hid (Below.refl w.heap.size w)
  clear hc ht q0
  go_enter Tryz.func22, Tryz.ntmps22
  go_wp2
  go_loopw [3, 9] (fun v t wr => ∃ (k c cap : Nat) (x : Option Addr), k ≤ bl ∧ t = .int .i64 k ∧ v = .slice x c cap ∧ c = (D.blocks k m).length ∧ B.Own 3 wr w.heap.size x c cap (B.ints (D.blocks k m)) ∧ Below w.heap.size w wr) (fun _ t _ => bl - (RowKit.intOf t).toNat)
  case atStart => exact ⟨0, 0, 0, none, by omega, rfl, rfl, rfl, ⟨World.ownsRow_nil _ _ _ _, rfl, by omega⟩, HB0.out⟩
  case round =>
    obtain ⟨k, c, cap, x, hk, rfl, rfl, hc, ho, hbw⟩ := hrel
    have Ho := Lib.hid ho
    have Hbw := Lib.hid hbw
    have hcl : c ≤ 32 := by have := D.blocks_len k m; omega
    have Hc := Lib.hid hc
    clear ho hbw hc
    by_cases hlt : k < bl
    · cases hbit : m.testBit (k / 4) with
      | true =>
        have HC := Lib.hid (HH k true wr hlt hbit Hbw.out)
        have HM2 := Lib.hid (D.blocks_yes hbit)
        clear hbit HH
        go_wp2_with (first
          | (go_at_call 24
             ((with_reducible refine HC.out.mono ?_); rintro e w1 ⟨rfl, hb⟩)
             have Ho1 := Lib.hid (B.own_alloc (B.own_below Ho.out hb (Nat.le_refl _)) (.cells #[.int .i64 (k : Int)] 3))
             have Hb1 := Lib.hid (B.below_up Hbw.out hb Hbw.out.size)
             have hs1 := hb.size
             have hs2 := Hbw.out.size
             clear hb)
          | (at_builtin
             refine B.wpList_append_int _ rfl (.tmp 15) (.tmp 17) rfl w.heap.size x c cap (D.blocks k m) rfl Ho1.out _ 1 k rfl (B.row_one _ 3 _) (by omega) (by simp; omega) ?_
             intro a2 cap2 w2 ho2 hb2
             have Ho2 := Lib.hid ho2
             have Hb2 := Lib.hid hb2
             clear ho2 hb2))
        go_roundw
        case rel => exact ⟨k + 1, c + 1, cap2, a2, by omega, by go_num, rfl, by rw [HM2.out, Hc.out]; simp, by rw [HM2.out]; exact Ho2.out, (Hb1.out.alloc Hb1.out.size _).trans Hb2.out⟩
        case measure => simp [RowKit.intOf]; omega
      | false =>
        have HC := Lib.hid (HH k false wr hlt hbit Hbw.out)
        have HM2 := Lib.hid (D.blocks_no hbit)
        clear hbit HH
        go_wp2_with (go_at_call 24; ((with_reducible refine HC.out.mono ?_); rintro e w1 ⟨rfl, hb⟩); have Hb := Lib.hid hb; clear hb)
        go_roundw
        case rel => exact ⟨k + 1, c, cap, x, by omega, by go_num, rfl, by rw [HM2.out]; exact Hc.out, by rw [HM2.out]; exact B.own_below Ho.out Hb.out (Nat.le_refl _), B.below_up Hbw.out Hb.out Hbw.out.size⟩
        case measure => simp [RowKit.intOf]; omega
    · obtain rfl : bl = k := by omega
      go_wp2
      go_ret
      refine ⟨x, cap, ?_, by rw [← Hc.out]; exact Ho.out, Hbw.out⟩
      show Ending.returned (.slice x c cap) = _
      rw [Hc.out]
end Go.Proofs.YtcofahpeinkhfaaGreat
