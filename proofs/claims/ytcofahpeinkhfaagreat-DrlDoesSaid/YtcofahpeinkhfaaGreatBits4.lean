/-
  Which row a text is.
-/
import Derived.Test.YtcofahpeinkhfaaGreatBits3
namespace Go.Proofs.YtcofahpeinkhfaaGreat.B
open Go.RowKit
set_option linter.unusedVariables false
set_option linter.unusedSimpArgs false
set_option maxRecDepth 20000

theorem load_empty (s : ByteArray) (w : World) (h0 : s.size = 0) : Calls Tryz.prog 54 #[.string s] w fun e w' => e = .returned (.tuple #[V 0 0, .int .i64 4]) ∧ Below w.heap.size w w' := by
  have h1 : (s.size : Int) = 0 := by omega
  have h2 : ((s.size : Int) == 0) = true := by simp [h0]
  unfold V
  clear h1
  go_enter Tryz.func54, Tryz.ntmps54
  go_wp2
  exact bodyPost_ret (v := .tuple #[.agg #[.int .i64 ((0 : Nat) : Int), .int .u64 ((0 : Nat) : Int)], .int .i64 4]) (by simp [results, Tryz.results54, go_sem]) rfl ⟨rfl, bel1 w _⟩

theorem load_great (s : ByteArray) (w : World) (h0 : 0 < s.size) (hm : s.size ≤ maxLen) (h1 : 64 < s[0].toNat) : Calls Tryz.prog 54 #[.string s] w fun e w' => e = .returned (.tuple #[V 0 0, .int .i64 4]) ∧ Below w.heap.size w w' := by
  have h2 : ((s.size : Int) == 0) = false := beq_eq_false_iff_ne.2 (by omega)
  have h3 : (64 : Int) < (s[0].toNat : Int) := by omega
  unfold maxLen at hm
  unfold V
  go_enter Tryz.func54, Tryz.ntmps54
  go_wp2
  exact bodyPost_ret (v := .tuple #[.agg #[.int .i64 ((0 : Nat) : Int), .int .u64 ((0 : Nat) : Int)], .int .i64 4]) (by simp [results, Tryz.results54, go_sem]) rfl ⟨rfl, bel1 w _⟩

theorem load_long (s : ByteArray) (w : World) (h0 : 0 < s.size) (hm : s.size ≤ maxLen) (h1 : ¬ 64 < s[0].toNat) (h2 : s.size ≠ M.size s[0].toNat) : Calls Tryz.prog 54 #[.string s] w fun e w' => e = .returned (.tuple #[V 0 0, .int .i64 4]) ∧ Below w.heap.size w w' := by
  have h4 : ((s.size : Int) == 0) = false := beq_eq_false_iff_ne.2 (by omega)
  have h3 : decide ((64 : Int) < (s[0].toNat : Int)) = false := by simp; omega
  have hI : (s[0].toNat : Int) ≤ 64 := by omega
  have HS := fun w => Lib.hid (size_any s[0].toNat w (by omega))
  have h5 : ((s.size : Int) != (M.size s[0].toNat : Int)) = true := by simp; omega
  unfold maxLen at hm
  unfold V
  clear h1 h2
  go_enter Tryz.func54, Tryz.ntmps54
  go_wp2_with (go_at_call 56; ((with_reducible refine (HS _).out.mono ?_); rintro e w1 ⟨rfl, rfl⟩))
  exact bodyPost_ret (v := .tuple #[.agg #[.int .i64 ((0 : Nat) : Int), .int .u64 ((0 : Nat) : Int)], .int .i64 4]) (by simp [results, Tryz.results54, go_sem]) rfl ⟨rfl, bel1 w _⟩

/-- one bit of a byte of the text -/
theorem bit_val (c : UInt8) (k : Nat) : (bits .and .u8 ((c.toNat : Int) / 2 ^ k) 1 == 1) = c.toNat.testBit k := by
  have e : (c.toNat : Int) / 2 ^ k = ((c.toNat / 2 ^ k : Nat) : Int) := by simp
  have hc : c.toNat < 256 := UInt8.toNat_lt c
  have hd : c.toNat / 2 ^ k ≤ c.toNat := Nat.div_le_self _ _
  have h1 : bits .and .u8 ((c.toNat / 2 ^ k : Nat) : Int) ((1 : Nat) : Int) = ((c.toNat / 2 ^ k &&& 1 : Nat) : Int) := u8_and_nat _ _ (by omega) (by omega)
  rw [e]
  have h2 : bits .and .u8 ((c.toNat / 2 ^ k : Nat) : Int) 1 = ((c.toNat / 2 ^ k % 2 : Nat) : Int) := by rw [← nat_mask1]; exact h1
  rw [h2, M.bit_is]
  rcases Nat.mod_two_eq_zero_or_one (c.toNat / 2 ^ k) with h | h <;> rw [h] <;> simp

theorem str_cmp (l : List UInt8) (s : ByteArray) : ((str l).toList == s.toList) = (l == s.data.toList) := by
  rw [ByteArray.toList_eq, ByteArray.toList_eq]
  rfl

theorem load_read (s : ByteArray) (w : World) (h0 : 0 < s.size) (h1 : ¬ 64 < s[0].toNat) (h2 : s.size = M.size s[0].toNat) (c : UInt8) (r : List UInt8) (hcr : s.data.toList = c :: r) : Calls Tryz.prog 54 #[.string s] w fun e w' => e = .returned (.tuple #[V (M.loadN (c :: r)) (M.loadM (c :: r)), .int .i64 (M.loadE (c :: r))]) ∧ Below w.heap.size w w' := by
  have hc0 : s[0] = c := by
    have : s.data.toList[0]? = some c := by rw [hcr]; rfl
    have h3 : s.data.toList[0]? = some s[0] := by
      rw [Array.getElem?_toList]
      exact Array.getElem?_eq_getElem (by simpa using h0)
    rw [h3] at this
    injection this
  have hget : ∀ j (hj : 1 + j < s.size), r[j]? = some s[1 + j] := fun j hj => by
    have h3 : s.data.toList[1 + j]? = some s[1 + j] := by
      rw [Array.getElem?_toList]
      exact Array.getElem?_eq_getElem (by simpa using hj)
    rw [← h3, hcr, Nat.add_comm 1 j, List.getElem?_cons_succ]
  have hr : r.length = (c.toNat + 7) / 8 := by
    have h3 : s.data.toList.length = s.size := by simp
    rw [hcr, List.length_cons, h2, hc0] at h3
    unfold M.size at h3
    omega
  have h4 : ((s.size : Int) == 0) = false := beq_eq_false_iff_ne.2 (by omega)
  have h3 : decide ((64 : Int) < (s[0].toNat : Int)) = false := by simp; omega
  have hI : (s[0].toNat : Int) ≤ 64 := by omega
  have HS := fun w => Lib.hid (size_any s[0].toNat w (by omega))
  have h5 : ((s.size : Int) != (M.size s[0].toNat : Int)) = false := by rw [← h2]; simp
  have HN := fun w => Lib.hid (new_any (s[0].toNat : Int) w)
  have hlen : M.len (s[0].toNat : Int) = s[0].toNat := by unfold M.len; rw [if_pos ⟨by omega, by omega⟩]; simp
  rw [hlen] at HN
  have HG := Lib.hid hget
  have HR := Lib.hid hr
  have HC := Lib.hid hc0
  have HCR := Lib.hid hcr
  have H2 := Lib.hid h2
  unfold V at HN ⊢
  clear h1 h2 hget hr hc0 hcr hlen
  go_enter Tryz.func54, Tryz.ntmps54
  go_wp2_with (first
    | (go_at_call 56; ((with_reducible refine (HS _).out.mono ?_); rintro e w1 ⟨rfl, rfl⟩))
    | (go_at_call 43; ((with_reducible refine (HN _).out.mono ?_); rintro e w1 ⟨rfl, hb⟩); have Hb := Lib.hid hb; clear hb))
  have hs1 := Hb.out.size
  rw [size1] at hs1
  have HA := Lib.hid (at_new w1 s[0].toNat 0)
  have HZ := Lib.hid (((at_new w 0 0).below Hb.out (by simp)).alloc (.cells #[.int .i64 (s[0].toNat : Int), .int .u64 ((0 : Nat) : Int)] 54))
  have HB := Lib.hid ((bel2 Hb.out).alloc (by omega) (.cells #[.int .i64 (s[0].toNat : Int), .int .u64 ((0 : Nat) : Int)] 54))
  generalize hgb : w1.heap.size = g at *
  generalize w1.alloc (.cells #[.int .i64 (s[0].toNat : Int), .int .u64 0] 54) = w2 at *
  clear Hb hgb
  go_loopw [30] (fun t wr => ∃ (k : Nat), k ≤ s[0].toNat ∧ t = .int .i64 k ∧ At wr g s[0].toNat (M.val r % 2 ^ k) ∧ At wr w.heap.size 0 0 ∧ Below w.heap.size w wr) (fun t _ => s[0].toNat - (intOf t).toNat)
  case atStart => exact ⟨0, by omega, rfl, by rw [Nat.pow_zero, Nat.mod_one]; exact HA.out, HZ.out, HB.out⟩
  case round =>
    obtain ⟨k, hk, rfl, hat, haz, hbw⟩ := hrel
    have Hat := Lib.hid hat
    have Haz := Lib.hid haz
    have Hbw := Lib.hid hbw
    obtain ⟨c0, c1, cf⟩ := hat
    clear hbw cf haz HA HZ HB
    by_cases hlt : k < s[0].toNat
    · have hin : 1 + k / 8 < s.size := by have := H2.out; unfold M.size at this; omega
      have hinI : 1 + (k : Int) / 8 < (s.size : Int) := by omega
      have hin0 : 0 ≤ 1 + (k : Int) / 8 := by omega
      have htn : (1 + (k : Int) / 8).toNat = 1 + k / 8 := by omega
      have hbv := bit_val s[1 + k / 8] (k % 8)
      have hbt : (M.val r).testBit k = s[1 + k / 8].toNat.testBit (k % 8) := by
        have h1 := M.val_bit r (k / 8) (k % 8) (by omega)
        rw [HG.out (k / 8) hin, show 8 * (k / 8) + k % 8 = k by omega] at h1
        rw [h1]
        rfl
      rw [← hbt] at hbv
      have Hbt := Lib.hid hbt
      clear hbt
      cases hbit : (M.val r).testBit k with
      | true =>
        rw [hbit] at hbv
        have hm := M.lt64 (show k ≤ 64 by omega) (Nat.mod_lt (M.val r) (show 0 < 2 ^ k from Nat.pow_pos (by omega)))
        have HV := Lib.hid (or_val hm (k := k) (by omega))
        have HP := Lib.hid (M.mod_succ_yes hbit)
        have hwr := wrap_pow (k := k) (by omega)
        have cf1 := Hat.out.fz 1
        clear hm
        go_wp2
        go_region
        have Hat2 := Lib.hid ((Hat.out.setM (v := bits .or .u64 ((M.val r % 2 ^ k : Nat) : Int) (2 ^ k)) HV.out).drew)
        have Haz2 := Lib.hid ((Haz.out.far (p := ⟨g, 1, none⟩) (by simp; omega) (.int .u64 (bits .or .u64 ((M.val r % 2 ^ k : Nat) : Int) (2 ^ k)))).drew)
        have Hb2 := Lib.hid ((Hbw.out.setCell (p := ⟨g, 1, none⟩) (by simp; omega) (.int .u64 (bits .or .u64 ((M.val r % 2 ^ k : Nat) : Int) (2 ^ k)))).drew)
        go_wp2
        go_roundw
        case rel => exact ⟨k + 1, by omega, by go_num, by rw [HP.out]; exact Hat2.out, Haz2.out, Hb2.out⟩
        case measure => simp [intOf]; omega
      | false =>
        rw [hbit] at hbv
        have HP := Lib.hid (M.mod_succ_no hbit)
        go_wp2
        go_roundw
        case rel => exact ⟨k + 1, by omega, by go_num, by rw [HP.out]; exact Hat.out, Haz.out, Hbw.out⟩
        case measure => simp [intOf]; omega
    · have hkn : k = s[0].toNat := by omega
      subst hkn
      have hlt64 : M.val r % 2 ^ s[0].toNat < 2 ^ s[0].toNat := Nat.mod_lt _ (Nat.pow_pos (by omega))
      have HT := fun w => Lib.hid (text_any s[0].toNat (M.val r % 2 ^ s[0].toNat) w (by omega) hlt64)
      unfold V at HT
      have HRT := Lib.hid (M.read_text (c := c) HR.out)
      have c1' := Hat.out.c1
      clear hlt64 hlt c1
      generalize hq : M.val r % 2 ^ s[0].toNat = q at *
      have Hq := Lib.hid hq
      clear hq
      obtain ⟨z0, z1, zf⟩ := Haz.out
      have zf0 := zf 0
      have zf1 := zf 1
      clear zf
      cases hts : ((str (M.txt s[0].toNat q)).toList == s.toList) with
      | true =>
        go_wp2_with (go_at_call 27; ((with_reducible refine (HT _).out.mono ?_); rintro e w3 ⟨rfl, hb⟩); have Hb := Lib.hid hb; have hat3 := Hat.out.below hb Hat.out.lt; have haz3 := Haz.out.below hb Haz.out.lt; have y0 := hat3.c0; have y1 := hat3.c1; have x0 := haz3.c0; have x1 := haz3.c1; have xf0 := haz3.fz 0; have xf1 := haz3.fz 1; clear hb hat3 haz3)
        rw [str_cmp, HCR.out, HC.out] at hts
        have hlt := HRT.out.1 (by have h9 := eq_of_beq hts; have h8 := Hq.out; rw [HC.out] at h8; rw [h8]; exact h9)
        have hl : M.load (c :: r) = some (s[0].toNat, q) := by
          have h8 := Hq.out
          have h7 : c.toNat ≤ 64 := by have h6 := HC.out; rw [h6] at hI; omega
          rw [HC.out, Nat.mod_eq_of_lt hlt] at h8
          rw [M.load_cons, if_pos ⟨h7, HR.out, hlt⟩, h8, HC.out]
        refine bodyPost_ret (v := .tuple #[.agg #[.int .i64 (s[0].toNat : Int), .int .u64 (q : Int)], .int .i64 0]) (by simp [results, Tryz.results54, go_sem, x0, x1]) rfl ⟨?_, ((below_up Hbw.out Hb.out Hbw.out.size).setCell (by simp) _).setCell (by simp) _⟩
        unfold M.loadN M.loadM M.loadE
        rw [hl]
      | false =>
        go_wp2_with (go_at_call 27; ((with_reducible refine (HT _).out.mono ?_); rintro e w3 ⟨rfl, hb⟩); have Hb := Lib.hid hb; have hat3 := Hat.out.below hb Hat.out.lt; have haz3 := Haz.out.below hb Haz.out.lt; have y0 := hat3.c0; have y1 := hat3.c1; have x0 := haz3.c0; have x1 := haz3.c1; have xf0 := haz3.fz 0; have xf1 := haz3.fz 1; clear hb hat3 haz3)
        rw [str_cmp, HCR.out, HC.out] at hts
        have hl : M.load (c :: r) = none := by
          have h8 := Hq.out
          rw [HC.out] at h8
          rw [M.load_cons, if_neg fun h => ?_]
          have h9 := HRT.out.2 h.2.2
          rw [h8] at h9
          rw [h9] at hts
          simp at hts
        refine bodyPost_ret (v := .tuple #[.agg #[.int .i64 ((0 : Nat) : Int), .int .u64 ((0 : Nat) : Int)], .int .i64 4]) (by simp [results, Tryz.results54, go_sem, x0, x1]) rfl ⟨?_, ((below_up Hbw.out Hb.out Hbw.out.size).setCell (by simp) _).setCell (by simp) _⟩
        unfold M.loadN M.loadM M.loadE
        rw [hl]

/-- Load: whatever the text is -/
theorem load_any (s : ByteArray) (w : World) (hm : s.size ≤ maxLen) : Calls Tryz.prog 54 #[.string s] w fun e w' => e = .returned (.tuple #[V (M.loadN s.data.toList) (M.loadM s.data.toList), .int .i64 (M.loadE s.data.toList)]) ∧ Below w.heap.size w w' := by
  have hsz : s.data.toList.length = s.size := by simp
  cases hcr : s.data.toList with
  | nil =>
    rw [hcr] at hsz
    exact load_empty s w hsz.symm
  | cons c r =>
    rw [hcr, List.length_cons] at hsz
    have h0 : 0 < s.size := by omega
    have hc0 : s[0] = c := by
      have : s.data.toList[0]? = some c := by rw [hcr]; rfl
      have h3 : s.data.toList[0]? = some s[0] := by
        rw [Array.getElem?_toList]
        exact Array.getElem?_eq_getElem (by simpa using h0)
      rw [h3] at this
      injection this
    by_cases h1 : 64 < s[0].toNat
    · have hl : M.load (c :: r) = none := by rw [M.load_cons, if_neg fun h => by rw [hc0] at h1; omega]
      unfold M.loadN M.loadM M.loadE
      rw [hl]
      exact load_great s w h0 hm h1
    · by_cases h2 : s.size = M.size s[0].toNat
      · exact load_read s w h0 h1 h2 c r hcr
      · have hl : M.load (c :: r) = none := by
          rw [M.load_cons, if_neg fun h => h2 ?_]
          rw [hc0]
          unfold M.size
          omega
        unfold M.loadN M.loadM M.loadE
        rw [hl]
        exact load_long s w h0 hm h1 h2
theorem putM_in {n m k : Nat} (hk : k < n) : putN n (k : Int) = n ∧ putM n m (k : Int) = M.put m k ∧ putE n (k : Int) = 0 := by
  have h : 0 ≤ (k : Int) ∧ (k : Int) < (n : Int) := ⟨by omega, by omega⟩
  unfold putN putM putE
  rw [if_pos h, if_pos h, if_pos h]
  exact ⟨rfl, by simp, rfl⟩

theorem mod_pow_lt {b k n : Nat} (hk : k ≤ n) : b % 2 ^ k < 2 ^ n := Nat.lt_of_lt_of_le (Nat.mod_lt _ (Nat.pow_pos (by omega))) (Nat.pow_le_pow_right (by omega) hk)

end Go.Proofs.YtcofahpeinkhfaaGreat.B
