/-
  The document's own answer for a number from a place on: what the reference function answers. CONDITIONS: the place lies within the bytes, or at their end.
-/
import Derived.Test.YtpggpgbkeafgnaaCRefe
import Derived.Test.YtpggpgbkeafgnaaCNums
namespace Go.Proofs.Ytpggpgbkeafgnaa.C
open Go.RowKit
set_option linter.unusedVariables false
set_option linter.unusedSimpArgs false
set_option maxRecDepth 20000

/-- what is answered of the bytes l from place p on -/
def FPost (l : List UInt8) (p : Nat) (e : Ending) : Prop :=
  (∃ (n : Int) (q : Nat), M.rdN (l.drop p) = some (n, l.drop q) ∧ p ≤ q ∧ q ≤ l.length ∧ M.fits n ∧ e = .returned (.tuple #[.int .i64 n, .int .i64 (q : Int), .bool true])) ∨
  (M.rdN (l.drop p) = none ∧ e = .returned (.tuple #[.int .i64 0, .int .i64 0, .bool false]))

theorem drop_cons {l : List UInt8} {p : Nat} {c : UInt8} (h : l[p]? = some c) : l.drop p = c :: l.drop (p + 1) := by
  obtain ⟨hp, rfl⟩ := List.getElem?_eq_some_iff.1 h
  exact List.drop_eq_getElem_cons hp

theorem ref_add (U z k : Nat) (hb : U + 2 ^ (7 * k) * (z % 128) < 18446744073709551616) :
    IntKind.u64.wrap ((U : Int) + IntKind.u64.wrap ((z : Int) % 128 * ((2 ^ (7 * k) : Nat) : Int))) = ((U + 2 ^ (7 * k) * (z % 128) : Nat) : Int) := by
  have e : ((z : Int) % 128 * ((2 ^ (7 * k) : Nat) : Int)) = ((2 ^ (7 * k) * (z % 128) : Nat) : Int) := by
    rw [Int.mul_comm]; push_cast; rfl
  rw [e]
  generalize 2 ^ (7 * k) * (z % 128) = X at *
  rw [IntKind.wrap_u64, IntKind.wrap_u64]
  omega

theorem ret3_of {a b c d : Int} (h1 : a = b) (h2 : c = d) : Ending.returned (.tuple #[.int .i64 a, .int .i64 c, .bool true]) = .returned (.tuple #[.int .i64 b, .int .i64 d, .bool true]) := by rw [h1, h2]

theorem u64_half (T : Nat) (h : T < 18446744073709551616) : IntKind.u64.wrap ((T : Int) / 2) = ((T / 2 : Nat) : Int) := by
  rw [IntKind.wrap_u64]
  omega
theorem wrap64_in (x : Int) (h : -9223372036854775808 ≤ x ∧ x ≤ 9223372036854775807) : wrap64 x = x := by
  unfold wrap64
  omega
theorem zag_odd (T : Nat) (h : T < 18446744073709551616) (hp : T % 2 = 1) : wrap64 (wrap64 (-wrap64 (IntKind.u64.wrap ((T : Int) / 2))) - 1) = M.zag T := by
  have hx : T / 2 < 9223372036854775808 := by omega
  rw [u64_half T h]
  unfold M.zag
  rw [if_pos hp]
  generalize T / 2 = X at *
  rw [wrap64_in (X : Int) ⟨by omega, by omega⟩, wrap64_in (-(X : Int)) ⟨by omega, by omega⟩, wrap64_in (-(X : Int) - 1) ⟨by omega, by omega⟩]
theorem zag_even (T : Nat) (h : T < 18446744073709551616) (hp : ¬ T % 2 = 1) : wrap64 (IntKind.u64.wrap ((T : Int) / 2)) = M.zag T := by
  have hx : T / 2 < 9223372036854775808 := by omega
  rw [u64_half T h]
  unfold M.zag
  rw [if_neg hp]
  generalize T / 2 = X at *
  rw [wrap64_in (X : Int) ⟨by omega, by omega⟩]

theorem ref_part (k : Nat) (hk : k < 9) : IntKind.u64.wrap (((2 ^ (7 * k) : Nat) : Int) * 128) = ((2 ^ (7 * (k + 1)) : Nat) : Int) := by
  have h1 := pow_succ7 k
  have h2 := pow_le9 (show k + 1 ≤ 9 by omega)
  rw [h1] at h2
  rw [h1]
  generalize 2 ^ (7 * k) = X at *
  rw [IntKind.wrap_u64]
  omega

set_option maxHeartbeats 1000000 in
theorem refnum_any (w : World) (a : Option Addr) (n cap : Nat) (l : List UInt8) (p : Nat) (h : Row w a n cap (u8s l)) (hp : p ≤ n) (hn : n ≤ 65536) :
    Calls Try.prog 34 #[.slice a n cap, .int .i64 (p : Int)] w fun e w' => FPost l p e ∧ w = w' := by
  have H := Lib.hid h
  have hl : l.length = n := by have := h.1; rw [u8s_length] at this; exact this
  have HL := Lib.hid hl
  have hnI : (n : Int) ≤ 65536 := by omega
  clear h hl
  go_enter Try.func34, Try.ntmps34
  go_wp2_with fail
  go_loop [1, 7, 8, 9] (fun at_ u part k_ => ∃ k U : Nat, k ≤ 9 ∧ k_ = .int .i64 k ∧ at_ = .int .i64 ((p + k : Nat) : Int) ∧ p + k ≤ n ∧ u = .int .u64 (U : Int) ∧ part = .int .u64 ((2 ^ (7 * k) : Nat) : Int) ∧ U < 2 ^ (7 * k) ∧ NInv (l.drop p) (l.drop (p + k)) k U) (fun _ _ _ k_ => 10 - (intOf k_).toNat)
  case atStart => exact ⟨0, 0, by omega, rfl, rfl, by omega, rfl, rfl, by decide, ninv_start _⟩
  case round =>
    obtain ⟨k, U, hk, rfl, rfl, hpn, rfl, rfl, hU, hm⟩ := hrel
    have Hm := Lib.hid hm
    have HU := Lib.hid hU
    have Hp := Lib.hid (pow_le9 hk)
    clear hm hU
    have hk10 : (k : Int) < 10 := by omega
    have hkI : (k : Int) ≤ 9 := by omega
    have hk0 : (0 : Int) ≤ (k : Int) := by omega
    by_cases hend : p + k = n
    · have hge : (n : Int) ≤ (p : Int) + (k : Int) := by omega
      have Hr := Lib.hid (show M.rdN (l.drop p) = none from by
        have e : l.drop (p + k) = [] := List.drop_eq_nil_of_le (by rw [HL.out]; omega)
        have := Hm.out
        rw [e] at this
        exact ninv_nil this)
      clear hend
      go_wp2_with fail
      go_ret3
      exact ⟨.inr ⟨Hr.out, rfl⟩, rfl⟩
    · have hlt : (p : Int) + (k : Int) < (n : Int) := by omega
      obtain ⟨b, off, c, rfl, hbw, hc, hcell⟩ := row_u8 H.out (p + k) (by omega)
      have hm2 := Hm.out
      rw [drop_cons hc] at hm2
      have hclt := c.toNat_lt
      have Hon := Lib.hid (fun (a : k < 9) (b : ¬ c.toNat < 128) => ninv_on a b hm2)
      have Hlast := Lib.hid (fun (a : k < 9) (b : c.toNat < 128) (d : 0 < c.toNat ∨ k = 0) => ninv_last a b d hm2)
      have Hzero := Lib.hid (fun (b : c.toNat = 0) (d : k ≠ 0) => ninv_zero hk b d hm2)
      have Hnine := Lib.hid (fun (a : 9 = k) (b : c.toNat = 1) => ninv_nine (l := l.drop p) (m := l.drop (p + k + 1)) (U := U) b (a ▸ hm2))
      have Hmuch := Lib.hid (fun (a : 9 = k) (b : 1 < c.toNat) => ninv_much (l := l.drop p) (m := l.drop (p + k + 1)) (U := U) b (a ▸ hm2))
      clear hm2 hc hbw Hm
      generalize c.toNat = z at *
      have hz256 : z < 256 := hclt
      have hzI : (z : Int) < 256 := by omega
      clear hclt
      have hpk0 : (0 : Int) ≤ (p : Int) + (k : Int) := by omega
      have hP0 : (0 : Int) ≤ ((2 ^ (7 * k) : Nat) : Int) := Int.natCast_nonneg _
      have Hadd := Lib.hid (fun hb => ref_add U z k hb)
      have Hpart := Lib.hid (fun hk => ref_part k hk)
      have Hbd := Lib.hid (fun h => bound_lt (z := z % 128) HU.out h)
      generalize hPv : 2 ^ (7 * k) = P at *
      have HPv := Lib.hid hPv
      clear hPv
      by_cases h128 : z < 128
      · have hmod : (z : Int) % 128 = (z : Int) := by omega
        have hz128 : (z : Int) < 128 := by omega
        have hmodN : z % 128 = z := Nat.mod_eq_of_lt h128
        have hz0I : (0 : Int) ≤ (z : Int) := by omega
        by_cases hz0 : z = 0 ∧ k ≠ 0
        · obtain ⟨hz0, hk0'⟩ := hz0
          have Hr := Lib.hid (Hzero.out hz0 hk0')
          have hzb : ((z : Int) == 0) = true := by rw [beq_iff_eq]; omega
          have hkp : decide ((0 : Int) < (k : Int)) = true := by rw [decide_eq_true_eq]; omega
          have hkp2 : decide (0 < k) = true := by rw [decide_eq_true_eq]; omega
          have hgt : decide ((1 : Int) < (z : Int)) = false := by rw [decide_eq_false_iff_not]; omega
          clear Hon Hlast Hzero Hnine Hmuch hz0 Hadd Hpart Hbd hmodN
          go_wp2_with fail
          all_goals
            go_ret3
            exact ⟨.inr ⟨Hr.out, rfl⟩, rfl⟩
        · by_cases hk9 : k < 9 ∨ z = 1
          · have hT : U + P * z < 18446744073709551616 := by
              have h2 := Hbd.out (by omega)
              rw [hmodN] at h2
              by_cases h9 : k < 9
              · have h3 := pow_le9 (show k + 1 ≤ 9 by omega)
                omega
              · have h1 : z = 1 := by omega
                have := Hp.out
                have := HU.out
                rw [h1]
                omega
            have Hr : Hid (M.rdN (l.drop p) = some (M.zag (U + P * z), l.drop (p + k + 1))) := by
              rcases hk9 with h9 | h9
              · exact Hlast.out h9 h128 (by omega)
              · by_cases h10 : k < 9
                · exact Hlast.out h10 h128 (by omega)
                · obtain rfl : k = 9 := by omega
                  rw [← HPv.out]
                  exact Hnine.out rfl h9
            have hadd := Hadd.out (by rw [hmodN]; exact hT)
            rw [hmod, hmodN] at hadd
            have hbad : (((k : Int) == 9) = false) ∨ (((k : Int) == 9) = true ∧ decide ((1 : Int) < (z : Int)) = false) := by
              rcases hk9 with h9 | h9
              · exact .inl (by rw [beq_eq_false_iff_ne]; omega)
              · by_cases h10 : k = 9
                · exact .inr ⟨by rw [beq_iff_eq]; omega, by rw [decide_eq_false_iff_not]; omega⟩
                · exact .inl (by rw [beq_eq_false_iff_ne]; omega)
            have hzk : (((z : Int) == 0) = false) ∨ (decide (0 < k) = false ∧ decide ((0 : Int) < (k : Int)) = false) := by
              by_cases h : z = 0
              · exact .inr ⟨by rw [decide_eq_false_iff_not]; omega, by rw [decide_eq_false_iff_not]; omega⟩
              · exact .inl (by rw [beq_eq_false_iff_ne]; omega)
            generalize U + P * z = T at *
            have hw := wrap_half T hT
            have hfit := M.zag_fits hT
            have Hfit := Lib.hid hfit
            clear Hon Hlast Hzero Hnine Hmuch hz0 Hadd Hpart Hbd hmodN hk9 hfit
            by_cases hpar : T % 2 = 1
            · have hp2 : ((T : Int) % 2 == 1) = true := by rw [beq_iff_eq]; omega
              have hzg := zag_odd T hT hpar
              have Hzg := Lib.hid hzg
              clear hpar hT hzg hw
              rcases hbad with hb | ⟨hb, hb2⟩
              all_goals
                rcases hzk with hz | ⟨hz, hz2⟩
                all_goals
                  go_wp2_with fail
                  all_goals
                    go_ret3
                    exact ⟨.inl ⟨_, p + k + 1, Hr.out, by omega, by rw [HL.out]; omega, Hfit.out, ret3_of Hzg.out (by omega)⟩, rfl⟩
            · have hp2 : ((T : Int) % 2 == 1) = false := by rw [beq_eq_false_iff_ne]; omega
              have hzg := zag_even T hT hpar
              have Hzg := Lib.hid hzg
              clear hpar hT hzg hw
              rcases hbad with hb | ⟨hb, hb2⟩
              all_goals
                rcases hzk with hz | ⟨hz, hz2⟩
                all_goals
                  go_wp2_with fail
                  all_goals
                    go_ret3
                    exact ⟨.inl ⟨_, p + k + 1, Hr.out, by omega, by rw [HL.out]; omega, Hfit.out, ret3_of Hzg.out (by omega)⟩, rfl⟩
          · -- the tenth byte is too much
            obtain rfl : k = 9 := by omega
            have hgt : decide ((1 : Int) < (z : Int)) = true := by rw [decide_eq_true_eq]; omega
            have Hr := Lib.hid (Hmuch.out rfl (by omega))
            clear Hon Hlast Hzero Hnine Hmuch hz0 Hadd Hpart Hbd hmodN hk9
            go_wp2_with fail
            all_goals
              go_ret3
              exact ⟨.inr ⟨Hr.out, rfl⟩, rfl⟩
      · have hz0 : ((z : Int) == 0) = false := by rw [beq_eq_false_iff_ne]; omega
        have hz128 : (128 : Int) ≤ (z : Int) := by omega
        by_cases hk9 : k < 9
        · have hq9 : ((k : Int) == 9) = false := by rw [beq_eq_false_iff_ne]; omega
          have hbd := Hbd.out (by omega)
          have hp9 := pow_le9 (show k + 1 ≤ 9 by omega)
          have hadd := Lib.hid (Hadd.out (by omega))
          have hpart := Lib.hid (Hpart.out hk9)
          have Hn := Lib.hid (Hon.out hk9 h128)
          have Hbd2 := Lib.hid hbd
          clear Hon Hlast Hzero Hnine Hmuch Hadd Hpart Hbd hbd hp9
          go_wp2_with fail
          all_goals
            go_round
            case rel => exact ⟨k + 1, U + P * (z % 128), by omega, by go_num, by go_num, by omega, by rw [hadd.out], by rw [hpart.out], Hbd2.out, by rw [show p + (k + 1) = p + k + 1 from by omega]; exact Hn.out⟩
            case measure => simp [intOf]; omega
        · obtain rfl : k = 9 := by omega
          have hgt : decide ((1 : Int) < (z : Int)) = true := by rw [decide_eq_true_eq]; omega
          have Hr := Lib.hid (Hmuch.out rfl (by omega))
          clear Hon Hlast Hzero Hnine Hmuch Hadd Hpart Hbd hk9
          go_wp2_with fail
          all_goals
            go_ret3
            exact ⟨.inr ⟨Hr.out, rfl⟩, rfl⟩
end Go.Proofs.Ytpggpgbkeafgnaa.C
