/-
  What reading a number does: it answers the number that the bytes are, or panics, where they are none. CONDITIONS: the reader holds a row of bytes.
-/
import Derived.Test.YtpoolpckabpnfaaGreatCReads
import Derived.Laws.Bits64b
namespace Go.Proofs.YtpoolpckabpnfaaGreat.C
open Go.RowKit
set_option linter.unusedVariables false
set_option linter.unusedSimpArgs false
set_option maxRecDepth 20000

theorem or_shl (U z k : Nat) (hU : U < 2 ^ (7 * k)) (hb : 2 ^ (7 * k) * (z % 128) + U < 18446744073709551616) :
    bits BinOp.or IntKind.u64 (U : Int) (IntKind.u64.wrap ((z : Int) % 128 * 2 ^ (7 * k))) = ((U + 2 ^ (7 * k) * (z % 128) : Nat) : Int) := by
  have e1 : ((z : Int) % 128 * 2 ^ (7 * k)) = ((2 ^ (7 * k) * (z % 128) : Nat) : Int) := by
    push_cast; rw [Int.mul_comm]
  rw [e1, IntKind.wrap_u64]
  have e2 : (((2 ^ (7 * k) * (z % 128) : Nat) : Int) % 18446744073709551616) = ((2 ^ (7 * k) * (z % 128) : Nat) : Int) := by omega
  rw [e2, bits_or_u64_nat _ _ (by omega) (by omega)]
  congr 1
  have := Nat.two_pow_add_eq_or_of_lt hU (z % 128)
  rw [Nat.or_comm, ← this]
  omega

theorem ret_i64 {a b : Int} (h : a = b) : Ending.returned (.int .i64 a) = .returned (.int .i64 b) := by rw [h]

theorem not_i64 (n : Nat) (h : n < 9223372036854775808) : bits BinOp.xor IntKind.i64 (-1) (n : Int) = -(n : Int) - 1 := by
  show IntKind.i64.wrap ((BitVec.ofInt 64 (-1) ^^^ BitVec.ofInt 64 (n : Int)).toNat : Int) = _
  have e : BitVec.ofInt 64 (-1) ^^^ BitVec.ofInt 64 (n : Int) = ~~~ (BitVec.ofNat 64 n) := by
    rw [BitVec.ofInt_natCast, show BitVec.ofInt 64 (-1) = BitVec.allOnes 64 from by decide +kernel, BitVec.allOnes_xor]
  rw [e, BitVec.toNat_not, BitVec.toNat_ofNat, IntKind.wrap_i64]
  omega

theorem wrap_half (T : Nat) (h : T < 18446744073709551616) : wrap64 ((T : Int) / 2) = ((T / 2 : Nat) : Int) := by
  unfold wrap64
  omega

def NPost (R : Nat) (w : World) (l : List UInt8) (e : Ending) (w' : World) : Prop :=
  (∃ n r, M.rdN l = some (n, r) ∧ e = .returned (.int .i64 n) ∧ Stp R w w' ∧ At w' R r) ∨ (M.rdN l = none ∧ e = .panicked [{ v := wrongs, recovered := false }] ∧ Below R w w')

/-- what is known at the head of the loop -/
def NInv (l m : List UInt8) (k U : Nat) : Prop :=
  M.rdU 9 true l = match M.rdU (9 - k) (decide (k = 0)) m with | some (v, r) => some (U + 2 ^ (7 * k) * v, r) | none => none

theorem ninv_start (l : List UInt8) : NInv l l 0 0 := by
  unfold NInv
  have e : decide (0 = 0) = true := rfl
  rw [e]
  cases M.rdU (9 - 0) true l with
  | none => rfl
  | some x => simp

theorem ninv_nil {l : List UInt8} {k U : Nat} (h : NInv l [] k U) : M.rdN l = none := by
  have e : M.rdU 9 true l = none := by
    unfold NInv at h
    rw [h]
    cases 9 - k <;> rfl
  unfold M.rdN
  rw [e]

theorem ninv_on {l m : List UInt8} {k U : Nat} {c : UInt8} (hk : k < 9) (hc : ¬ c.toNat < 128) (h : NInv l (c :: m) k U) : NInv l m (k + 1) (U + 2 ^ (7 * k) * (c.toNat % 128)) := by
  unfold NInv at h ⊢
  rw [h, show 9 - k = (9 - (k + 1)) + 1 from by omega]
  simp only [M.rdU]
  rw [if_neg hc]
  have e : decide (k + 1 = 0) = false := by simp
  rw [e]
  cases M.rdU (9 - (k + 1)) false m with
  | none => rfl
  | some x =>
    obtain ⟨v, r⟩ := x
    simp only [Option.some.injEq, Prod.mk.injEq, and_true]
    rw [show 7 * (k + 1) = 7 * k + 7 from by omega, Nat.pow_add, Nat.mul_add]
    have : 2 ^ (7 * k) * (128 * v) = 2 ^ (7 * k) * 2 ^ 7 * v := by rw [Nat.mul_assoc]
    omega

theorem ninv_last {l m : List UInt8} {k U : Nat} {c : UInt8} (hk : k < 9) (hc : c.toNat < 128) (h0 : 0 < c.toNat ∨ k = 0) (h : NInv l (c :: m) k U) : M.rdN l = some (M.zag (U + 2 ^ (7 * k) * c.toNat), m) := by
  unfold NInv at h
  rw [show 9 - k = (9 - (k + 1)) + 1 from by omega] at h
  simp only [M.rdU] at h
  rw [if_pos hc, if_pos (by rcases h0 with h0 | h0; exact .inl h0; exact .inr (by simp [h0]))] at h
  unfold M.rdN
  rw [h]

theorem ninv_zero {l m : List UInt8} {k U : Nat} {c : UInt8} (hk : k ≤ 9) (hc : c.toNat = 0) (h0 : k ≠ 0) (h : NInv l (c :: m) k U) : M.rdN l = none := by
  unfold NInv at h
  have e : M.rdU (9 - k) (decide (k = 0)) (c :: m) = none := by
    by_cases h9 : k = 9
    · subst h9
      simp only [Nat.sub_self, M.rdU]
      rw [if_neg (by omega)]
    · rw [show 9 - k = (9 - (k + 1)) + 1 from by omega]
      simp only [M.rdU]
      rw [if_pos (by omega), if_neg (by simp [hc, h0])]
  rw [e] at h
  unfold M.rdN
  rw [h]

theorem ninv_nine {l m : List UInt8} {U : Nat} {c : UInt8} (hc : c.toNat = 1) (h : NInv l (c :: m) 9 U) : M.rdN l = some (M.zag (U + 2 ^ (7 * 9) * c.toNat), m) := by
  unfold NInv at h
  simp only [Nat.sub_self, M.rdU] at h
  rw [if_pos hc] at h
  unfold M.rdN
  rw [h, hc]

theorem ninv_much {l m : List UInt8} {U : Nat} {c : UInt8} (hc : 1 < c.toNat) (h : NInv l (c :: m) 9 U) : M.rdN l = none := by
  unfold NInv at h
  simp only [Nat.sub_self, M.rdU] at h
  rw [if_neg (by omega)] at h
  unfold M.rdN
  rw [h]

theorem pow_le9 {k : Nat} (hk : k ≤ 9) : 2 ^ (7 * k) ≤ 9223372036854775808 := by
  have := Nat.pow_le_pow_right (n := 2) (by omega) (show 7 * k ≤ 63 by omega)
  simpa using this

theorem pow_succ7 (k : Nat) : 2 ^ (7 * (k + 1)) = 128 * 2 ^ (7 * k) := by
  rw [show 7 * (k + 1) = 7 + 7 * k from by omega, Nat.pow_add]

theorem bound_lt {U k z : Nat} (hU : U < 2 ^ (7 * k)) (hz : z < 128) : U + 2 ^ (7 * k) * z < 2 ^ (7 * (k + 1)) := by
  rw [pow_succ7]
  have := Nat.mul_le_mul_left (2 ^ (7 * k)) (show z ≤ 127 by omega)
  omega

set_option maxHeartbeats 1000000 in
theorem number_any (w : World) (R : Nat) (l : List UInt8) (h : At w R l) :
    Calls Tryz.prog 97 #[.pointer (some ⟨R, 0, none⟩)] w (NPost R w l) := by
  have H := Lib.hid h
  clear h
  go_enter Tryz.func97, Tryz.ntmps97
  go_wp2_with fail
  go_loopw [3, 4] (fun u t wr => ∃ (k U : Nat) (m : List UInt8), k ≤ 9 ∧ t = .int .i64 (7 * k : Nat) ∧ u = .int .u64 (U : Int) ∧ U < 2 ^ (7 * k) ∧ Stp R w wr ∧ At wr R m ∧ NInv l m k U) (fun _ t _ => 63 - (intOf t).toNat)
  case atStart => exact ⟨0, 0, l, by omega, rfl, rfl, by decide, Stp.refl _ _, H.out, ninv_start l⟩
  case round =>
    obtain ⟨k, U, m, hk, rfl, rfl, hU, hs, ha, hm⟩ := hrel
    have hp9 := pow_le9 hk
    have Hs := Lib.hid hs
    have Ha := Lib.hid ha
    have Hm := Lib.hid hm
    have HU := Lib.hid hU
    have Hp := Lib.hid hp9
    clear hs ha hm hU hp9
    cases m with
    | nil =>
      have HN := Lib.hid (next_no wr R Ha.out)
      go_wp2_with (go_at_call 95; refine HN.out.mono ?_; rintro e w' ⟨rfl, hb⟩; have Hb := Lib.hid (Hs.out.below.trans hb); clear hb)
      exact ⟨rfl, .inr ⟨ninv_nil Hm.out, rfl, Hb.out⟩⟩
    | cons c m =>
      have HN := Lib.hid (next_ok wr R c m Ha.out)
      have hclt := c.toNat_lt
      have Hon := Lib.hid (fun (a : k < 9) (b : ¬ c.toNat < 128) => ninv_on a b Hm.out)
      have Hlast := Lib.hid (fun (a : k < 9) (b : c.toNat < 128) (d : 0 < c.toNat ∨ k = 0) => ninv_last a b d Hm.out)
      have Hzero := Lib.hid (fun (b : c.toNat = 0) (d : k ≠ 0) => ninv_zero hk b d Hm.out)
      have Hnine := Lib.hid (fun (a : 9 = k) (b : c.toNat = 1) => ninv_nine (l := l) (m := m) (U := U) b (a ▸ Hm.out))
      have Hmuch := Lib.hid (fun (a : 9 = k) (b : 1 < c.toNat) => ninv_much (l := l) (m := m) (U := U) b (a ▸ Hm.out))
      clear Hm
      generalize c.toNat = z at *
      have hz256 : z < 256 := hclt
      clear hclt
      by_cases h128 : z < 128
      · have hz : (z : Int) < 128 := by omega
        have hmod : (z : Int) % 128 = (z : Int) := by omega
        by_cases hz0 : z = 0 ∧ k ≠ 0
        · -- a last byte 0
          obtain ⟨hz0, hk0⟩ := hz0
          have Hr := Lib.hid (Hzero.out hz0 hk0)
          have hle : decide ((z : Int) ≤ 1) = true := by rw [decide_eq_true_eq]; omega
          have hk1 : ((7 * (k : Int)) == 0) = false := by rw [beq_eq_false_iff_ne]; omega
          clear Hon Hlast Hzero Hnine Hmuch hk0
          by_cases hk9 : k < 9
          all_goals
            first
              | (have hd : decide (((7 * k : Nat) : Int) < 63) = true := by rw [decide_eq_true_eq]; omega)
              | (have hd : decide (((7 * k : Nat) : Int) < 63) = false := by rw [decide_eq_false_iff_not]; omega)
            go_wp2_with (first
              | (go_at_call 95; refine HN.out.mono ?_; rintro e w' ⟨rfl, hs, ha⟩; have Hs2 := Lib.hid (Hs.out.trans hs); have Ha2 := Lib.hid ha; clear hs ha)
              | (go_at_call 86; ((with_reducible refine (need_ok _).mono ?_); rintro e w' ⟨rfl, rfl⟩))
              | (go_at_call 86; ((with_reducible refine (need_no _).mono ?_); rintro e w' ⟨rfl, rfl⟩)))
            exact ⟨rfl, .inr ⟨Hr.out, rfl, Hs2.out.below⟩⟩
        · have hU2 := bound_lt HU.out h128
          have hU3 : k ≤ 8 → 2 ^ (7 * (k + 1)) ≤ 9223372036854775808 := fun h => pow_le9 (by omega)
          by_cases hk9 : k < 9 ∨ z = 1
          · -- the last byte
            have hT : U + 2 ^ (7 * k) * z < 18446744073709551616 := by
              by_cases h9 : k < 9
              · have := hU3 (by omega); omega
              · have h1 : z = 1 := by omega
                have := Hp.out
                have := HU.out
                rw [h1]
                omega
            have Hr : Hid (M.rdN l = some (M.zag (U + 2 ^ (7 * k) * z), m)) := by
              rcases hk9 with h9 | h9
              · exact Hlast.out h9 h128 (by omega)
              · by_cases h10 : k < 9
                · exact Hlast.out h10 h128 (by omega)
                · obtain rfl : k = 9 := by omega
                  exact Hnine.out rfl h9
            have hor := or_shl U z k HU.out (by rw [Nat.mod_eq_of_lt h128]; omega)
            rw [hmod, Nat.mod_eq_of_lt h128] at hor
            have hle : k < 9 ∨ decide ((z : Int) ≤ 1) = true := by
              rcases hk9 with h9 | h9
              · exact .inl h9
              · exact .inr (by rw [decide_eq_true_eq]; omega)
            have hgt : ¬ z = 0 ∨ (z = 0 ∧ ((7 * (k : Int)) == 0) = true) := by
              by_cases h : z = 0
              · exact .inr ⟨h, by rw [beq_iff_eq]; omega⟩
              · exact .inl h
            generalize U + 2 ^ (7 * k) * z = T at *
            have hw := wrap_half T hT
            have hnn : (0 : Int) ≤ (T : Int) := by omega
            clear Hon Hlast Hzero Hnine Hmuch hz0 hU2 hU3 hk9
            by_cases hpar : T % 2 = 1
            · have hp : ((T : Int) % 2 == 1) = true := by rw [beq_iff_eq]; omega
              have hx : bits BinOp.xor IntKind.i64 (-1) ((T / 2 : Nat) : Int) = M.zag T := by rw [not_i64 _ (by omega)]; unfold M.zag; rw [if_pos hpar]
              have Hx := Lib.hid hx
              clear hpar hT hx
              rcases hgt with hgt | ⟨hgt, hgt2⟩
              · by_cases hk9 : k < 9
                · have hd : decide (((7 * k : Nat) : Int) < 63) = true := by rw [decide_eq_true_eq]; omega
                  clear hle
                  go_wp2_with (first
                    | (go_at_call 95; refine HN.out.mono ?_; rintro e w' ⟨rfl, hs, ha⟩; have Hs2 := Lib.hid (Hs.out.trans hs); have Ha2 := Lib.hid ha; clear hs ha)
                    | (go_at_call 86; ((with_reducible refine (need_ok _).mono ?_); rintro e w' ⟨rfl, rfl⟩)))
                  go_ret
                  exact .inl ⟨_, m, Hr.out, ret_i64 Hx.out, Hs2.out, Ha2.out⟩
                · have hd : decide (((7 * k : Nat) : Int) < 63) = false := by rw [decide_eq_false_iff_not]; omega
                  have hle := hle.resolve_left hk9
                  go_wp2_with (first
                    | (go_at_call 95; refine HN.out.mono ?_; rintro e w' ⟨rfl, hs, ha⟩; have Hs2 := Lib.hid (Hs.out.trans hs); have Ha2 := Lib.hid ha; clear hs ha)
                    | (go_at_call 86; ((with_reducible refine (need_ok _).mono ?_); rintro e w' ⟨rfl, rfl⟩)))
                  go_ret
                  exact .inl ⟨_, m, Hr.out, ret_i64 Hx.out, Hs2.out, Ha2.out⟩
              · have hk9 : k < 9 := by have := beq_iff_eq.1 hgt2; omega
                have hd : decide (((7 * k : Nat) : Int) < 63) = true := by rw [decide_eq_true_eq]; omega
                subst hgt
                have hor0 : bits BinOp.or IntKind.u64 (U : Int) 0 = (T : Int) := by
                  have e0 : IntKind.u64.wrap 0 = 0 := by decide +kernel
                  simpa [e0] using hor
                clear hle hor
                go_wp2_with (first
                  | (go_at_call 95; refine HN.out.mono ?_; rintro e w' ⟨rfl, hs, ha⟩; have Hs2 := Lib.hid (Hs.out.trans hs); have Ha2 := Lib.hid ha; clear hs ha)
                  | (go_at_call 86; ((with_reducible refine (need_ok _).mono ?_); rintro e w' ⟨rfl, rfl⟩)))
                go_ret
                exact .inl ⟨_, m, Hr.out, ret_i64 Hx.out, Hs2.out, Ha2.out⟩
            · have hp : ((T : Int) % 2 == 1) = false := by rw [beq_eq_false_iff_ne]; omega
              have hx : wrap64 ((T : Int) / 2) = M.zag T := by rw [hw]; unfold M.zag; rw [if_neg hpar]
              have Hx := Lib.hid hx
              clear hpar hT hx
              rcases hgt with hgt | ⟨hgt, hgt2⟩
              · by_cases hk9 : k < 9
                · have hd : decide (((7 * k : Nat) : Int) < 63) = true := by rw [decide_eq_true_eq]; omega
                  clear hle
                  go_wp2_with (first
                    | (go_at_call 95; refine HN.out.mono ?_; rintro e w' ⟨rfl, hs, ha⟩; have Hs2 := Lib.hid (Hs.out.trans hs); have Ha2 := Lib.hid ha; clear hs ha)
                    | (go_at_call 86; ((with_reducible refine (need_ok _).mono ?_); rintro e w' ⟨rfl, rfl⟩)))
                  go_ret
                  exact .inl ⟨_, m, Hr.out, ret_i64 Hx.out, Hs2.out, Ha2.out⟩
                · have hd : decide (((7 * k : Nat) : Int) < 63) = false := by rw [decide_eq_false_iff_not]; omega
                  have hle := hle.resolve_left hk9
                  go_wp2_with (first
                    | (go_at_call 95; refine HN.out.mono ?_; rintro e w' ⟨rfl, hs, ha⟩; have Hs2 := Lib.hid (Hs.out.trans hs); have Ha2 := Lib.hid ha; clear hs ha)
                    | (go_at_call 86; ((with_reducible refine (need_ok _).mono ?_); rintro e w' ⟨rfl, rfl⟩)))
                  go_ret
                  exact .inl ⟨_, m, Hr.out, ret_i64 Hx.out, Hs2.out, Ha2.out⟩
              · have hk9 : k < 9 := by have := beq_iff_eq.1 hgt2; omega
                have hd : decide (((7 * k : Nat) : Int) < 63) = true := by rw [decide_eq_true_eq]; omega
                subst hgt
                have hor0 : bits BinOp.or IntKind.u64 (U : Int) 0 = (T : Int) := by
                  have e0 : IntKind.u64.wrap 0 = 0 := by decide +kernel
                  simpa [e0] using hor
                clear hle hor
                go_wp2_with (first
                  | (go_at_call 95; refine HN.out.mono ?_; rintro e w' ⟨rfl, hs, ha⟩; have Hs2 := Lib.hid (Hs.out.trans hs); have Ha2 := Lib.hid ha; clear hs ha)
                  | (go_at_call 86; ((with_reducible refine (need_ok _).mono ?_); rintro e w' ⟨rfl, rfl⟩)))
                go_ret
                exact .inl ⟨_, m, Hr.out, ret_i64 Hx.out, Hs2.out, Ha2.out⟩
          · -- the tenth byte is too much
            obtain rfl : k = 9 := by omega
            have hd : decide ((z : Int) ≤ 1) = false := by rw [decide_eq_false_iff_not]; omega
            have Hr := Lib.hid (Hmuch.out rfl (by omega))
            clear Hon Hlast Hzero Hnine Hmuch hz0 hU2 hU3 hk9
            go_wp2_with (first
              | (go_at_call 95; refine HN.out.mono ?_; rintro e w' ⟨rfl, hs, ha⟩; have Hs2 := Lib.hid (Hs.out.trans hs); have Ha2 := Lib.hid ha; clear hs ha)
              | (go_at_call 86; refine (need_no _).mono ?_; rintro e w' ⟨rfl, rfl⟩))
            exact ⟨rfl, .inr ⟨Hr.out, rfl, Hs2.out.below⟩⟩
      · by_cases hk9 : k < 9
        · have hor := or_shl U z k HU.out (by have := bound_lt HU.out (show z % 128 < 128 by omega); have := pow_le9 (show k + 1 ≤ 9 by omega); omega)
          have hbd := Lib.hid (bound_lt HU.out (show z % 128 < 128 by omega))
          have hz : (128 : Int) ≤ (z : Int) := by omega
          have hd : decide (((7 * k : Nat) : Int) < 63) = true := by rw [decide_eq_true_eq]; omega
          have Hn := Lib.hid (Hon.out hk9 h128)
          generalize U + 2 ^ (7 * k) * (z % 128) = U2 at *
          clear Hon Hlast Hzero Hnine Hmuch
          go_wp2_with (first
            | (go_at_call 95; refine HN.out.mono ?_; rintro e w' ⟨rfl, hs, ha⟩; have Hs2 := Lib.hid (Hs.out.trans hs); have Ha2 := Lib.hid ha; clear hs ha)
            | (go_at_call 86; refine (need_ok _).mono ?_; rintro e w' ⟨rfl, rfl⟩))
          go_roundw
          case rel => exact ⟨k + 1, U2, m, by omega, by go_num, rfl, hbd.out, Hs2.out, Ha2.out, Hn.out⟩
          case measure => simp [intOf]; omega
        · obtain rfl : k = 9 := by omega
          have hd : decide ((z : Int) ≤ 1) = false := by rw [decide_eq_false_iff_not]; omega
          go_wp2_with (first
            | (go_at_call 95; refine HN.out.mono ?_; rintro e w' ⟨rfl, hs, ha⟩; have Hs2 := Lib.hid (Hs.out.trans hs); have Ha2 := Lib.hid ha; clear hs ha)
            | (go_at_call 86; refine (need_no _).mono ?_; rintro e w' ⟨rfl, rfl⟩))
          exact ⟨rfl, .inr ⟨Hmuch.out (by simp) (by omega), rfl, Hs2.out.below⟩⟩
end Go.Proofs.YtpoolpckabpnfaaGreat.C
