/-
  The statements' own helpers: a row made of bits, two rows of numbers compared.
-/
import Derived.Test.YtcdihcloihnpkaaBits4
namespace Go.Proofs.Ytcdihcloihnpkaa.B
open Go.RowKit
set_option linter.unusedVariables false
set_option linter.unusedSimpArgs false
set_option maxRecDepth 20000

theorem putM_in {n m k : Nat} (hk : k < n) : putN n (k : Int) = n ∧ putM n m (k : Int) = M.put m k ∧ putE n (k : Int) = 0 := by
  have h : 0 ≤ (k : Int) ∧ (k : Int) < (n : Int) := ⟨by omega, by omega⟩
  unfold putN putM putE
  rw [if_pos h, if_pos h, if_pos h]
  exact ⟨rfl, by simp, rfl⟩

theorem mod_pow_lt {b k n : Nat} (hk : k ≤ n) : b % 2 ^ k < 2 ^ n := Nat.lt_of_lt_of_le (Nat.mod_lt _ (Nat.pow_pos (by omega))) (Nat.pow_le_pow_right (by omega) hk)

set_option maxHeartbeats 1000000 in
theorem row_any (n : Int) (b : Nat) (w : World) (hb : b < 2 ^ 64) : Calls Try.prog 21 #[.int .i64 n, .int .u64 (b : Int)] w fun e w' => e = .returned (V (M.len n) (b % 2 ^ M.len n)) ∧ Below w.heap.size w w' := by
  have HN := fun w => Lib.hid (new_any n w)
  have hl := M.len_le n
  have HL : ∀ (m : Nat) (w : World), Calls Try.prog 25 #[.agg #[.int .i64 (M.len n : Int), .int .u64 (m : Int)]] w fun e w' => e = .returned (.int .i64 (M.len n : Int)) ∧ Below w.heap.size w w' := fun m w => len_any (M.len n) m w
  have HP : ∀ (m k : Nat) (w : World), m < 2 ^ M.len n → k < M.len n → Calls Try.prog 13 #[.agg #[.int .i64 (M.len n : Int), .int .u64 (m : Int)], .int .i64 (k : Int)] w fun e w' => e = .returned (.tuple #[.agg #[.int .i64 (M.len n : Int), .int .u64 (M.put m k : Int)], .int .i64 0]) ∧ Below w.heap.size w w' := fun m k w hm hk => by
    have := put_any (M.len n) m k w hl hm
    obtain ⟨h1, h2, h3⟩ := putM_in (n := M.len n) (m := m) hk
    rw [h1, h2, h3] at this
    exact this
  unfold V at HN ⊢
  have hz0 : ((0 : Nat) : Int) = 0 := rfl
  generalize M.len n = c at *
  have hcI : (c : Int) ≤ 64 := by omega
  have HB := Lib.hid hb
  clear hz0
  go_enter Try.func21, Try.ntmps21
  go_wp2_with (go_at_call 11; ((with_reducible refine (HN _).out.mono ?_); rintro e w1 ⟨rfl, hb⟩); have Hb := Lib.hid hb; clear hb)
  have hs1 := Hb.out.size
  rw [size1] at hs1
  have HA := Lib.hid (at_new w1 c 0)
  have HZ := Lib.hid (((at_new w 0 0).below Hb.out (by simp)).alloc (.cells #[.int .i64 (c : Int), .int .u64 ((0 : Nat) : Int)] 26))
  have HB2 := Lib.hid ((bel2 Hb.out).alloc (by omega) (.cells #[.int .i64 (c : Int), .int .u64 ((0 : Nat) : Int)] 26))
  generalize hgb : w1.heap.size = g at *
  generalize w1.alloc (.cells #[.int .i64 (c : Int), .int .u64 0] 26) = w2 at *
  clear Hb hgb
  go_loopw [6] (fun t wr => ∃ (k : Nat), k ≤ c ∧ t = .int .i64 k ∧ At wr g c (b % 2 ^ k) ∧ At wr w.heap.size 0 0 ∧ Below w.heap.size w wr) (fun t _ => c - (intOf t).toNat)
  case atStart => exact ⟨0, by omega, rfl, by rw [Nat.pow_zero, Nat.mod_one]; exact HA.out, HZ.out, HB2.out⟩
  case round =>
    obtain ⟨k, hk, rfl, hat, haz, hbw⟩ := hrel
    have Hat := Lib.hid hat
    have Haz := Lib.hid haz
    have Hbw := Lib.hid hbw
    have hqlt : b % 2 ^ k < 2 ^ c := mod_pow_lt hk
    have HPm : k < c → ∀ w, Hid _ := fun hkc w => Lib.hid (HP (b % 2 ^ k) k w hqlt hkc)
    have HLm := fun w => Lib.hid (HL (b % 2 ^ k) w)
    have HSy := Lib.hid (@M.mod_succ_yes b k)
    have HSn := Lib.hid (@M.mod_succ_no b k)
    obtain ⟨c0, c1, cf⟩ := hat
    have cf0 := cf 0
    have cf1 := cf 1
    clear hbw cf haz HA HZ HB2 hqlt HL HP
    generalize hq : b % 2 ^ k = q at *
    have Hq := Lib.hid hq
    clear hq
    by_cases hlt : k < c
    · have HP := fun w => HPm hlt w
      have hbv := has_val HB.out k
      clear HPm
      cases hbit : b.testBit k with
      | true =>
        rw [hbit] at hbv
        have Hs := Lib.hid (HSy.out hbit)
        clear hbit
        go_wp2_with (first
          | (go_at_call 25; ((with_reducible refine (HLm _).out.mono ?_); rintro e w3 ⟨rfl, hb⟩); have Hat3 := Lib.hid (Hat.out.below hb Hat.out.lt); have Haz3 := Lib.hid (Haz.out.below hb Haz.out.lt); have Hb3 := Lib.hid (below_up Hbw.out hb Hbw.out.size); have y0 := Hat3.out.c0; have y1 := Hat3.out.c1; clear hb)
          | (go_at_call 13; ((with_reducible refine (HP _).out.mono ?_); rintro e w4 ⟨rfl, hb⟩); have Hat4 := Lib.hid (Hat3.out.below hb Hat3.out.lt); have Haz4 := Lib.hid (Haz3.out.below hb Haz3.out.lt); have Hb4 := Lib.hid (below_up Hb3.out hb Hb3.out.size); have x0 := Hat4.out.c0; have x1 := Hat4.out.c1; have xf0 := Hat4.out.fz 0; have xf1 := Hat4.out.fz 1; clear hb))
        go_roundw
        case rel => exact ⟨k + 1, by omega, by go_num, by rw [Hs.out]; exact (Hat4.out.setN rfl).setM rfl, (Haz4.out.far (by simp; omega) _).far (by simp; omega) _, (Hb4.out.setCell (by simp; omega) _).setCell (by simp; omega) _⟩
        case measure => simp [intOf]; omega
      | false =>
        rw [hbit] at hbv
        have Hs := Lib.hid (HSn.out hbit)
        clear hbit
        go_wp2_with (go_at_call 25; ((with_reducible refine (HLm _).out.mono ?_); rintro e w3 ⟨rfl, hb⟩); have Hat3 := Lib.hid (Hat.out.below hb Hat.out.lt); have Haz3 := Lib.hid (Haz.out.below hb Haz.out.lt); have Hb3 := Lib.hid (below_up Hbw.out hb Hbw.out.size); have y0 := Hat3.out.c0; have y1 := Hat3.out.c1; clear hb)
        go_roundw
        case rel => exact ⟨k + 1, by omega, by go_num, by rw [Hs.out]; exact Hat3.out, Haz3.out, Hb3.out⟩
        case measure => simp [intOf]; omega
    · obtain rfl : c = k := by omega
      clear HPm
      go_wp2_with (go_at_call 25; ((with_reducible refine (HLm _).out.mono ?_); rintro e w3 ⟨rfl, hb⟩); have Hat3 := Lib.hid (Hat.out.below hb Hat.out.lt); have Haz3 := Lib.hid (Haz.out.below hb Haz.out.lt); have Hb3 := Lib.hid (below_up Hbw.out hb Hbw.out.size); have y0 := Hat3.out.c0; have y1 := Hat3.out.c1; have z0 := Haz3.out.c0; have z1 := Haz3.out.c1; have zf0 := Haz3.out.fz 0; have zf1 := Haz3.out.fz 1; clear hb)
      exact bodyPost_ret (v := .agg #[.int .i64 (c : Int), .int .u64 (q : Int)]) (by simp [results, Try.results21, go_sem, z0, z1]) rfl ⟨by rw [Hq.out], (Hb3.out.setCell (by simp) _).setCell (by simp) _⟩

theorem row_drewN {w : World} {a : Option Addr} {n cap : Nat} {vs : List Value} (h : Row w a n cap vs) (q : Nat) : Row (w.drewN q) a n cap vs := h
theorem drew_drewN (w : World) (q : Nat) : (w.drewN q).drew = w.drewN (q + 1) := rfl

/-- two rows of the same numbers are the same -/
theorem ints_yes (l : List Nat) (n : Nat) (a1 a2 : Option Addr) (c1 c2 : Nat) (w : World) (hn : n ≤ 64) (h1 : Row w a1 n c1 (ints l)) (h2 : Row w a2 n c2 (ints l)) :
    Calls Try.prog 23 #[.slice a1 n c1, .slice a2 n c2] w fun e w' => e = .returned (.bool true) ∧ ∃ q, w' = w.drewN q := by
  have hnI : (n : Int) ≤ 64 := by omega
  have hne : ((n : Int) != (n : Int)) = false := by simp
  have hlen : l.length = n := by rw [← h1.1, ints_length]
  have H1 := Lib.hid h1
  have H2 := Lib.hid h2
  have HL := Lib.hid hlen
  clear h1 h2 hlen
  go_enter Try.func23, Try.ntmps23
  go_wp2
  go_loopw [13] (fun t wr => ∃ (k q : Nat), k ≤ n ∧ t = .int .i64 k ∧ wr = w.drewN q) (fun t _ => n - (intOf t).toNat)
  case atStart => exact ⟨0, 0, by omega, rfl, rfl⟩
  case round =>
    obtain ⟨k, q, hk, rfl, rfl⟩ := hrel
    by_cases hlt : k < n
    · have hltI : (k : Int) < (n : Int) := by omega
      have hk0 : 0 ≤ (k : Int) := by omega
      obtain ⟨x, hx⟩ : ∃ x, l[k]? = some x := ⟨l[k]'(by have := HL.out; omega), List.getElem?_eq_getElem _⟩
      have hix : (ints l)[k]? = some (.int .i64 (x : Int)) := by simp [ints, hx]
      obtain ⟨b1, o1, rfl, hc1⟩ : ∃ b off, a1 = some ⟨b, off, none⟩ ∧ (w.drewN q).cell? ⟨b, off + k, none⟩ = some (.int .i64 (x : Int)) := by
        rcases H1.out.2.2.2 with h | ⟨b, off, ha, _, hc⟩
        · rw [h] at hix; simp at hix
        · exact ⟨b, off, ha, by rw [← hix]; exact hc k hlt⟩
      obtain ⟨b2, o2, rfl, hc2⟩ : ∃ b off, a2 = some ⟨b, off, none⟩ ∧ (w.drewN q).cell? ⟨b, off + k, none⟩ = some (.int .i64 (x : Int)) := by
        rcases H2.out.2.2.2 with h | ⟨b, off, ha, _, hc⟩
        · rw [h] at hix; simp at hix
        · exact ⟨b, off, ha, by rw [← hix]; exact hc k hlt⟩
      have hD : ∀ j, (w.drewN q).drewN j = w.drewN (q + j) := fun j => by simp [World.drewN, Nat.add_assoc]
      have HD := Lib.hid hD
      have hxx : ((x : Int) != (x : Int)) = false := by simp
      clear hix hx hD
      generalize w.drewN q = w1 at *
      go_wp2_with fail
      go_quiet (fail)
      go_wp2_with fail
      go_roundw
      case rel => exact ⟨k + 1, _, by omega, by go_num, HD.out _⟩
      case measure => simp [intOf]; omega
    · obtain rfl : n = k := by omega
      go_wp2
      go_ret
      exact ⟨rfl, q, rfl⟩
end Go.Proofs.Ytcdihcloihnpkaa.B
