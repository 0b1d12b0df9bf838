/-
  A row's text.
-/
import Derived.Test.YtcofahpeinkhfaaGreatBits2
import Derived.Laws.MakeOwn
namespace Go.Proofs.YtcofahpeinkhfaaGreat.B
open Go.RowKit
set_option linter.unusedVariables false
set_option linter.unusedSimpArgs false
set_option maxRecDepth 20000

theorem make_bytes (w : World) (n : Nat) (hn : n ≤ 1000) : (Instr.makeSlice 47 (.int .i64 (n : Int)) (.int .i64 (n : Int))).run Tryz.prog w = .ok (.slice (some ⟨w.heap.size, 0, none⟩) n n) (w.alloc (.cells (u8s (List.replicate n 0)).toArray 5)) := by
  obtain ⟨i0, hi0, hz0, hz1, hz2⟩ := info_parts u8_info
  have hm := run_makeSlice (P := Tryz.prog) w 47 5 i0 _ Tryz.underlying47 hi0 hz0 .i64 .i64 (n : Int) (n : Int) (by omega) (by omega) (by rw [hz1]; simp; omega) (by rw [hz2]; omega) (by omega)
  rw [hm, hz1]
  have e : madeCells (Value.int .u8 0).cells (((n : Int)).toNat * 1) = (u8s (List.replicate n 0)).toArray := by
    apply Array.ext_getElem?
    intro j
    simp [madeCells, u8s, u8, Value.cells]
    by_cases hj : j < n
    · simp [hj, Nat.mod_one]
    · simp [hj]
  rw [e]
  rfl

/-- the bytes when k places are done -/
def part (n m k : Nat) : List UInt8 := UInt8.ofNat n :: M.bytes ((n + 7) / 8) (m % 2 ^ k)
theorem part_len (n m k : Nat) : (part n m k).length = M.size n := by simp [part, M.bytes_len, M.size]; omega

set_option maxHeartbeats 1000000 in
theorem text_any (n m : Nat) (w : World) (hn : n ≤ 64) (hm : m < 2 ^ n) : Calls Tryz.prog 27 #[V n m] w fun e w' => e = .returned (.string (str (M.txt n m))) ∧ Below w.heap.size w w' := by
  have HH : ∀ (k : Nat) (b : Bool) (w : World), k < n → m.testBit k = b → Calls Tryz.prog 52 #[.agg #[.int .i64 (n : Int), .int .u64 (m : Int)], .int .i64 (k : Int)] w fun e w' => e = .returned (.bool b) ∧ Below w.heap.size w w' := fun k b w hk hb => by
    have := has_any n m (k : Int) w hn hm
    rw [has_bit hk, hb] at this
    exact this
  have hnI : (n : Int) ≤ 64 := by omega
  have HM := Lib.hid hm
  have HSZ := fun w => Lib.hid (size_any n w (by omega))
  have hmk := make_bytes (w.alloc (.cells #[.int .i64 (n : Int), .int .u64 (m : Int)] 54)) (M.size n) (by unfold M.size; omega)
  have hsz : M.size n = 1 + (n + 7) / 8 := rfl
  have HE := Lib.hid hsz
  have hs1 : 1 ≤ M.size n := by omega
  have hs2 : M.size n ≤ 9 := by omega
  have hs1I : (1 : Int) ≤ (M.size n : Int) := by omega
  have hs2I : (M.size n : Int) ≤ 9 := by omega
  have hw8 : IntKind.u8.wrap (n : Int) = (n : Int) := by rw [IntKind.wrap_u8']; omega
  unfold V
  clear hm hsz
  generalize hS : M.size n = S at *
  have HS := Lib.hid hS
  clear hS
  have hr0 : (u8s (List.replicate S 0))[0]? = some (.int .u8 0) := by simp [u8s, u8, show 0 < S by omega]
  go_enter Tryz.func27, Tryz.ntmps27
  go_wp2_with (go_at_call 56; ((with_reducible refine (HSZ _).out.mono ?_); rintro e w1 ⟨rfl, rfl⟩))
  have HB := Lib.hid (((bel1 w (.cells #[.int .i64 (n : Int), .int .u64 (m : Int)] 54)).alloc (by simp) (.cells ((u8s (List.replicate S 0)).set 0 (.int .u8 (n : Int))).toArray 5)))
  have HA := Lib.hid ((at_new w n m).alloc (.cells ((u8s (List.replicate S 0)).set 0 (.int .u8 (n : Int))).toArray 5))
  have HY := Lib.hid (Blk.new (w.alloc (.cells #[.int .i64 (n : Int), .int .u64 (m : Int)] 54)) 5 ((u8s (List.replicate S 0)).set 0 (.int .u8 (n : Int))).toArray)
  rw [size1] at HY
  have HY2 : Hid (Byts ((w.alloc (.cells #[.int .i64 (n : Int), .int .u64 (m : Int)] 54)).alloc (.cells ((u8s (List.replicate S 0)).set 0 (.int .u8 (n : Int))).toArray 5)) (w.heap.size + 1) (part n m 0)) := by
    refine Lib.hid ?_
    have e : ((u8s (List.replicate S 0)).set 0 (.int .u8 (n : Int))).toArray = (u8s (part n m 0)).toArray := by
      have h1 : S = (n + 7) / 8 + 1 := by have := HE.out; omega
      have h2 : (n : Int) = ((UInt8.ofNat n).toNat : Int) := by rw [UInt8.toNat_ofNat']; omega
      rw [h1, h2]
      unfold part
      rw [Nat.pow_zero, Nat.mod_one, M.bytes_zero]
      rfl
    have := HY.out
    rw [e] at this ⊢
    exact this
  clear HY hmk hr0
  generalize ((w.alloc (.cells #[.int .i64 (n : Int), .int .u64 (m : Int)] 54)).alloc (.cells ((u8s (List.replicate S 0)).set 0 (.int .u8 (n : Int))).toArray 5)) = w2 at *
  go_loopw [16] (fun t wr => ∃ (k : Nat), k ≤ n ∧ t = .int .i64 k ∧ Byts wr (w.heap.size + 1) (part n m k) ∧ At wr w.heap.size n m ∧ Below w.heap.size w wr) (fun t _ => n - (intOf t).toNat)
  case atStart => exact ⟨0, by omega, rfl, HY2.out, HA.out, HB.out⟩
  case round =>
    obtain ⟨k, hk, rfl, hy, hat, hbw⟩ := hrel
    have Hat := Lib.hid hat
    have Hbw := Lib.hid hbw
    have Hy := Lib.hid hy
    obtain ⟨c0, c1, cf⟩ := hat
    clear hbw cf hy HY2 HA HB
    by_cases hlt : k < n
    · cases hbit : m.testBit k with
      | true =>
        have HC := fun w => Lib.hid (HH k true w hlt hbit)
        have hbk := M.mod_succ_yes hbit
        have HP : Hid (part n m (k + 1) = (part n m k).set (1 + k / 8) (UInt8.ofNat ((M.byte (m % 2 ^ k) (k / 8)).toNat ||| 2 ^ (k % 8)))) := by
          refine Lib.hid ?_
          unfold part
          rw [hbk, M.bytes_put (by omega), Nat.add_comm 1 (k / 8), List.set_cons_succ]
        have hget : (part n m k)[1 + k / 8]? = some (M.byte (m % 2 ^ k) (k / 8)) := by
          unfold part
          rw [Nat.add_comm 1 (k / 8), List.getElem?_cons_succ, M.bytes_get (by omega)]
        clear hbit HH hbk
        generalize hbv : M.byte (m % 2 ^ k) (k / 8) = bv at *
        clear hbv
        have hS1 : 1 + k / 8 < S := by have := HE.out; omega
        have HG := Lib.hid hget
        clear hget
        have hpw : (2 : Int) ^ (k % 8) = ((2 ^ (k % 8) : Nat) : Int) := by simp
        have hp8 : 2 ^ (k % 8) < 2 ^ 8 := Nat.pow_lt_pow_right (by omega) (by omega)
        have HO : Hid (bits .or .u8 (bv.toNat : Int) (2 ^ (k % 8) % 256) = ((UInt8.ofNat (bv.toNat ||| 2 ^ (k % 8))).toNat : Int)) := by
          refine Lib.hid ?_
          have hb8 : bv.toNat < 2 ^ 8 := UInt8.toNat_lt bv
          have hm8 : ((2 ^ (k % 8) : Nat) : Int) % 256 = ((2 ^ (k % 8) : Nat) : Int) := by clear HP HC; generalize 2 ^ (k % 8) = x at *; omega
          have ho : bv.toNat ||| 2 ^ (k % 8) < 2 ^ 8 := Nat.or_lt_two_pow hb8 hp8
          rw [hpw, hm8, u8_or_nat _ _ (by omega) (by omega), UInt8.toNat_ofNat', Nat.mod_eq_of_lt ho]
        have hS1I : 1 + (k : Int) / 8 < (S : Int) := by omega
        have hS0I : 0 ≤ 1 + (k : Int) / 8 := by omega
        have htn : (1 + (k : Int) / 8).toNat = 1 + k / 8 := by omega
        clear hpw hp8
        go_wp2_with (go_at_call 52; ((with_reducible refine (HC _).out.mono ?_); rintro e w1 ⟨rfl, hb⟩); have Hb1 := Lib.hid (below_up Hbw.out hb Hbw.out.size); have Hat1 := Lib.hid (Hat.out.below hb Hat.out.lt); have hy1 := Blk.below Hy.out hb (Blk.lt Hy.out); have Hy1 := Lib.hid hy1; have hcell := Byts.at hy1 HG.out; have hfz := Blk.frozen hy1 (1 + k / 8); clear hb hy1)
        go_region
        have Hy2 := Lib.hid ((Byts.set Hy1.out (1 + k / 8) _ HO.out))
        have Hat2 := Lib.hid (Hat1.out.far (p := ⟨w.heap.size + 1, 1 + k / 8, none⟩) (by simp) (.int .u8 (bits .or .u8 (bv.toNat : Int) (2 ^ (k % 8) % 256))))
        have Hb2 := Lib.hid (Hb1.out.setCell (p := ⟨w.heap.size + 1, 1 + k / 8, none⟩) (by simp) (.int .u8 (bits .or .u8 (bv.toNat : Int) (2 ^ (k % 8) % 256))))
        clear Hy1 Hat1 Hb1 hcell hfz
        generalize w1.setCell ⟨w.heap.size + 1, 1 + k / 8, none⟩ (.int .u8 (bits .or .u8 (bv.toNat : Int) (2 ^ (k % 8) % 256))) = w3 at *
        go_wp2
        go_roundw
        case rel => exact ⟨k + 1, by omega, by go_num, by rw [HP.out]; exact Blk.drew Hy2.out, Hat2.out.drew, Hb2.out.drew⟩
        case measure => simp [intOf]; omega
      | false =>
        have HC := fun w => Lib.hid (HH k false w hlt hbit)
        have HM2 := Lib.hid (M.mod_succ_no hbit)
        clear hbit HH
        go_wp2_with (go_at_call 52; ((with_reducible refine (HC _).out.mono ?_); rintro e w1 ⟨rfl, hb⟩); have Hb := Lib.hid hb; clear hb)
        go_roundw
        case rel => exact ⟨k + 1, by omega, by go_num, by unfold part; rw [HM2.out]; exact Blk.below Hy.out Hb.out (Blk.lt Hy.out), Hat.out.below Hb.out Hat.out.lt, below_up Hbw.out Hb.out Hbw.out.size⟩
        case measure => simp [intOf]; omega
    · obtain rfl : n = k := by omega
      have hcv := run_string_bytes (Byts.row Hy.out (by rw [part_len]; have := HS.out; omega))
      have ht : part n m n = M.txt n m := by unfold part M.txt; rw [Nat.mod_eq_of_lt HM.out]
      rw [part_len, HS.out, ht] at hcv
      clear HH ht
      go_wp2
      go_ret
      exact ⟨rfl, Hbw.out⟩
end Go.Proofs.YtcofahpeinkhfaaGreat.B
