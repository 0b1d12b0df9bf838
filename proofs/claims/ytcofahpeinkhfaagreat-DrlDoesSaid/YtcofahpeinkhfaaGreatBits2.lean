/-
  Which places are marked, how many, and which comes next.
-/
import Derived.Test.YtcofahpeinkhfaaGreatBMem
namespace Go.Proofs.YtcofahpeinkhfaaGreat.B
open Go.RowKit
set_option linter.unusedVariables false
set_option linter.unusedSimpArgs false
set_option maxRecDepth 20000

theorem has_bit {n m k : Nat} (hk : k < n) : has n m (k : Int) = m.testBit k := by
  unfold has
  rw [decide_eq_true (show 0 ≤ (k : Int) ∧ (k : Int) < (n : Int) from ⟨by omega, by omega⟩)]
  simp

set_option maxHeartbeats 1000000 in
theorem all_any (n m : Nat) (w : World) (hn : n ≤ 64) (hm : m < 2 ^ n) : Calls Tryz.prog 64 #[V n m] w fun e w' => ∃ a cap, e = .returned (.slice a (M.all n m).length cap) ∧ Own 3 w' w.heap.size a (M.all n m).length cap (ints (M.all n m)) ∧ Below w.heap.size w w' := by
  have HH : ∀ (k : Nat) (b : Bool) (w : World), k < n → m.testBit k = b → Calls Tryz.prog 52 #[.agg #[.int .i64 (n : Int), .int .u64 (m : Int)], .int .i64 (k : Int)] w fun e w' => e = .returned (.bool b) ∧ Below w.heap.size w w' := fun k b w hk hb => by
    have := has_any n m (k : Int) w hn hm
    rw [has_bit hk, hb] at this
    exact this
  have HM := Lib.hid hm
  have hnI : (n : Int) ≤ 64 := by omega
  unfold V
  clear hm
  go_enter Tryz.func64, Tryz.ntmps64
  go_wp2
  have HA := Lib.hid (at_new w n m)
  have HB := Lib.hid (bel1 w (.cells #[.int .i64 (n : Int), .int .u64 (m : Int)] 54))
  generalize hw0 : w.alloc (.cells #[.int .i64 (n : Int), .int .u64 (m : Int)] 54) = w0 at *
  clear hw0
  go_loopw [3, 7] (fun v t wr => ∃ (k c cap : Nat) (a : Option Addr), k ≤ n ∧ t = .int .i64 k ∧ v = .slice a c cap ∧ c = (M.all k m).length ∧ Own 3 wr (w.heap.size + 1) a c cap (ints (M.all k m)) ∧ At wr w.heap.size n m ∧ Below w.heap.size w wr) (fun _ t _ => n - (intOf t).toNat)
  case atStart => exact ⟨0, 0, 0, none, by omega, rfl, rfl, rfl, ⟨World.ownsRow_nil _ _ _ _, rfl, by omega⟩, HA.out, HB.out⟩
  case round =>
    obtain ⟨k, c, cap, a, hk, rfl, rfl, hc, ho, hat, hbw⟩ := hrel
    have Ho := Lib.hid ho
    have Hat := Lib.hid hat
    have Hbw := Lib.hid hbw
    have hcl : c ≤ 64 := by have := M.all_len k m; omega
    have Hc := Lib.hid hc
    obtain ⟨c0, c1, cf⟩ := hat
    clear ho hbw cf hc
    by_cases hlt : k < n
    · cases hbit : m.testBit k with
      | true =>
        have HC := fun w => Lib.hid (HH k true w hlt hbit)
        have HM2 := Lib.hid (M.all_yes hbit)
        clear hbit HH
        go_wp2_with (first
          | (go_at_call 52
             ((with_reducible refine (HC _).out.mono ?_); rintro e w1 ⟨rfl, hb⟩)
             have hs := Hat.out.lt
             have Ho1 := Lib.hid (own_alloc (own_below Ho.out hb (Nat.le_refl _)) (.cells #[.int .i64 (k : Int)] 3))
             have Hat1 := Lib.hid (Hat.out.below hb hs)
             have Hb1 := Lib.hid (below_up Hbw.out hb Hbw.out.size)
             have hs1 := hb.size
             clear hb)
          | (at_builtin
             refine wpList_append_int _ rfl (.tmp 13) (.tmp 15) rfl (w.heap.size + 1) a c cap (M.all k m) rfl Ho1.out _ 1 k rfl (row_one _ 3 _) (by omega) (by have := Hat1.out.lt; simp; omega) ?_
             intro a2 cap2 w2 ho2 hb2
             have Ho2 := Lib.hid ho2
             have Hb2 := Lib.hid hb2
             clear ho2 hb2))
        go_roundw
        case rel => exact ⟨k + 1, c + 1, cap2, a2, by omega, by go_num, rfl, by rw [HM2.out, Hc.out]; simp, by rw [HM2.out]; exact Ho2.out, (Hat1.out.alloc _).below Hb2.out (by omega), (Hb1.out.alloc Hb1.out.size _).trans (Hb2.out.mono (by omega))⟩
        case measure => simp [intOf]; omega
      | false =>
        have HC := fun w => Lib.hid (HH k false w hlt hbit)
        have HM2 := Lib.hid (M.all_no hbit)
        clear hbit HH
        go_wp2_with (go_at_call 52; ((with_reducible refine (HC _).out.mono ?_); rintro e w1 ⟨rfl, hb⟩); have Hb := Lib.hid hb; clear hb)
        go_roundw
        case rel => exact ⟨k + 1, c, cap, a, by omega, by go_num, rfl, by rw [HM2.out]; exact Hc.out, by rw [HM2.out]; exact own_below Ho.out Hb.out (Nat.le_refl _), Hat.out.below Hb.out Hat.out.lt, below_up Hbw.out Hb.out Hbw.out.size⟩
        case measure => simp [intOf]; omega
    · obtain rfl : n = k := by omega
      go_wp2
      go_ret
      refine ⟨a, cap, ?_, by rw [← Hc.out]; exact own_mono Ho.out (by omega), Hbw.out⟩
      show Ending.returned (.slice a c cap) = _
      rw [Hc.out]

theorem count_any (n m : Nat) (w : World) (hn : n ≤ 64) (hm : m < 2 ^ n) : Calls Tryz.prog 42 #[V n m] w fun e w' => e = .returned (.int .i64 ((M.all n m).length : Int)) ∧ Below w.heap.size w w' := by
  have HA := fun w => Lib.hid (all_any n m w hn hm)
  have hl := M.all_len n m
  unfold V at HA ⊢
  clear hm
  generalize M.all n m = l at *
  have Hl := Lib.hid hl
  clear hl
  go_enter Tryz.func42, Tryz.ntmps42
  go_wp2_with (go_at_call 64; ((with_reducible refine (HA _).out.mono ?_); rintro e w1 ⟨a, cap, rfl, ho, hb⟩); have Hb := Lib.hid hb; clear hb ho)
  go_ret
  exact ⟨rfl, bel2 Hb.out⟩

end Go.Proofs.YtcofahpeinkhfaaGreat.B
