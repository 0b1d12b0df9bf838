/-
  The document's own sum: what the reference functions answer.
-/
import Derived.Test.YtipfhcplmlmaeaaBrid
namespace Go.Proofs.Ytipfhcplmlmaeaa.K
open Go.RowKit
set_option linter.unusedVariables false
set_option linter.unusedSimpArgs false
set_option maxRecDepth 20000

theorem odd_iff (x : BitVec 32) : x.toNat % 2 = 1 ↔ x &&& 1#32 = 1#32 := by
  constructor
  · intro h
    apply BitVec.eq_of_toNat_eq
    rw [BitVec.toNat_and]
    show x.toNat &&& 1 = 1
    rw [Nat.and_one_is_mod]; exact h
  · intro h
    have := congrArg BitVec.toNat h
    rw [BitVec.toNat_and] at this
    have h2 : x.toNat &&& 1 = 1 := this
    rw [Nat.and_one_is_mod] at h2; exact h2

theorem half_odd {x : BitVec 32} (h : x.toNat % 2 = 1) : bits .xor .u32 ((x.toNat : Int) / 2) 2197175160 = ((M.half x).toNat : Int) := by
  rw [div_two, xor_u32, ofInt_toNat]
  unfold M.half; rw [if_pos ((odd_iff x).1 h)]; rfl
theorem half_even {x : BitVec 32} (h : ¬ x.toNat % 2 = 1) : (x.toNat : Int) / 2 = ((M.half x).toNat : Int) := by
  rw [div_two]
  unfold M.half; rw [if_neg (fun g => h ((odd_iff x).2 g))]

set_option maxHeartbeats 400000 in
theorem on_any (x : BitVec 32) (c : Int) (hc : 0 ≤ c ∧ c < 256) (w : World) :
    Calls Try.prog 61 #[.int .u32 (x.toNat : Int), .int .u8 c] w fun e w' => e = .returned (.int .u32 ((M.step x c).toNat : Int)) ∧ w = w' := by
  obtain ⟨hc1, hc2⟩ := hc
  go_enter Try.func61, Try.ntmps61
  go_wp2_with fail
  go_loop [0, 5] (fun r i => ∃ j : Nat, j ≤ 8 ∧ i = .int .i64 j ∧ r = .int .u32 ((M.iter j (x ^^^ BitVec.ofInt 32 c)).toNat : Int)) (fun _ i => 8 - (Go.RowKit.intOf i).toNat)
  case atStart => exact ⟨0, by omega, rfl, by rw [xor_u32, ofInt_toNat]; rfl⟩
  case round =>
    obtain ⟨j, hj, rfl, rfl⟩ := hrel
    by_cases hj8 : j < 8
    · have hsu := iter_succ j (x ^^^ BitVec.ofInt 32 c)
      have hjI : (j : Int) < 8 := by omega
      generalize M.iter j (x ^^^ BitVec.ofInt 32 c) = q at *
      have Hsu := Lib.hid hsu
      clear hsu
      by_cases ho : q.toNat % 2 = 1
      · have e1 : (((q.toNat : Int) % 2) == 1) = true := by rw [beq_iff_eq]; omega
        have Hh := Lib.hid (half_odd ho)
        clear ho
        go_wp2_with fail
        go_round
        case rel => exact ⟨j + 1, by omega, by go_num, by rw [Hsu.out, ← Hh.out]⟩
        case measure => simp [Go.RowKit.intOf]; omega
      · have e1 : (((q.toNat : Int) % 2) == 1) = false := by rw [beq_eq_false_iff_ne]; omega
        have Hh := Lib.hid (half_even ho)
        clear ho
        go_wp2_with fail
        go_round
        case rel => exact ⟨j + 1, by omega, by go_num, by rw [Hsu.out, ← Hh.out]⟩
        case measure => simp [Go.RowKit.intOf]; omega
    · obtain rfl : j = 8 := by omega
      go_wp2_with fail
      go_ret
      exact ⟨rfl, rfl⟩

theorem not_sub (x : BitVec 32) : (4294967295 : Int) - (x.toNat : Int) = ((~~~x).toNat : Int) := by
  have := x.isLt
  rw [BitVec.toNat_not]
  omega

set_option maxHeartbeats 400000 in
theorem refmore_any (x : BitVec 32) (a : Option Addr) (len cap : Nat) (l : List Int) (w : World) (h : Row w a len l) :
    Calls Try.prog 53 #[.int .u32 (x.toNat : Int), .slice a len cap] w fun e w' => e = .returned (.int .u32 ((M.more x l).toNat : Int)) ∧ w = w' := by
  have hb : x.toNat < 4294967296 := x.isLt
  obtain ⟨hl, hm, hr, hc⟩ := h
  subst hl
  go_enter Try.func53, Try.ntmps53
  go_wp2_with fail
  go_loop [5, 6] (fun s i => ∃ k : Nat, k ≤ l.length ∧ i = .int .i64 k ∧ s = .int .u32 ((M.run (~~~x) (l.take k)).toNat : Int)) (fun _ i => l.length - (Go.RowKit.intOf i).toNat)
  case atStart => exact ⟨0, Nat.zero_le _, rfl, by first | rfl | (rw [not_sub]; rfl)⟩
  case round =>
    obtain ⟨k, hk, rfl, rfl⟩ := hrel
    by_cases hlt : k < l.length
    · rcases hc with rfl | ⟨b, off, rfl, hc⟩
      · simp at hlt
      have hcell := hc k hlt
      have hrb := hr (l.getD k 0) (by rw [List.getD_eq_getElem?_getD]; simp [hlt])
      have hsn := run_snoc (~~~x) l k hlt
      have Hsn := Lib.hid hsn
      have hltI : (k : Int) < (l.length : Int) := by omega
      clear hsn hc hr
      generalize hcv : l.getD k 0 = c at *
      have Hcv := Lib.hid hcv
      clear hcv
      generalize hsv : M.run (~~~x) (l.take k) = s at *
      have Hsv := Lib.hid hsv
      have HO := Lib.hid (on_any s c hrb w)
      clear hsv hrb
      go_wp2_with (go_at_call 61; refine HO.out.mono ?_; rintro e w' ⟨rfl, rfl⟩)
      go_round
      case rel => exact ⟨k + 1, by omega, by go_num, by rw [Hsn.out]⟩
      case measure => simp [Go.RowKit.intOf]; omega
    · obtain rfl : k = l.length := by omega
      have hs4 := (M.run (~~~x) l).isLt
      have hend : (4294967295 : Int) - ((M.run (~~~x) l).toNat : Int) = ((M.more x l).toNat : Int) := not_sub _
      have Hend := Lib.hid hend
      have hge : ¬ ((l.length : Int) < (l.length : Int)) := by omega
      clear hend hr hc
      try rw [List.take_length]
      go_wp2_with fail
      go_ret
      exact ⟨by first | exact ret_u32 Hend.out | (rw [← Hend.out]; rfl), rfl⟩

theorem refsum_any (a : Option Addr) (len cap : Nat) (l : List Int) (w : World) (h : Row w a len l) :
    Calls Try.prog 44 #[.slice a len cap] w fun e w' => e = .returned (.int .u32 ((M.more 0#32 l).toNat : Int)) ∧ w = w' := by
  have H := Lib.hid (refmore_any 0#32 a len cap l w h)
  clear h
  go_enter Try.func44, Try.ntmps44
  go_wp2_with (go_at_call 53; refine H.out.mono ?_; rintro e w' ⟨rfl, rfl⟩)
  go_ret
  exact ⟨rfl, rfl⟩
end Go.Proofs.Ytipfhcplmlmaeaa.K
