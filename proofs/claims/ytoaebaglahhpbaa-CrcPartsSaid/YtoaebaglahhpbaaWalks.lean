/-
  What each function of package crc returns, and that the statements' own first calls are answered as the document says.
-/
import Derived.Test.YtoaebaglahhpbaaProg
import Derived.Test.YtoaebaglahhpbaaMath
import Derived.WalkKit
import Derived.Lib.Hide
import Derived.Lib.SlBytesConst
import Derived.Below
import Derived.Deep.QuietTactic
import Derived.BigQuiet
namespace Go.Proofs.Ytoaebaglahhpbaa
open Go.RowKit
set_option linter.unusedVariables false
set_option linter.unusedSimpArgs false

theorem ofInt_toNat (x : BitVec 32) : BitVec.ofInt 32 (x.toNat : Int) = x := by
  rw [BitVec.ofInt_natCast]; simp

theorem wrap_u32 (x : BitVec 32) : IntKind.u32.wrap (x.toNat : Int) = (x.toNat : Int) := by
  have hb : x.toNat < 4294967296 := x.isLt
  simp [IntKind.wrap, IntKind.bits, IntKind.signed]; omega

theorem xor_u32 (a b : Int) : bits .xor .u32 a b = ((BitVec.ofInt 32 a ^^^ BitVec.ofInt 32 b).toNat : Int) := by
  show IntKind.u32.wrap ((BitVec.ofInt 32 a ^^^ BitVec.ofInt 32 b).toNat : Int) = _
  exact wrap_u32 _

theorem and_u32 (a b : Int) : bits .and .u32 a b = ((BitVec.ofInt 32 a &&& BitVec.ofInt 32 b).toNat : Int) := by
  show IntKind.u32.wrap ((BitVec.ofInt 32 a &&& BitVec.ofInt 32 b).toNat : Int) = _
  exact wrap_u32 _

theorem ret_u32 {a b : Int} (h : a = b) : Ending.returned (.int .u32 a) = .returned (.int .u32 b) := by rw [h]

theorem ret_true {b : Bool} (h : b = true) : Ending.returned (.bool b) = .returned (.bool true) := by rw [h]

theorem div_two (x : BitVec 32) : (x.toNat : Int) / (2 : Int) = (((x >>> (1 : Nat)).toNat : Nat) : Int) := by
  rw [BitVec.toNat_ushiftRight, Nat.shiftRight_eq_div_pow]; omega

theorem low_bit (x : BitVec 32) : (bits .and .u32 (x.toNat : Int) 1 == 1) = decide (x &&& 1#32 = 1#32) := by
  rw [and_u32, ofInt_toNat]
  have : (BitVec.ofInt 32 1) = 1#32 := rfl
  rw [this, Bool.eq_iff_iff]
  simp only [beq_iff_eq, decide_eq_true_eq]
  constructor
  · intro h
    apply BitVec.eq_of_toNat_eq
    show _ = 1
    omega
  · intro h; rw [h]; rfl

theorem halve_any (x : BitVec 32) (w : World) :
    Calls Try.prog 16 #[.int .u32 (x.toNat : Int)] w fun e w' => e = .returned (.int .u32 ((M.half x).toNat : Int)) ∧ w = w' := by
  have hb : x.toNat < 4294967296 := x.isLt
  by_cases h : x &&& 1#32 = 1#32
  · have ht : (bits .and .u32 (x.toNat : Int) 1 == 1) = true := by rw [low_bit, decide_eq_true h]
    have he : bits .xor .u32 ((x.toNat : Int) / 2) 2197175160 = ((M.half x).toNat : Int) := by
      rw [div_two, xor_u32, ofInt_toNat]
      unfold M.half; rw [if_pos h]; rfl
    have He := Lib.hid he
    clear he
    go_enter Try.func16, Try.ntmps16
    go_wp2
    go_ret
    exact ⟨ret_u32 He.out, rfl⟩
  · have ht : (bits .and .u32 (x.toNat : Int) 1 == 1) = false := by rw [low_bit, decide_eq_false h]
    have he : (x.toNat : Int) / 2 = ((M.half x).toNat : Int) := by
      rw [div_two]
      unfold M.half; rw [if_neg h]
    have He := Lib.hid he
    clear he
    go_enter Try.func16, Try.ntmps16
    go_wp2
    go_ret
    exact ⟨ret_u32 He.out, rfl⟩

/-- what the walk is told of a row of bytes: it is empty, or it lies in one block -/
def Row (w : World) (a : Option Addr) (len : Nat) (l : List Int) : Prop :=
  l.length = len ∧ len ≤ 140737488355328 ∧ (∀ x ∈ l, 0 ≤ x ∧ x < 256) ∧
    (l = [] ∨ ∃ b off, a = some ⟨b, off, none⟩ ∧ ∀ i, i < l.length → w.cell? ⟨b, off + i, none⟩ = some (.int .u8 (l.getD i 0)))

theorem not_u32 (x : BitVec 32) : bits .xor .u32 IntKind.u32.max (x.toNat : Int) = ((~~~x).toNat : Int) := by
  rw [xor_u32, ofInt_toNat]
  rw [show BitVec.ofInt 32 IntKind.u32.max = BitVec.allOnes 32 from by decide +kernel, BitVec.allOnes_xor]

theorem run_snoc (s : BitVec 32) (l : List Int) (k : Nat) (h : k < l.length) : M.run s (l.take (k + 1)) = M.step (M.run s (l.take k)) (l.getD k 0) := by
  rw [List.take_succ_eq_append_getElem h, M.run_append]
  simp [M.run, List.getD_eq_getElem?_getD, h]

theorem iter_succ (k : Nat) (x : BitVec 32) : M.iter (k + 1) x = M.half (M.iter k x) := by
  have := M.iter_add k 1 x
  exact this

set_option maxHeartbeats 400000 in
theorem more_any (x : BitVec 32) (a : Option Addr) (len cap : Nat) (l : List Int) (w : World) (h : Row w a len l) :
    Calls Try.prog 13 #[.int .u32 (x.toNat : Int), .slice a len cap] w fun e w' => e = .returned (.int .u32 ((M.more x l).toNat : Int)) ∧ w = w' := by
  have hb : x.toNat < 4294967296 := x.isLt
  obtain ⟨hl, hm, hr, hc⟩ := h
  subst hl
  go_enter Try.func13, Try.ntmps13
  go_wp2_with fail
  go_loop [5, 12] (fun s i => ∃ k : Nat, k ≤ l.length ∧ i = .int .i64 k ∧ s = .int .u32 ((M.run (~~~x) (l.take k)).toNat : Int)) (fun _ i => l.length - (intOf i).toNat)
  case atStart => exact ⟨0, Nat.zero_le _, rfl, by rw [not_u32]; rfl⟩
  case round =>
    obtain ⟨k, hk, rfl, rfl⟩ := hrel
    by_cases hlt : k < l.length
    · rcases hc with rfl | ⟨b, off, rfl, hc⟩
      · simp at hlt
      have hcell := hc k hlt
      have hrb := hr (l.getD k 0) (by rw [List.getD_eq_getElem?_getD]; simp [hlt])
      obtain ⟨hr1, hr2⟩ := hrb
      have hsn := run_snoc (~~~x) l k hlt
      have Hsn := Lib.hid hsn
      clear hsn hc hr
      generalize hcv : l.getD k 0 = c at *
      have Hcv := Lib.hid hcv
      clear hcv
      generalize hsv : M.run (~~~x) (l.take k) = s at *
      have Hsv := Lib.hid hsv
      clear hsv
      go_wp2_with fail
      go_loop [5, 20] (fun r i => ∃ j : Nat, j ≤ 8 ∧ i = .int .i64 j ∧ r = .int .u32 ((M.iter j (s ^^^ BitVec.ofInt 32 c)).toNat : Int)) (fun _ i => 8 - (intOf i).toNat)
      case atStart => exact ⟨0, by omega, rfl, by rw [xor_u32, ofInt_toNat]; rfl⟩
      case round =>
        obtain ⟨j, hj, rfl, rfl⟩ := hrel
        by_cases hj8 : j < 8
        · have hsu := iter_succ j (s ^^^ BitVec.ofInt 32 c)
          generalize hqv : M.iter j (s ^^^ BitVec.ofInt 32 c) = q at *
          have Hqv := Lib.hid hqv
          clear hqv
          have Hsu := Lib.hid hsu
          clear hsu
          go_wp2_with (go_at_call 16; refine (halve_any _ _).mono ?_; rintro e w' ⟨rfl, rfl⟩)
          go_round
          case rel => exact ⟨j + 1, by omega, by go_num, by rw [Hsu.out]⟩
          case measure => simp [intOf]; omega
        · obtain rfl : j = 8 := by omega
          go_wp2_with fail
          go_round
          case rel => exact ⟨k + 1, by omega, by go_num, by rw [Hsn.out]; rfl⟩
          case measure => simp [intOf]; omega
    · obtain rfl : k = l.length := by omega
      have hend : bits .xor .u32 IntKind.u32.max ((M.run (~~~x) l).toNat : Int) = ((M.more x l).toNat : Int) := by
        rw [not_u32]; rfl
      have Hend := Lib.hid hend
      clear hend hr hc
      go_wp2_with fail
      go_ret
      exact ⟨ret_u32 Hend.out, rfl⟩

theorem sum_any (a : Option Addr) (len cap : Nat) (l : List Int) (w : World) (h : Row w a len l) :
    Calls Try.prog 12 #[.slice a len cap] w fun e w' => e = .returned (.int .u32 ((M.more 0#32 l).toNat : Int)) ∧ w = w' := by
  have H := Lib.hid h
  clear h
  go_enter Try.func12, Try.ntmps12
  go_wp2_with (go_at_call 13; refine (more_any 0#32 _ _ _ l _ H.out).mono ?_; rintro e w' ⟨rfl, rfl⟩)
  go_ret
  exact ⟨rfl, rfl⟩

theorem check_yes (x : BitVec 32) (a : Option Addr) (len cap : Nat) (l : List Int) (w : World) (h : Row w a len l) (hx : M.more 0#32 l = x) :
    Calls Try.prog 15 #[.slice a len cap, .int .u32 (x.toNat : Int)] w fun e w' => e = .returned (.bool true) ∧ w = w' := by
  have H := Lib.hid h
  clear h
  subst hx
  go_enter Try.func15, Try.ntmps15
  go_wp2_with (go_at_call 12; refine (sum_any _ _ _ l _ H.out).mono ?_; rintro e w' ⟨rfl, rfl⟩)
  go_ret
  exact ⟨rfl, rfl⟩

theorem toNat_eq_iff (x y : BitVec 32) : (((x.toNat : Int) == (y.toNat : Int)) = true) ↔ x = y := by
  simp only [beq_iff_eq]
  constructor
  · intro h; exact BitVec.eq_of_toNat_eq (by omega)
  · intro h; rw [h]

theorem toNat_ne {x y : BitVec 32} (h : x ≠ y) : ((x.toNat : Int) == (y.toNat : Int)) = false := by
  rw [Bool.eq_false_iff]; intro g; exact h ((toNat_eq_iff x y).1 g)

theorem check_no (x : BitVec 32) (a : Option Addr) (len cap : Nat) (l : List Int) (w : World) (h : Row w a len l) (hx : M.more 0#32 l ≠ x) :
    Calls Try.prog 15 #[.slice a len cap, .int .u32 (x.toNat : Int)] w fun e w' => e = .returned (.bool false) ∧ w = w' := by
  have H := Lib.hid h
  clear h
  have hf := toNat_ne hx
  go_enter Try.func15, Try.ntmps15
  go_wp2_with (go_at_call 12; refine (sum_any _ _ _ l _ H.out).mono ?_; rintro e w' ⟨rfl, rfl⟩)
  go_ret
  exact ⟨rfl, rfl⟩

theorem bit_of (x : BitVec 32) (i : Nat) (hi : i ≤ 31) : (bits .and .u32 ((x.toNat : Int) / ((2 : Int) ^ (31 - i))) 1 == 1) = x.getLsbD (31 - i) := by
  have e : (x.toNat : Int) / ((2 : Int) ^ (31 - i)) = (((x >>> (31 - i)).toNat : Nat) : Int) := by
    rw [BitVec.toNat_ushiftRight, Nat.shiftRight_eq_div_pow]
    simp
  rw [e, low_bit]
  have h := M.and_one (x >>> (31 - i))
  rw [BitVec.getLsbD_ushiftRight] at h
  rw [Bool.eq_iff_iff, decide_eq_true_eq]
  exact h

theorem mul_succ (a : BitVec 32) (k i : Nat) (p b : BitVec 32) : M.mulLoop a (k + 1) i p b = M.mulLoop a k (i + 1) (if a.getLsbD (31 - i) then p ^^^ b else p) (M.half b) := rfl

theorem times_any (a b : BitVec 32) (w : World) :
    Calls Try.prog 17 #[.int .u32 (a.toNat : Int), .int .u32 (b.toNat : Int)] w fun e w' => e = .returned (.int .u32 ((M.mul a b).toNat : Int)) ∧ w = w' := by
  have hb : a.toNat < 4294967296 := a.isLt
  go_enter Try.func17, Try.ntmps17
  go_wp2_with fail
  go_loop [1, 5, 7] (fun y p i => ∃ k : Nat, ∃ q c : BitVec 32, k ≤ 32 ∧ i = .int .i64 k ∧ y = .int .u32 (c.toNat : Int) ∧ p = .int .u32 (q.toNat : Int) ∧ M.mulLoop a (32 - k) k q c = M.mul a b) (fun _ _ i => 32 - (intOf i).toNat)
  case atStart => exact ⟨0, 0#32, b, by omega, rfl, rfl, rfl, rfl⟩
  case round =>
    obtain ⟨k, q, c, hk, rfl, rfl, rfl, hm⟩ := hrel
    have Hm := Lib.hid hm
    clear hm
    by_cases hlt : k < 32
    · have hc : c.toNat < 4294967296 := c.isLt
      have hq : q.toNat < 4294967296 := q.isLt
      have hbit := bit_of a k (by omega)
      cases hbv : a.getLsbD (31 - k)
      all_goals
        have Hb := Lib.hid hbv
        rw [hbv] at hbit
        clear hbv
        go_wp2_with (go_at_call 16; refine (halve_any _ _).mono ?_; rintro e w' ⟨rfl, rfl⟩)
        go_round
        case rel => exact ⟨k + 1, _, M.half c, by omega, by go_num, rfl, by first | rfl | rw [xor_u32, ofInt_toNat, ofInt_toNat], by
          have := Hm.out
          rw [show 32 - k = (32 - (k + 1)) + 1 from by omega, mul_succ, Hb.out] at this
          exact this⟩
        case measure => simp [intOf]; omega
    · obtain rfl : k = 32 := by omega
      go_wp2_with fail
      go_ret
      exact ⟨ret_u32 (by have := Hm.out; rw [← this]; rfl), rfl⟩

theorem iter_half_step (k n' : Nat) (c : BitVec 32) :
    M.iter (8 * 2 ^ k * n') c = M.iter (8 * 2 ^ (k + 1) * (n' / 2)) (if n' % 2 = 1 then M.iter (8 * 2 ^ k) c else c) := by
  split
  · rw [← M.iter_add]
    congr 1
    have : n' = 2 * (n' / 2) + 1 := by omega
    generalize n' / 2 = m at *
    subst this
    rw [Nat.pow_succ, Nat.mul_add, Nat.mul_one, Nat.add_comm]
    congr 1
    rw [Nat.mul_assoc, Nat.mul_assoc, Nat.mul_assoc]
  · congr 1
    have : n' = 2 * (n' / 2) := by omega
    generalize n' / 2 = m at *
    subst this
    rw [Nat.pow_succ, Nat.mul_assoc, Nat.mul_assoc, Nat.mul_assoc]

theorem pow_up (k : Nat) : M.mul (M.iter (8 * 2 ^ k) M.one31) (M.iter (8 * 2 ^ k) M.one31) = M.iter (8 * 2 ^ (k + 1)) M.one31 := by
  rw [M.mul_pow, ← M.iter_add]
  congr 1
  rw [Nat.pow_succ]; omega

theorem join_any (a b : BitVec 32) (n : Int) (w : World) (hn : n ≤ 9223372036854775807) :
    Calls Try.prog 14 #[.int .u32 (a.toNat : Int), .int .u32 (b.toNat : Int), .int .i64 n] w fun e w' => e = .returned (.int .u32 ((M.join a b n).toNat : Int)) ∧ w = w' := by
  by_cases h1 : n < 1
  · have hj : M.join a b n = a := by unfold M.join; rw [if_pos h1]
    have Hj := Lib.hid hj
    clear hj
    go_enter Try.func14, Try.ntmps14
    go_wp2_with fail
    go_ret
    exact ⟨ret_u32 (by rw [Hj.out]), rfl⟩
  · obtain ⟨N, rfl⟩ := Int.eq_ofNat_of_zero_le (show 0 ≤ n by omega)
    have hj : M.join a b N = M.iter (8 * N) a ^^^ b := by unfold M.join; rw [if_neg h1]; rfl
    have Hj := Lib.hid hj
    clear hj
    go_enter Try.func14, Try.ntmps14
    go_wp2_with fail
    go_loop [0, 2, 7] (fun x m u => ∃ k N' : Nat, ∃ c : BitVec 32, N' ≤ N ∧ m = .int .i64 N' ∧ x = .int .u32 (c.toNat : Int) ∧ u = .int .u32 ((M.iter (8 * 2 ^ k) M.one31).toNat : Int) ∧ M.iter (8 * 2 ^ k * N') c = M.iter (8 * N) a) (fun _ m _ => (intOf m).toNat)
    case atStart => exact ⟨0, N, a, Nat.le_refl _, rfl, rfl, by rw [show M.iter (8 * 2 ^ 0) M.one31 = 0x800000#32 from by decide +kernel]; rfl, by simp⟩
    case round =>
      obtain ⟨k, N', c, hk, rfl, rfl, rfl, hm⟩ := hrel
      have hs := iter_half_step k N' c
      rw [hm] at hs
      have hp := pow_up k
      have hq := M.mul_pow c (8 * 2 ^ k)
      have Hm := Lib.hid hm
      have Hs := Lib.hid hs
      have Hp := Lib.hid hp
      have Hq := Lib.hid hq
      clear hm hs hp hq
      generalize M.iter (8 * 2 ^ k) M.one31 = u at *
      by_cases h0 : N' = 0
      · subst h0
        go_wp2_with fail
        go_ret
        exact ⟨ret_u32 (by rw [xor_u32, ofInt_toNat, ofInt_toNat, Hj.out, ← Hm.out]; rfl), rfl⟩
      · have hpos : 0 < N' := by omega
        by_cases hodd : N' % 2 = 1
        · have ht : ((N' : Int) % 2 == 1) = true := by rw [beq_iff_eq]; omega
          have Ho := Lib.hid hodd
          clear hodd
          go_wp2_with (go_at_call 17; refine (times_any _ _ _).mono ?_; rintro e w' ⟨rfl, rfl⟩)
          go_round
          case rel => exact ⟨k + 1, N' / 2, M.mul c u, by omega, by go_num, rfl, by rw [Hp.out], by
            have := Hs.out
            rw [if_pos Ho.out] at this
            rw [Hq.out]; exact this.symm⟩
          case measure => simp [intOf]; omega
        · have ht : ((N' : Int) % 2 == 1) = false := by rw [beq_eq_false_iff_ne]; omega
          have Ho := Lib.hid hodd
          clear hodd
          go_wp2_with (go_at_call 17; refine (times_any _ _ _).mono ?_; rintro e w' ⟨rfl, rfl⟩)
          go_round
          case rel => exact ⟨k + 1, N' / 2, c, by omega, by go_num, rfl, by rw [Hp.out], by
            have := Hs.out
            rw [if_neg Ho.out] at this
            exact this.symm⟩
          case measure => simp [intOf]; omega

/-! the nine signs -/
def nine : List Int := [49, 50, 51, 52, 53, 54, 55, 56, 57]
def blk : Obj := .cells #[.int .u8 49, .int .u8 50, .int .u8 51, .int .u8 52, .int .u8 53, .int .u8 54, .int .u8 55, .int .u8 56, .int .u8 57] 5 (9, 10)

theorem cellAt (w : World) (k : Nat) (hk : k < 9) : (w.alloc blk).cell? ⟨w.heap.size, k, none⟩ = some (.int .u8 (nine.getD k 0)) := by
  unfold blk
  rw [World.cell?_alloc_mark]
  rcases (show k = 0 ∨ k = 1 ∨ k = 2 ∨ k = 3 ∨ k = 4 ∨ k = 5 ∨ k = 6 ∨ k = 7 ∨ k = 8 from by omega) with rfl | rfl | rfl | rfl | rfl | rfl | rfl | rfl | rfl <;> rfl

theorem nine_range : ∀ x ∈ nine, 0 ≤ x ∧ x < 256 := by decide

/-- a part of the nine signs -/
theorem row_part (w : World) (n j k : Nat) (h : j + k ≤ 9) : Row ((w.alloc blk).drewN n) (some ⟨w.heap.size, j, none⟩) k ((nine.drop j).take k) := by
  have hl : ((nine.drop j).take k).length = k := by rw [List.length_take, List.length_drop]; show min k (9 - j) = k; omega
  refine ⟨hl, by omega, fun x hx => nine_range x (List.mem_of_mem_drop (List.mem_of_mem_take hx)), .inr ⟨w.heap.size, j, rfl, fun i hi => ?_⟩⟩
  rw [World.cell?_drewN, cellAt w (j + i) (by omega)]
  congr 2
  rw [List.getD_eq_getElem?_getD, List.getD_eq_getElem?_getD, List.getElem?_take, if_pos (by omega), List.getElem?_drop]

theorem q_of {f : FuncId} {args : Array Value} {v : Value} {w : World} {n : Nat} (h : Calls Try.prog f args ((w.alloc blk).drewN n) fun e w' => e = .returned v ∧ (w.alloc blk).drewN n = w') :
    Calls Try.prog f args ((w.alloc blk).drewN n) fun e w' => e = .returned v ∧ ∃ m, w' = (w.alloc blk).drewN m :=
  h.mono fun _ _ ⟨he, hw⟩ => ⟨he, n, hw.symm⟩

theorem row_nil (w : World) : Row w none 0 [] := ⟨rfl, by omega, by simp, .inl rfl⟩

theorem sum_at {w : World} {n : Nat} {a : Option Addr} {len cap : Nat} {l : List Int} {r : Int} (h : Row ((w.alloc blk).drewN n) a len l) (hr : ((M.more 0#32 l).toNat : Int) = r) :
    Calls Try.prog 12 #[.slice a len cap] ((w.alloc blk).drewN n) fun e w' => e = .returned (.int .u32 r) ∧ ∃ m, w' = (w.alloc blk).drewN m := by
  subst hr; with_reducible exact q_of (sum_any a len cap l _ h)

theorem q_nil (w : World) (n : Nat) : Calls Try.prog 12 #[.slice none 0 0] ((w.alloc blk).drewN n) fun e w' => e = .returned (.int .u32 0) ∧ ∃ m, w' = (w.alloc blk).drewN m :=
  sum_at (row_nil _) (by decide +kernel)
theorem q_nine (w : World) (n c : Nat) : Calls Try.prog 12 #[.slice (some ⟨w.heap.size, 0, none⟩) 9 c] ((w.alloc blk).drewN n) fun e w' => e = .returned (.int .u32 3808858755) ∧ ∃ m, w' = (w.alloc blk).drewN m :=
  sum_at (row_part w n 0 9 (by omega)) (by decide +kernel)
theorem q_four (w : World) (n c : Nat) : Calls Try.prog 12 #[.slice (some ⟨w.heap.size, 0, none⟩) 4 c] ((w.alloc blk).drewN n) fun e w' => e = .returned (.int .u32 4131058926) ∧ ∃ m, w' = (w.alloc blk).drewN m :=
  sum_at (row_part w n 0 4 (by omega)) (by decide +kernel)
theorem q_five (w : World) (n c : Nat) : Calls Try.prog 12 #[.slice (some ⟨w.heap.size, 4, none⟩) 5 c] ((w.alloc blk).drewN n) fun e w' => e = .returned (.int .u32 2209703384) ∧ ∃ m, w' = (w.alloc blk).drewN m :=
  sum_at (row_part w n 4 5 (by omega)) (by decide +kernel)
theorem q_more (w : World) (n c : Nat) : Calls Try.prog 13 #[.int .u32 4131058926, .slice (some ⟨w.heap.size, 4, none⟩) 5 c] ((w.alloc blk).drewN n) fun e w' => e = .returned (.int .u32 3808858755) ∧ ∃ m, w' = (w.alloc blk).drewN m := by
  have h := q_of (more_any 4131058926#32 _ 5 c _ _ (row_part w n 4 5 (by omega)))
  have e : M.more 4131058926#32 ((nine.drop 4).take 5) = 3808858755#32 := by decide +kernel
  rw [e] at h
  exact h
theorem q_join (w : World) (n : Nat) : Calls Try.prog 14 #[.int .u32 4131058926, .int .u32 2209703384, .int .i64 5] ((w.alloc blk).drewN n) fun e w' => e = .returned (.int .u32 3808858755) ∧ ∃ m, w' = (w.alloc blk).drewN m := by
  have h := q_of (w := w) (n := n) (join_any 4131058926#32 2209703384#32 5 _ (by omega))
  have e : M.join 4131058926#32 2209703384#32 5 = 3808858755#32 := by decide +kernel
  rw [e] at h
  exact h
theorem q_yes (w : World) (n c : Nat) : Calls Try.prog 15 #[.slice (some ⟨w.heap.size, 0, none⟩) 9 c, .int .u32 3808858755] ((w.alloc blk).drewN n) fun e w' => e = .returned (.bool true) ∧ ∃ m, w' = (w.alloc blk).drewN m :=
  q_of (check_yes 3808858755#32 _ 9 c _ _ (row_part w n 0 9 (by omega)) (by decide +kernel))
theorem q_no (w : World) (n c : Nat) : Calls Try.prog 15 #[.slice (some ⟨w.heap.size, 0, none⟩) 9 c, .int .u32 1] ((w.alloc blk).drewN n) fun e w' => e = .returned (.bool false) ∧ ∃ m, w' = (w.alloc blk).drewN m :=
  q_of (check_no 1#32 _ 9 c _ _ (row_part w n 0 9 (by omega)) (by decide +kernel))

set_option maxHeartbeats 1000000 in
theorem awake_any (w : World) :
    Calls Try.prog 11 #[] w fun e w' => e = .returned (.bool true) ∧ Below w.heap.size w w' := by
  have kc := fun (w : World) (C : Array Value) (n c : Nat) => Lib.run_convert_bytes_const (P := Try.prog) w 22 5 C n c Try.underlying22 Try.underlying5
  go_enter Try.func11, Try.ntmps11
  go_wp2
  clear kc
  show Code.wp Try.prog _ _ _ (w.alloc blk)
  go_quiet ((first
    | (go_at_call 12; with_reducible exact q_nil w _)
    | (go_at_call 12; with_reducible exact q_nine w _ _)
    | (go_at_call 12; with_reducible exact q_four w _ _)
    | (go_at_call 12; with_reducible exact q_five w _ _)
    | (go_at_call 13; with_reducible exact q_more w _ _)
    | (go_at_call 14; with_reducible exact q_join w _)
    | (go_at_call 15; with_reducible exact q_yes w _ _)
    | (go_at_call 15; with_reducible exact q_no w _ _)))
  go_wp2
  go_ret
  exact ⟨rfl, ((Below.refl _ w).alloc (Nat.le_refl _) _).trans ⟨rfl, rfl, rfl, Nat.le_refl _, fun _ _ => rfl⟩⟩

/-! what the laws hand on -/
theorem u32_of {a : Int} (h : (Lit.int .u32 a).wf = true) : ∃ x : BitVec 32, a = (x.toNat : Int) := by
  refine ⟨BitVec.ofInt 32 a, ?_⟩
  have : 0 ≤ a ∧ a < 4294967296 := by
    simp [Lit.wf, IntKind.min, IntKind.max, IntKind.signed, IntKind.bits] at h
    omega
  obtain ⟨n, rfl⟩ := Int.eq_ofNat_of_zero_le this.1
  rw [BitVec.ofInt_natCast, BitVec.toNat_ofNat]
  omega

theorem row_below {w w' : World} {B : Nat} {a : Option Addr} {len : Nat} {l : List Int} (h : Row w a len l) (hB : w.heap.size ≤ B) (hb : Below B w w') : Row w' a len l := by
  obtain ⟨h1, h2, h3, h4⟩ := h
  refine ⟨h1, h2, h3, ?_⟩
  rcases h4 with h4 | ⟨b, off, ha, hc⟩
  · exact .inl h4
  · refine .inr ⟨b, off, ha, fun i hi => ?_⟩
    have hci := hc i hi
    have hlt : b < w.heap.size := by
      rcases Nat.lt_or_ge b w.heap.size with h' | h'
      · exact h'
      · simp [World.cell?, Array.getElem?_eq_none h'] at hci
    rw [hb.cell (p := ⟨b, off + i, none⟩) (show b < B by omega)]
    exact hci

theorem u8_range {a : Int} (h : (Lit.int .u8 a).wf = true) : 0 ≤ a ∧ a < 256 := by
  simp [Lit.wf, IntKind.min, IntKind.max, IntKind.signed, IntKind.bits] at h
  omega

theorem row_of {w : World} {a : Option Addr} {len cap : Nat} {zs : List Int} (hlen : len ≤ 140737488355328)
    (h : (a = none ∧ len = 0 ∧ cap = 0 ∧ zs = []) ∨
      ∃ x, a = some x ∧ len ≤ cap ∧ cap ≤ maxLen ∧ zs.length = cap ∧ (∀ i, i < zs.length → w.cell? (x.add i) = some (.int .u8 (zs.getD i 0))) ∧ ∀ n ∈ zs, (Lit.int .u8 n).wf = true) :
    Row w a len (zs.take len) := by
  rcases h with ⟨rfl, rfl, rfl, rfl⟩ | ⟨x, rfl, h1, h2, h3, h4, h5⟩
  · exact ⟨rfl, hlen, by simp, .inl rfl⟩
  · have hl : (zs.take len).length = len := by rw [List.length_take]; omega
    refine ⟨hl, hlen, fun n hn => u8_range (h5 n (List.mem_of_mem_take hn)), ?_⟩
    by_cases h0 : len = 0
    · subst h0; exact .inl rfl
    · obtain ⟨b, off, spot⟩ := x
      have hc0 := h4 0 (by omega)
      have hspot : spot = none := by simpa [Addr.add] using World.cell?_spot hc0
      subst hspot
      refine .inr ⟨b, off, rfl, fun i hi => ?_⟩
      have hc := h4 i (by omega)
      rw [List.getD_eq_getElem?_getD, List.getElem?_take, if_pos (by omega), ← List.getD_eq_getElem?_getD]
      rw [show (⟨b, off + i, none⟩ : Addr) = (⟨b, off, none⟩ : Addr).add i from by by_cases g : i = 0 <;> simp [Addr.add, g]]
      exact hc

theorem i64_range {a : Int} (h : (Lit.int .i64 a).wf = true) : -9223372036854775808 ≤ a ∧ a ≤ 9223372036854775807 := by
  simp [Lit.wf, IntKind.min, IntKind.max, IntKind.signed, IntKind.bits] at h
  omega

/-- a slice that came in, whatever its length: all that is known of its elements -/
def Part (w : World) (a : Option Addr) (len cap : Nat) (l : List Int) : Prop :=
  l.length = len ∧ len ≤ cap ∧ (∀ x ∈ l, 0 ≤ x ∧ x < 256) ∧
    (cap = 0 ∨ ∃ b off, a = some ⟨b, off, none⟩ ∧ b < w.heap.size ∧ ∀ i, i < l.length → w.cell? ⟨b, off + i, none⟩ = some (.int .u8 (l.getD i 0)))

theorem part_of {w : World} {a : Option Addr} {len cap : Nat} {zs : List Int}
    (h : (a = none ∧ len = 0 ∧ cap = 0 ∧ zs = []) ∨
      ∃ x, a = some x ∧ len ≤ cap ∧ cap ≤ maxLen ∧ zs.length = cap ∧ (∀ i, i < zs.length → w.cell? (x.add i) = some (.int .u8 (zs.getD i 0))) ∧ ∀ n ∈ zs, (Lit.int .u8 n).wf = true) :
    Part w a len cap (zs.take len) := by
  rcases h with ⟨rfl, rfl, rfl, rfl⟩ | ⟨x, rfl, h1, h2, h3, h4, h5⟩
  · exact ⟨rfl, Nat.le_refl _, by simp, .inl rfl⟩
  · have hl : (zs.take len).length = len := by rw [List.length_take]; omega
    refine ⟨hl, h1, fun n hn => u8_range (h5 n (List.mem_of_mem_take hn)), ?_⟩
    by_cases h0 : cap = 0
    · exact .inl h0
    · obtain ⟨b, off, spot⟩ := x
      have hc0 := h4 0 (by omega)
      have hspot : spot = none := by simpa [Addr.add] using World.cell?_spot hc0
      subst hspot
      refine .inr ⟨b, off, rfl, by simpa [Addr.add] using World.block_lt_of_cell? w _ hc0, fun i hi => ?_⟩
      have hc := h4 i (by omega)
      rw [List.getD_eq_getElem?_getD, List.getElem?_take, if_pos (by omega), ← List.getD_eq_getElem?_getD]
      rw [show (⟨b, off + i, none⟩ : Addr) = (⟨b, off, none⟩ : Addr).add i from by by_cases g : i = 0 <;> simp [Addr.add, g]]
      exact hc
end Go.Proofs.Ytoaebaglahhpbaa
