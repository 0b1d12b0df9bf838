/-
  What each function of package crc returns, and that the statements' own first calls are answered as the document says.
-/
import Derived.Test.YtpoolpckabpnfaaGreatProg
import Derived.Test.YtpoolpckabpnfaaGreatKMath
import Derived.WalkKit
import Derived.Lib.Hide
import Derived.Lib.SlBytesConst
import Derived.Below
import Derived.Deep.QuietTactic
import Derived.BigQuiet
namespace Go.Proofs.YtpoolpckabpnfaaGreat.K
open Go.RowKit
set_option linter.unusedVariables false
set_option linter.unusedSimpArgs false

theorem ofInt_toNat (x : BitVec 32) : BitVec.ofInt 32 (x.toNat : Int) = x := by
  rw [BitVec.ofInt_natCast]; simp

theorem wrap_u32 (x : BitVec 32) : IntKind.u32.wrap (x.toNat : Int) = (x.toNat : Int) := by
  have hb : x.toNat < 4294967296 := x.isLt
  simp [IntKind.wrap, IntKind.bits, IntKind.signed]; omega

theorem xor_u32 (a b : Int) : bits .xor .u32 a b = ((BitVec.ofInt 32 a ^^^ BitVec.ofInt 32 b).toNat : Int) := by
  show IntKind.u32.wrap ((BitVec.ofInt 32 a ^^^ BitVec.ofInt 32 b).toNat : Int) = _
  exact wrap_u32 _

theorem and_u32 (a b : Int) : bits .and .u32 a b = ((BitVec.ofInt 32 a &&& BitVec.ofInt 32 b).toNat : Int) := by
  show IntKind.u32.wrap ((BitVec.ofInt 32 a &&& BitVec.ofInt 32 b).toNat : Int) = _
  exact wrap_u32 _

theorem ret_u32 {a b : Int} (h : a = b) : Ending.returned (.int .u32 a) = .returned (.int .u32 b) := by rw [h]

theorem ret_true {b : Bool} (h : b = true) : Ending.returned (.bool b) = .returned (.bool true) := by rw [h]

theorem div_two (x : BitVec 32) : (x.toNat : Int) / (2 : Int) = (((x >>> (1 : Nat)).toNat : Nat) : Int) := by
  rw [BitVec.toNat_ushiftRight, Nat.shiftRight_eq_div_pow]; omega

theorem low_bit (x : BitVec 32) : (bits .and .u32 (x.toNat : Int) 1 == 1) = decide (x &&& 1#32 = 1#32) := by
  rw [and_u32, ofInt_toNat]
  have : (BitVec.ofInt 32 1) = 1#32 := rfl
  rw [this, Bool.eq_iff_iff]
  simp only [beq_iff_eq, decide_eq_true_eq]
  constructor
  · intro h
    apply BitVec.eq_of_toNat_eq
    show _ = 1
    omega
  · intro h; rw [h]; rfl

theorem halve_any (x : BitVec 32) (w : World) :
    Calls Tryz.prog 118 #[.int .u32 (x.toNat : Int)] w fun e w' => e = .returned (.int .u32 ((M.half x).toNat : Int)) ∧ w = w' := by
  have hb : x.toNat < 4294967296 := x.isLt
  by_cases h : x &&& 1#32 = 1#32
  · have ht : (bits .and .u32 (x.toNat : Int) 1 == 1) = true := by rw [low_bit, decide_eq_true h]
    have he : bits .xor .u32 ((x.toNat : Int) / 2) 2197175160 = ((M.half x).toNat : Int) := by
      rw [div_two, xor_u32, ofInt_toNat]
      unfold M.half; rw [if_pos h]; rfl
    have He := Lib.hid he
    clear he
    go_enter Tryz.func118, Tryz.ntmps118
    go_wp2
    go_ret
    exact ⟨ret_u32 He.out, rfl⟩
  · have ht : (bits .and .u32 (x.toNat : Int) 1 == 1) = false := by rw [low_bit, decide_eq_false h]
    have he : (x.toNat : Int) / 2 = ((M.half x).toNat : Int) := by
      rw [div_two]
      unfold M.half; rw [if_neg h]
    have He := Lib.hid he
    clear he
    go_enter Tryz.func118, Tryz.ntmps118
    go_wp2
    go_ret
    exact ⟨ret_u32 He.out, rfl⟩

/-- what the walk is told of a row of bytes: it is empty, or it lies in one block -/
def Row (w : World) (a : Option Addr) (len : Nat) (l : List Int) : Prop :=
  l.length = len ∧ len ≤ 140737488355328 ∧ (∀ x ∈ l, 0 ≤ x ∧ x < 256) ∧
    (l = [] ∨ ∃ b off, a = some ⟨b, off, none⟩ ∧ ∀ i, i < l.length → w.cell? ⟨b, off + i, none⟩ = some (.int .u8 (l.getD i 0)))

theorem not_u32 (x : BitVec 32) : bits .xor .u32 IntKind.u32.max (x.toNat : Int) = ((~~~x).toNat : Int) := by
  rw [xor_u32, ofInt_toNat]
  rw [show BitVec.ofInt 32 IntKind.u32.max = BitVec.allOnes 32 from by decide +kernel, BitVec.allOnes_xor]

theorem run_snoc (s : BitVec 32) (l : List Int) (k : Nat) (h : k < l.length) : M.run s (l.take (k + 1)) = M.step (M.run s (l.take k)) (l.getD k 0) := by
  rw [List.take_succ_eq_append_getElem h, M.run_append]
  simp [M.run, List.getD_eq_getElem?_getD, h]

theorem iter_succ (k : Nat) (x : BitVec 32) : M.iter (k + 1) x = M.half (M.iter k x) := by
  have := M.iter_add k 1 x
  exact this

set_option maxHeartbeats 400000 in
theorem more_any (x : BitVec 32) (a : Option Addr) (len cap : Nat) (l : List Int) (w : World) (h : Row w a len l) :
    Calls Tryz.prog 99 #[.int .u32 (x.toNat : Int), .slice a len cap] w fun e w' => e = .returned (.int .u32 ((M.more x l).toNat : Int)) ∧ w = w' := by
  have hb : x.toNat < 4294967296 := x.isLt
  obtain ⟨hl, hm, hr, hc⟩ := h
  subst hl
  go_enter Tryz.func99, Tryz.ntmps99
  go_wp2_with fail
  go_loop [5, 12] (fun s i => ∃ k : Nat, k ≤ l.length ∧ i = .int .i64 k ∧ s = .int .u32 ((M.run (~~~x) (l.take k)).toNat : Int)) (fun _ i => l.length - (intOf i).toNat)
  case atStart => exact ⟨0, Nat.zero_le _, rfl, by rw [not_u32]; rfl⟩
  case round =>
    obtain ⟨k, hk, rfl, rfl⟩ := hrel
    by_cases hlt : k < l.length
    · rcases hc with rfl | ⟨b, off, rfl, hc⟩
      · simp at hlt
      have hcell := hc k hlt
      have hrb := hr (l.getD k 0) (by rw [List.getD_eq_getElem?_getD]; simp [hlt])
      obtain ⟨hr1, hr2⟩ := hrb
      have hsn := run_snoc (~~~x) l k hlt
      have Hsn := Lib.hid hsn
      clear hsn hc hr
      generalize hcv : l.getD k 0 = c at *
      have Hcv := Lib.hid hcv
      clear hcv
      generalize hsv : M.run (~~~x) (l.take k) = s at *
      have Hsv := Lib.hid hsv
      clear hsv
      go_wp2_with fail
      go_loop [5, 20] (fun r i => ∃ j : Nat, j ≤ 8 ∧ i = .int .i64 j ∧ r = .int .u32 ((M.iter j (s ^^^ BitVec.ofInt 32 c)).toNat : Int)) (fun _ i => 8 - (intOf i).toNat)
      case atStart => exact ⟨0, by omega, rfl, by rw [xor_u32, ofInt_toNat]; rfl⟩
      case round =>
        obtain ⟨j, hj, rfl, rfl⟩ := hrel
        by_cases hj8 : j < 8
        · have hsu := iter_succ j (s ^^^ BitVec.ofInt 32 c)
          generalize hqv : M.iter j (s ^^^ BitVec.ofInt 32 c) = q at *
          have Hqv := Lib.hid hqv
          clear hqv
          have Hsu := Lib.hid hsu
          clear hsu
          go_wp2_with (go_at_call 118; refine (halve_any _ _).mono ?_; rintro e w' ⟨rfl, rfl⟩)
          go_round
          case rel => exact ⟨j + 1, by omega, by go_num, by rw [Hsu.out]⟩
          case measure => simp [intOf]; omega
        · obtain rfl : j = 8 := by omega
          go_wp2_with fail
          go_round
          case rel => exact ⟨k + 1, by omega, by go_num, by rw [Hsn.out]; rfl⟩
          case measure => simp [intOf]; omega
    · obtain rfl : k = l.length := by omega
      have hend : bits .xor .u32 IntKind.u32.max ((M.run (~~~x) l).toNat : Int) = ((M.more x l).toNat : Int) := by
        rw [not_u32]; rfl
      have Hend := Lib.hid hend
      clear hend hr hc
      go_wp2_with fail
      go_ret
      exact ⟨ret_u32 Hend.out, rfl⟩

theorem sum_any (a : Option Addr) (len cap : Nat) (l : List Int) (w : World) (h : Row w a len l) :
    Calls Tryz.prog 87 #[.slice a len cap] w fun e w' => e = .returned (.int .u32 ((M.more 0#32 l).toNat : Int)) ∧ w = w' := by
  have H := Lib.hid h
  clear h
  go_enter Tryz.func87, Tryz.ntmps87
  go_wp2_with (go_at_call 99; refine (more_any 0#32 _ _ _ l _ H.out).mono ?_; rintro e w' ⟨rfl, rfl⟩)
  go_ret
  exact ⟨rfl, rfl⟩

theorem check_yes (x : BitVec 32) (a : Option Addr) (len cap : Nat) (l : List Int) (w : World) (h : Row w a len l) (hx : M.more 0#32 l = x) :
    Calls Tryz.prog 69 #[.slice a len cap, .int .u32 (x.toNat : Int)] w fun e w' => e = .returned (.bool true) ∧ w = w' := by
  have H := Lib.hid h
  clear h
  subst hx
  go_enter Tryz.func69, Tryz.ntmps69
  go_wp2_with (go_at_call 87; refine (sum_any _ _ _ l _ H.out).mono ?_; rintro e w' ⟨rfl, rfl⟩)
  go_ret
  exact ⟨rfl, rfl⟩

theorem toNat_eq_iff (x y : BitVec 32) : (((x.toNat : Int) == (y.toNat : Int)) = true) ↔ x = y := by
  simp only [beq_iff_eq]
  constructor
  · intro h; exact BitVec.eq_of_toNat_eq (by omega)
  · intro h; rw [h]

theorem toNat_ne {x y : BitVec 32} (h : x ≠ y) : ((x.toNat : Int) == (y.toNat : Int)) = false := by
  rw [Bool.eq_false_iff]; intro g; exact h ((toNat_eq_iff x y).1 g)

theorem check_no (x : BitVec 32) (a : Option Addr) (len cap : Nat) (l : List Int) (w : World) (h : Row w a len l) (hx : M.more 0#32 l ≠ x) :
    Calls Tryz.prog 69 #[.slice a len cap, .int .u32 (x.toNat : Int)] w fun e w' => e = .returned (.bool false) ∧ w = w' := by
  have H := Lib.hid h
  clear h
  have hf := toNat_ne hx
  go_enter Tryz.func69, Tryz.ntmps69
  go_wp2_with (go_at_call 87; refine (sum_any _ _ _ l _ H.out).mono ?_; rintro e w' ⟨rfl, rfl⟩)
  go_ret
  exact ⟨rfl, rfl⟩

end Go.Proofs.YtpoolpckabpnfaaGreat.K
