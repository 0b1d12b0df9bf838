/-
  Where a rune stands among the sixteen digits. CONDITIONS: the rune is one that a text can have.
-/
import Derived.Test.YtaldkdiijflmdaaDoorRead
import Derived.Lib.OthersKept
import Derived.Deep.QuietTactic
import Derived.BigQuiet
namespace Go.Proofs.YtaldkdiijflmdaaDoor
open Go.RowKit
set_option linter.unusedVariables false
set_option linter.unusedSimpArgs false
set_option maxRecDepth 20000

def hexs : ByteArray := ⟨#[48, 49, 50, 51, 52, 53, 54, 55, 56, 57, 97, 98, 99, 100, 101, 102]⟩

def hexi (r : Nat) : Int := match M.hexv r with | some d => (d : Int) | none => -1

theorem hexi_ascii : ∀ r : Fin 128, Lib.indexByte hexs.data.toList (UInt8.ofNat r.val) = hexi r.val := by decide +kernel

theorem hexi_high (r : Nat) (h : 128 ≤ r) : hexi r = -1 := by
  unfold hexi M.hexv
  rw [if_neg (by omega), if_neg (by omega)]

theorem ret_int {a b : Int} (h : a = b) : Ending.returned (.int .i64 a) = .returned (.int .i64 b) := by rw [h]

theorem index_low (r : Nat) (hr : r < 128) (w : World) : Calls Tryd.prog 38 #[.string hexs, .int .i32 (r : Int)] w fun e w' => e = .returned (.int .i64 (hexi r)) ∧ Below w.heap.size w w' := by
  refine (Tryd.strings_IndexRune_ascii hexs (r : Int) w (by omega) (by omega)).mono ?_
  rintro e w' ⟨rfl, rfl⟩
  refine ⟨ret_int ?_, Below.refl _ _⟩
  have := hexi_ascii ⟨r, hr⟩
  rw [← this]
  rfl

theorem dec_hexs : ∀ p : Fin 16, (Utf8.decode hexs p.val).2 = 1 ∧ (Utf8.decode hexs p.val).1 ≤ 127 := by decide +kernel

set_option maxHeartbeats 1000000 in
theorem index_bad (w : World) : Calls Tryd.prog 38 #[.string hexs, .int .i32 65533] w fun e w' => e = .returned (.int .i64 (-1)) ∧ Below w.heap.size w w' := by
  go_enter Tryd.func38, Tryd.ntmps38
  go_wp2_with fail
  go_loopw [] (fun wr => ∃ pos : Nat, pos ≤ 16 ∧ wr.heap[w.heap.size]? = some (.stringIter hexs pos) ∧ Below w.heap.size w wr) (fun wr => 16 - wr.iterPos w.heap.size)
  case atStart =>
    refine ⟨0, by omega, ?_, (Below.refl _ w).alloc (Nat.le_refl _) _⟩
    exact World.iter_heap w hexs 0
  case round =>
    obtain ⟨pos, hle, hit, hb⟩ := hrel
    have hsz : hexs.size = 16 := rfl
    have Hit := Lib.hid hit
    have Hb := Lib.hid hb
    by_cases hp : pos < 16
    · have hnx : ∀ ty, (Instr.next (.pointer (some ⟨w.heap.size, 0, none⟩)) true ty).run Tryd.prog wr = _ := fun ty => Lib.run_next_any_at wr w.heap.size hexs pos ty hit (by rw [hsz]; exact hp)
      have hd := dec_hexs ⟨pos, hp⟩
      have Hd := Lib.hid hd.1
      have hne : (((Utf8.decode hexs pos).1 : Int) == 65533) = false := by
        have := hd.2
        simp only at this
        simp
        omega
      clear hd hit hb
      go_wp2_with fail
      go_roundw
      case rel =>
        refine ⟨pos + 1, by omega, ?_, ?_⟩
        · have := Lib.iterAt_heap wr w.heap.size hexs pos (pos + (Utf8.decode hexs pos).2) Hit.out
          rw [Hd.out] at this
          simpa [Hd.out] using this
        · exact Lib.below_iterAt Hb.out (Nat.le_refl _) hexs _
      case measure =>
        have := Lib.iterAt_heap wr w.heap.size hexs pos (pos + (Utf8.decode hexs pos).2) Hit.out
        rw [Hd.out] at this
        simp only [World.iterPos, Hd.out, this, Hit.out]
        omega
    · obtain rfl : pos = 16 := by omega
      have hnx : ∀ ty, (Instr.next (.pointer (some ⟨w.heap.size, 0, none⟩)) true ty).run Tryd.prog wr = _ := fun ty => Lib.run_next_end_at wr w.heap.size hexs 16 ty hit (by rw [hsz]; omega)
      clear hit hb
      go_wp2_with fail
      go_ret
      exact ⟨rfl, Hb.out⟩

theorem enc_two (r : Nat) (h1 : 128 ≤ r) (h2 : r < 2048) : Utf8.encode (r : Int) = ⟨#[UInt8.ofNat (192 + r / 64), UInt8.ofNat (128 + r % 64)]⟩ := by
  have hv : Utf8.valid (r : Int) = true := by simp [Utf8.valid]; omega
  simp only [Utf8.encode, hv, if_true, Int.toNat_natCast]
  rw [if_neg (by omega), if_pos (by omega)]
theorem enc_three (r : Nat) (h1 : 2048 ≤ r) (h2 : r < 65536) (h3 : r < 55296 ∨ 57343 < r) : Utf8.encode (r : Int) = ⟨#[UInt8.ofNat (224 + r / 4096), UInt8.ofNat (128 + r / 64 % 64), UInt8.ofNat (128 + r % 64)]⟩ := by
  have hv : Utf8.valid (r : Int) = true := by simp [Utf8.valid]; omega
  simp only [Utf8.encode, hv, if_true, Int.toNat_natCast]
  rw [if_neg (by omega), if_neg (by omega), if_pos (by omega)]
theorem enc_four (r : Nat) (h1 : 65536 ≤ r) (h2 : r ≤ 1114111) : Utf8.encode (r : Int) = ⟨#[UInt8.ofNat (240 + r / 262144), UInt8.ofNat (128 + r / 4096 % 64), UInt8.ofNat (128 + r / 64 % 64), UInt8.ofNat (128 + r % 64)]⟩ := by
  have hv : Utf8.valid (r : Int) = true := by simp [Utf8.valid]; omega
  simp only [Utf8.encode, hv, if_true, Int.toNat_natCast]
  rw [if_neg (by omega), if_neg (by omega), if_neg (by omega)]

theorem last_byte (r : Nat) : (UInt8.ofNat (128 + r % 64)).toNat = 128 + r % 64 := by
  have : 128 + r % 64 < 256 := by omega
  simp [Nat.mod_eq_of_lt this]

theorem find_none : ∀ (k : Fin 5) (z : Fin 64), Lib.indexByte ((hexs.extract (k.val + 1) 16).data.toList) (UInt8.ofNat (128 + z.val)) = -1 := by decide +kernel

theorem valid_any (r : Nat) (w : World) (h1 : r ≤ 1114111) (h2 : r < 55296 ∨ 57343 < r) : Calls Tryd.prog 47 #[.int .i32 (r : Int)] w fun e w' => e = .returned (.bool true) ∧ w = w' := by
  refine (Tryd.utf8_ValidRune (r : Int) w).mono ?_
  rintro e w' ⟨rfl, rfl⟩
  refine ⟨ret_bool ?_, rfl⟩
  unfold Lib.validRune
  simp
  omega


theorem u8_back (z : Nat) : ((UInt8.ofNat z).toNat : Int).toNat.toUInt8 = UInt8.ofNat z := by rw [Int.toNat_natCast]; exact UInt8.ofNat_toNat

theorem quiet_find (k : Nat) (hk : k < 5) (z : Nat) (hz : z < 64) (S : ByteArray) (hS : S = hexs.extract (k + 1) 16) (W : World) (m : Nat) :
    Calls Tryd.prog 46 #[.string S, .int .u8 ((UInt8.ofNat (128 + z)).toNat : Int)] (W.drewN m) fun e w'' => e = .returned (.int .i64 (-1)) ∧ ∃ j, w'' = W.drewN j := by
  refine (Tryd.strings_IndexByte S _ _).mono ?_
  rintro e w' ⟨rfl, rfl⟩
  refine ⟨ret_int ?_, m, rfl⟩
  rw [u8_back, hS]
  exact find_none ⟨k, hk⟩ ⟨z, hz⟩

set_option maxHeartbeats 1000000 in
theorem index_two (r : Nat) (h1 : 128 ≤ r) (h2 : r < 2048) (w : World) : Calls Tryd.prog 38 #[.string hexs, .int .i32 (r : Int)] w fun e w' => e = .returned (.int .i64 (-1)) ∧ Below w.heap.size w w' := by
  have hE := enc_two r h1 h2
  have g1 : ¬ ((r : Int) < 128) := by omega
  have g0 : (0 : Int) ≤ (r : Int) := by omega
  have g2 : ((r : Int) == 65533) = false := int_neq (k := 65533) (by omega)
  have V := Lib.hid (fun w => valid_any r w (by omega) (by omega))
  have hlast := last_byte r
  have hz : r % 64 < 64 := by omega
  generalize r % 64 = z at *
  generalize UInt8.ofNat (192 + r / 64) = A at *
  have Hf := Lib.hid (fun S hS W m => quiet_find 1 (by omega) z hz S hS W m)
  have hne : ((49 : Int) != ((UInt8.ofNat (128 + z)).toNat : Int)) = true := by rw [hlast]; simp [bne]; omega
  clear hlast
  generalize UInt8.ofNat (128 + z) = B at *
  have HE := Lib.hid hE
  have hs1 : (⟨#[A, B]⟩ : ByteArray).size = 2 := rfl
  clear hz h1 h2
  go_enter Tryd.func38, Tryd.ntmps38
  go_wp2_with (go_at_call 47; refine (V.out _).mono ?_; rintro e w' ⟨rfl, rfl⟩)
  go_step3
  go_wp2_with fail

  go_loopw [9] (fun i wr => i = .int .i64 1 ∧ wr = w) (fun i wr => 0)
  case atStart => exact ⟨rfl, rfl⟩
  case round =>
    obtain ⟨rfl, rfl⟩ := hrel
    have hsz : hexs.size = 16 := rfl
    have b1 : (⟨#[A, B]⟩ : ByteArray)[1]'(by rw [hs1]; omega) = B := rfl
    have b2 : hexs[1]'(by rw [hsz]; omega) = 49 := rfl
    go_wp2_with fail
    go_step3
    go_wp2_with fail
    go_quiet (fail)
    have Hb : Hid (Below wr.heap.size wr (wr.drewN nq)) := ⟨rfl, rfl, rfl, Nat.le_refl _, fun _ _ => rfl⟩
    generalize wr.drewN nq = w6 at *
    go_wp2_with fail
    go_quiet ((go_at_call 46; exact Hf.out _ rfl _ _))
    go_wp2_with fail

    change bodyPost Tryd.prog Tryd.f38 (fun e w' => e = .returned (.int .i64 (-1)) ∧ Below wr.heap.size wr w') .ret _ _
    go_ret
    exact ⟨rfl, Hb.out.trans ⟨rfl, rfl, rfl, Nat.le_refl _, fun _ _ => rfl⟩⟩
set_option maxHeartbeats 1000000 in
theorem index_three (r : Nat) (h1 : 2048 ≤ r) (h2 : r < 65536) (h3 : r < 55296 ∨ 57343 < r) (h4 : r ≠ 65533) (w : World) : Calls Tryd.prog 38 #[.string hexs, .int .i32 (r : Int)] w fun e w' => e = .returned (.int .i64 (-1)) ∧ Below w.heap.size w w' := by
  have hE := enc_three r h1 h2 h3
  have g1 : ¬ ((r : Int) < 128) := by omega
  have g0 : (0 : Int) ≤ (r : Int) := by omega
  have g2 : ((r : Int) == 65533) = false := int_neq (k := 65533) (by omega)
  have V := Lib.hid (fun w => valid_any r w (by omega) (by omega))
  have hlast := last_byte r
  have hz : r % 64 < 64 := by omega
  generalize r % 64 = z at *
  generalize UInt8.ofNat (224 + r / 4096) = A at *
  generalize UInt8.ofNat (128 + r / 64 % 64) = A2 at *
  have Hf := Lib.hid (fun S hS W m => quiet_find 2 (by omega) z hz S hS W m)
  have hne : ((50 : Int) != ((UInt8.ofNat (128 + z)).toNat : Int)) = true := by rw [hlast]; simp [bne]; omega
  clear hlast
  generalize UInt8.ofNat (128 + z) = B at *
  have HE := Lib.hid hE
  have hs1 : (⟨#[A, A2, B]⟩ : ByteArray).size = 3 := rfl
  clear hz h1 h2 h3 h4
  go_enter Tryd.func38, Tryd.ntmps38
  go_wp2_with (go_at_call 47; refine (V.out _).mono ?_; rintro e w' ⟨rfl, rfl⟩)
  go_step3
  go_wp2_with fail

  go_loopw [9] (fun i wr => i = .int .i64 2 ∧ wr = w) (fun i wr => 0)
  case atStart => exact ⟨rfl, rfl⟩
  case round =>
    obtain ⟨rfl, rfl⟩ := hrel
    have hsz : hexs.size = 16 := rfl
    have b1 : (⟨#[A, A2, B]⟩ : ByteArray)[2]'(by rw [hs1]; omega) = B := rfl
    have b2 : hexs[2]'(by rw [hsz]; omega) = 50 := rfl
    go_wp2_with fail
    go_step3
    go_wp2_with fail
    go_quiet (fail)
    have Hb : Hid (Below wr.heap.size wr (wr.drewN nq)) := ⟨rfl, rfl, rfl, Nat.le_refl _, fun _ _ => rfl⟩
    generalize wr.drewN nq = w6 at *
    go_wp2_with fail
    go_quiet ((go_at_call 46; exact Hf.out _ rfl _ _))
    go_wp2_with fail

    change bodyPost Tryd.prog Tryd.f38 (fun e w' => e = .returned (.int .i64 (-1)) ∧ Below wr.heap.size wr w') .ret _ _
    go_ret
    exact ⟨rfl, Hb.out.trans ⟨rfl, rfl, rfl, Nat.le_refl _, fun _ _ => rfl⟩⟩
set_option maxHeartbeats 1000000 in
theorem index_four (r : Nat) (h1 : 65536 ≤ r) (h2 : r ≤ 1114111) (w : World) : Calls Tryd.prog 38 #[.string hexs, .int .i32 (r : Int)] w fun e w' => e = .returned (.int .i64 (-1)) ∧ Below w.heap.size w w' := by
  have hE := enc_four r h1 h2
  have g1 : ¬ ((r : Int) < 128) := by omega
  have g0 : (0 : Int) ≤ (r : Int) := by omega
  have g2 : ((r : Int) == 65533) = false := int_neq (k := 65533) (by omega)
  have V := Lib.hid (fun w => valid_any r w (by omega) (by omega))
  have hlast := last_byte r
  have hz : r % 64 < 64 := by omega
  generalize r % 64 = z at *
  generalize UInt8.ofNat (240 + r / 262144) = A at *
  generalize UInt8.ofNat (128 + r / 4096 % 64) = A2 at *
  generalize UInt8.ofNat (128 + r / 64 % 64) = A3 at *
  have Hf := Lib.hid (fun S hS W m => quiet_find 3 (by omega) z hz S hS W m)
  have hne : ((51 : Int) != ((UInt8.ofNat (128 + z)).toNat : Int)) = true := by rw [hlast]; simp [bne]; omega
  clear hlast
  generalize UInt8.ofNat (128 + z) = B at *
  have HE := Lib.hid hE
  have hs1 : (⟨#[A, A2, A3, B]⟩ : ByteArray).size = 4 := rfl
  clear hz h1 h2
  go_enter Tryd.func38, Tryd.ntmps38
  go_wp2_with (go_at_call 47; refine (V.out _).mono ?_; rintro e w' ⟨rfl, rfl⟩)
  go_step3
  go_wp2_with fail

  go_loopw [9] (fun i wr => i = .int .i64 3 ∧ wr = w) (fun i wr => 0)
  case atStart => exact ⟨rfl, rfl⟩
  case round =>
    obtain ⟨rfl, rfl⟩ := hrel
    have hsz : hexs.size = 16 := rfl
    have b1 : (⟨#[A, A2, A3, B]⟩ : ByteArray)[3]'(by rw [hs1]; omega) = B := rfl
    have b2 : hexs[3]'(by rw [hsz]; omega) = 51 := rfl
    go_wp2_with fail
    go_step3
    go_wp2_with fail
    go_quiet (fail)
    have Hb : Hid (Below wr.heap.size wr (wr.drewN nq)) := ⟨rfl, rfl, rfl, Nat.le_refl _, fun _ _ => rfl⟩
    generalize wr.drewN nq = w6 at *
    go_wp2_with fail
    go_quiet ((go_at_call 46; exact Hf.out _ rfl _ _))
    go_wp2_with fail

    change bodyPost Tryd.prog Tryd.f38 (fun e w' => e = .returned (.int .i64 (-1)) ∧ Below wr.heap.size wr w') .ret _ _
    go_ret
    exact ⟨rfl, Hb.out.trans ⟨rfl, rfl, rfl, Nat.le_refl _, fun _ _ => rfl⟩⟩

theorem index_any (r : Nat) (h1 : r ≤ 1114111) (h2 : r < 55296 ∨ 57343 < r) (w : World) : Calls Tryd.prog 38 #[.string hexs, .int .i32 (r : Int)] w fun e w' => e = .returned (.int .i64 (hexi r)) ∧ Below w.heap.size w w' := by
  by_cases g1 : r < 128
  · exact index_low r g1 w
  · rw [hexi_high r (by omega)]
    by_cases g2 : r = 65533
    · subst g2; exact index_bad w
    · by_cases g3 : r < 2048
      · exact index_two r (by omega) g3 w
      · by_cases g4 : r < 65536
        · exact index_three r (by omega) g4 h2 g2 w
        · exact index_four r (by omega) h1 w
end Go.Proofs.YtaldkdiijflmdaaDoor
