/-
  The document's own answer for Decode: what the reference function answers. CONDITIONS: at most 65536 bytes.
-/
import Derived.Test.YtpggpgbkeafgnaaCRefa
import Derived.Test.YtpggpgbkeafgnaaCRefb
import Derived.Deep.RegionLaw
namespace Go.Proofs.Ytpggpgbkeafgnaa.C
open Go.RowKit
set_option linter.unusedVariables false
set_option linter.unusedSimpArgs false
set_option maxRecDepth 20000
theorem refdecode_low (w : World) (a : Option Addr) (n cap : Nat) (l0 : List UInt8) (h : Row w a n cap (u8s l0)) (hn : n ≤ 65536) (h2 : n < 2) :
    Calls Try.prog 22 #[.slice a n cap] w (DPost w l0) := by
  have hl : l0.length = n := by have := h.1; rw [u8s_length] at this; exact this
  have HR := Lib.hid h
  have Hn64 := Lib.hid hn
  have hnI : (n : Int) ≤ 65536 := by omega
  have B2 : Hid (Below w.heap.size w ((w.alloc (.cells #[.int .i64 0, .slice none 0 0, .slice none 0 0] 39)).alloc (.cells #[.int .i64 0, .slice none 0 0, .slice none 0 0] 39))) := ((Below.refl _ _).alloc (Nat.le_refl _) _).alloc (by simp) _
  have h2I : (n : Int) < 2 := by omega
  have Hd : Hid (M.dec l0 = none) := by
    match l0, hl with
    | [], _ => rfl
    | [x], _ => rfl
    | x :: y :: z, hl => simp at hl; omega
  have z1 := True.intro
  have z2 := True.intro
  have z3 := True.intro
  have r1 := True.intro
  have r2 := True.intro
  have r3 := True.intro
  clear h hl h2
  go_enter Try.func22, Try.ntmps22
  go_wp2_with fail
  refine bodyPost_ret (v := .tuple #[.agg #[.int .i64 0, .slice none 0 0, .slice none 0 0], .int .i64 4]) (by simp [results, Try.results22, go_sem, z1, z2, z3, r1, r2, r3]) rfl ?_
  first | exact ⟨zero_end _ B2.out, .inr ⟨Hd.out, rfl⟩⟩ | exact ⟨B2.out, .inr ⟨Hd.out, rfl⟩⟩

theorem refdecode_any (w : World) (a : Option Addr) (n cap : Nat) (l0 : List UInt8) (h : Row w a n cap (u8s l0)) (hn : n ≤ 65536) :
    Calls Try.prog 22 #[.slice a n cap] w (DPost w l0) := by
  by_cases h2 : n < 2
  · exact refdecode_low w a n cap l0 h hn h2
  · have hl : l0.length = n := by have := h.1; rw [u8s_length] at this; exact this
    match l0, hl, h with
    | [], hl, _ => simp at hl; omega
    | [x], hl, _ => simp at hl; omega
    | kd :: c :: l, hl, h =>
      by_cases h240 : 240 ≤ c.toNat
      · exact refdecode_240 w a n cap kd c l h hn (by omega) h240
      · exact refdecode_mod w a n cap kd c l h hn (by omega) h240

end Go.Proofs.Ytpggpgbkeafgnaa.C
