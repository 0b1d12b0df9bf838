/-
  Letters compared; two rows that are the same.
-/
import Derived.Test.YthbgabmmfokioaaNtRun
namespace Go.Proofs.Ythbgabmmfokioaa.Nt
open Go.RowKit
set_option linter.unusedVariables false
set_option linter.unusedSimpArgs false
set_option maxRecDepth 20000

theorem lt_struct : Try.prog.underlying 31 = some (.struct (Try.prog.fieldsOf 31)) := by kernel_rfl
theorem lt_held : Try.prog.stoodInHeld 31 = false := by kernel_rfl
theorem lt_guard : Try.prog.eqGuardType Try.prog.depth 31 = false := by kernel_rfl
theorem toList_inj {a b : ByteArray} (h : a.toList = b.toList) : a = b := by
  rw [ByteArray.toList_eq, ByteArray.toList_eq] at h
  obtain ⟨⟨x⟩⟩ := a
  obtain ⟨⟨y⟩⟩ := b
  simp only at h
  rw [h]
theorem toList_ne {a b : ByteArray} (h : a ≠ b) : ¬ a.toList = b.toList := fun e => h (toList_inj e)
theorem lt_eql (x y : Lt) (w : World) : (binOp .eql 31 (.agg #[.int .i64 x.fr, .int .i64 x.to, .string x.body]) (.agg #[.int .i64 y.fr, .int .i64 y.to, .string y.body])).run Try.prog w = .ok (.bool (decide (x = y))) w := by
  have u3 := Try.underlying3
  have u9 := Try.underlying9
  have z3 := Try.sizeOf3
  have z9 := Try.sizeOf9
  have a3 := Try.isAgg3
  have a9 := Try.isAgg9
  rw [run_eql_struct, show (10000 : Nat) = 9999 + 1 from rfl, run_equalIn_agg w 9999 31 _ _ lt_struct lt_held]
  simp only [Program.fieldsOf, Try.underlying31]
  go_simp
  obtain ⟨a1, a2, a3⟩ := x
  obtain ⟨b1, b2, b3⟩ := y
  by_cases h3 : a3 = b3
  · by_cases h1 : a1 = b1 <;> by_cases h2 : a2 = b2 <;> simp [h1, h2, h3]
  · have hb := toList_ne h3
    by_cases h1 : a1 = b1 <;> by_cases h2 : a2 = b2 <;> simp [h1, h2, h3, hb]
theorem lt_neq (x y : Lt) (w : World) : (binOp .neq 31 (.agg #[.int .i64 x.fr, .int .i64 x.to, .string x.body]) (.agg #[.int .i64 y.fr, .int .i64 y.to, .string y.body])).run Try.prog w = .ok (.bool (!decide (x = y))) w := by
  have u3 := Try.underlying3
  have u9 := Try.underlying9
  have z3 := Try.sizeOf3
  have z9 := Try.sizeOf9
  have a3 := Try.isAgg3
  have a9 := Try.isAgg9
  rw [run_neq_struct, show (10000 : Nat) = 9999 + 1 from rfl, run_equalIn_agg w 9999 31 _ _ lt_struct lt_held]
  simp only [Program.fieldsOf, Try.underlying31]
  go_simp
  obtain ⟨a1, a2, a3⟩ := x
  obtain ⟨b1, b2, b3⟩ := y
  by_cases h3 : a3 = b3
  · by_cases h1 : a1 = b1 <;> by_cases h2 : a2 = b2 <;> simp [h1, h2, h3]
  · have hb := toList_ne h3
    by_cases h1 : a1 = b1 <;> by_cases h2 : a2 = b2 <;> simp [h1, h2, h3, hb]

set_option maxHeartbeats 1000000 in
theorem same_yes (w : World) (a b : Option Addr) (c d : Nat) (l : List Lt) (n : Nat) (hn : n ≤ 1000) (ha : Rd w a n l) (hb : Rd w b n l) :
    Calls Try.prog 19 #[.slice a n c, .slice b n d] w fun e w' => e = .returned (.bool true) ∧ ∃ q, w' = w.drewN q := by
  have HA := Lib.hid ha
  have HB := Lib.hid hb
  have HL : Hid (l.length = n) := Lib.hid ha.1
  have hnI : (n : Int) ≤ 1000 := by omega
  have hm := lt_guard
  have hp := lt_held
  clear ha hb
  go_enter Try.func19, Try.ntmps19
  go_wp2
  go_loopw [13] (fun i wz => ∃ k q : Nat, k ≤ n ∧ i = .int .i64 (k : Int) ∧ wz = w.drewN q) (fun i _ => n - (intOf i).toNat)
  case atStart => exact ⟨0, 0, Nat.zero_le _, rfl, rfl⟩
  case round =>
    obtain ⟨k, q, hk, rfl, rfl⟩ := hrel
    by_cases hlt : k < n
    · have hltI : (k : Int) < (n : Int) := by omega
      obtain ⟨x, hx⟩ : ∃ x, l[k]? = some x := ⟨_, List.getElem?_eq_getElem (by have := HL.out; omega)⟩
      obtain ⟨b1, o1, rfl, _, c1, c2, c3⟩ := HA.out.at hx
      obtain ⟨b2, o2, rfl, _, d1, d2, d3⟩ := HB.out.at hx
      have HX := Lib.hid hx
      clear hx
      go_wp2
      go_quiet (fail)
      go_wp2
      go_roundw
      case rel => exact ⟨k + 1, q + nq, by omega, by go_num, by simp⟩
      case measure => simp [intOf]; omega
    · have hkl : k = n := by omega
      subst hkl
      clear hlt
      go_wp2
      go_ret
      exact ⟨rfl, q, rfl⟩
end Go.Proofs.Ythbgabmmfokioaa.Nt
