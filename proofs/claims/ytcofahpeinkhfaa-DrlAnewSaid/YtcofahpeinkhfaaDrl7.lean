/-
  Which blocks are told, as rows; two lists of numbers are compared.
-/
import Derived.Test.YtcofahpeinkhfaaDrl6
import Derived.BigQuiet
namespace Go.Proofs.Ytcofahpeinkhfaa
open Go.RowKit Go.Maps
set_option linter.unusedVariables false
set_option linter.unusedSimpArgs false
set_option maxRecDepth 20000

theorem row_nat {w : World} {a : Option Addr} {m c : Nat} {l : List Nat} (h : B.Row w a m c (B.ints l)) {k : Nat} {x : Nat} (hx : l[k]? = some x) : ∃ b off, a = some ⟨b, off, none⟩ ∧ b < w.heap.size ∧ ∀ w', Below w.heap.size w w' → w'.cell? ⟨b, off + k, none⟩ = some (.int .i64 (x : Int)) := by
  have hk := (List.getElem?_eq_some_iff.1 hx).1
  obtain ⟨h1, h2, h3, h4⟩ := h
  have hl : (B.ints l).length = l.length := B.ints_length l
  rcases h4 with h4 | ⟨b, off, ha, hb, hc⟩
  · rw [h4] at hl; simp at hl; omega
  · refine ⟨b, off, ha, hb, fun w' hw => ?_⟩
    rw [hw.cell (by exact hb), hc k (by omega)]
    simp [B.ints, hx]

set_option maxHeartbeats 1000000 in
theorem ints_nat (w : World) (a1 : Option Addr) (c1 : Nat) (a2 : Option Addr) (c2 : Nat) (m : Nat) (l : List Nat) (h1 : B.Row w a1 m c1 (B.ints l)) (h2 : B.Row w a2 m c2 (B.ints l)) (hm : m ≤ 1000) :
    Calls Try.prog 18 #[.slice a1 m c1, .slice a2 m c2] w fun e w' => e = .returned (.bool true) ∧ Below w.heap.size w w' := by
  have hml : m = l.length := by rw [← h1.1]; exact B.ints_length l
  have H1 := Lib.hid h1
  have H2 := Lib.hid h2
  have Hml := Lib.hid hml
  clear h1 h2 hml
  go_enter Try.func18, Try.ntmps18
  go_wp2_with fail
  have HB0 := Lib.hid (Below.refl w.heap.size w)
  go_loopw [13] (fun t wr => ∃ k : Nat, k ≤ m ∧ t = .int .i64 k ∧ Below w.heap.size w wr) (fun t _ => m - (RowKit.intOf t).toNat)
  case atStart => exact ⟨0, by omega, rfl, HB0.out⟩
  case round =>
    obtain ⟨k, hk, rfl, hbw⟩ := hrel
    have HBw := Lib.hid hbw
    clear hbw HB0
    have hk0 : (0 : Int) ≤ (k : Int) := by omega
    by_cases hke : k = m
    · subst hke
      go_wp2_with fail
      go_ret
      exact ⟨rfl, HBw.out⟩
    · have hlt : (k : Int) < (m : Int) := by omega
      obtain ⟨x, hx⟩ : ∃ x, l[k]? = some x := ⟨_, List.getElem?_eq_getElem (by have := Hml.out; omega)⟩
      obtain ⟨b1, o1, rfl, hb1, hc1⟩ := row_nat H1.out hx
      obtain ⟨b2, o2, rfl, hb2, hc2⟩ := row_nat H2.out hx
      have hc1 := hc1 _ HBw.out
      have hc2 := hc2 _ HBw.out
      clear hx hke hb1 hb2
      go_wp2_with fail
      go_quiet (fail)
      have HBq : Hid (Below w.heap.size w (wr.drewN nq)) := Lib.hid ⟨HBw.out.os, HBw.out.tape, HBw.out.output, HBw.out.size, HBw.out.block⟩
      go_wp2_with fail
      go_roundw
      case rel => exact ⟨k + 1, by omega, by go_num, HBq.out⟩
      case measure => simp [RowKit.intOf]; omega

/-- which blocks are told -/
theorem blocksC (w : World) {lB cB dB a b bl : Nat} {c : M.Cl} (hl : ListAt w lB cB bl) (hc : CellAt w cB dB a b c) (hb : 1 ≤ bl ∧ bl ≤ 32) (ht : c.text.size ≤ 100) {m : Nat} (hm : D.marks bl c.text = m) {k : Nat} (hk : (D.blocks bl m).length = k) :
    Calls Try.prog 10 #[.pointer (some ⟨lB, 0, none⟩)] w fun e w' => ∃ x cap, e = .returned (.slice x k cap) ∧ B.Row w' x k cap (B.ints (D.blocks bl m)) ∧ Below w.heap.size w w' := by
  refine (blocks_any w hl hc hb ht).mono ?_
  rw [hm, hk]
  rintro e w' ⟨x, cap, rfl, ho, hb⟩
  exact ⟨x, cap, rfl, (B.own_row ho).1, hb⟩
theorem rowC (w : World) {lB cB dB a b bl : Nat} {c : M.Cl} (hl : ListAt w lB cB bl) (hc : CellAt w cB dB a b c) (hb : 1 ≤ bl ∧ bl ≤ 32) (ht : c.text.size ≤ 100) {m : Nat} (hm : D.marks bl c.text = m) :
    Calls Try.prog 15 #[.pointer (some ⟨lB, 0, none⟩)] w fun e w' => e = .returned (.agg #[.int .i64 (D.regs bl : Int), .int .u64 (m : Int)]) ∧ Below w.heap.size w w' := by
  refine (row_any w hl hc hb ht).mono ?_
  rw [hm]
  exact fun e w' h => h
end Go.Proofs.Ytcofahpeinkhfaa
