/-
  A list of marked regions in memory; what its small methods tell.
-/
import Derived.Test.YtcofahpeinkhfaaGreatCel7
import Derived.Test.YtcofahpeinkhfaaGreatBits4
namespace Go.Proofs.YtcofahpeinkhfaaGreat
open Go.RowKit
set_option linter.unusedVariables false
set_option linter.unusedSimpArgs false
set_option maxRecDepth 20000

variable {dB sB mB n : Nat} {d : M.Dv}

namespace D
/-- how many regions bl blocks have -/
def regs (bl : Nat) : Nat := (bl - 1) / 4 + 1
/-- the row that a cell's text says -/
def marks (bl : Nat) (t : ByteArray) : Nat := if B.M.loadE t.data.toList = 0 ∧ B.M.loadN t.data.toList = regs bl then B.M.loadM t.data.toList else 0
def has (bl m : Nat) (i : Int) : Bool := decide (0 ≤ i ∧ i < (bl : Int)) && m.testBit (i.toNat / 4)
def blocks (bl m : Nat) : List Nat := (List.range bl).filter fun k => m.testBit (k / 4)

theorem regs_le {bl : Nat} (h : bl ≤ 32) : regs bl ≤ 8 := by unfold regs; omega
theorem marks_lt (bl : Nat) (t : ByteArray) : marks bl t < 2 ^ regs bl := by
  unfold marks
  split
  · rename_i h; rw [← h.2]; exact (B.M.load_ok _).2
  · exact Nat.two_pow_pos _
theorem reg_lt {bl k : Nat} (h : k < bl) : k / 4 < regs bl := by unfold regs; omega
theorem blocks_len (bl m : Nat) : (blocks bl m).length ≤ bl := by
  have := List.length_filter_le (fun k => m.testBit (k / 4)) (List.range bl)
  rwa [List.length_range] at this
theorem blocks_yes {k m : Nat} (h : m.testBit (k / 4) = true) : blocks (k + 1) m = blocks k m ++ [k] := by simp [blocks, List.range_succ, List.filter_append, h]
theorem blocks_no {k m : Nat} (h : m.testBit (k / 4) = false) : blocks (k + 1) m = blocks k m := by simp [blocks, List.range_succ, List.filter_append, h]
theorem blocks_none (bl : Nat) : blocks bl 0 = [] := by simp [blocks]
theorem has_nat {bl m k : Nat} (h : k < bl) : has bl m (k : Int) = m.testBit (k / 4) := by
  unfold has
  rw [decide_eq_true (show 0 ≤ (k : Int) ∧ (k : Int) < (bl : Int) from ⟨by omega, by omega⟩)]
  simp
theorem has_out {bl m : Nat} {i : Int} (h : ¬ (0 ≤ i ∧ i < (bl : Int))) : has bl m i = false := by
  unfold has; rw [decide_eq_false h]; rfl
/-- the text of a row says that row -/
theorem marks_txt {bl m : Nat} (hb : bl ≤ 32) (hm : m < 2 ^ regs bl) : marks bl (str (B.M.txt (regs bl) m)) = m := by
  have h := B.M.load_txt (n := regs bl) (m := m) (by have := regs_le hb; omega) hm
  have e : (str (B.M.txt (regs bl) m)).data.toList = B.M.txt (regs bl) m := by simp [str]
  unfold marks
  rw [e]
  unfold B.M.loadE B.M.loadN B.M.loadM
  rw [h]
  simp
theorem txt_small {bl m : Nat} (hb : bl ≤ 32) : (str (B.M.txt (regs bl) m)).size ≤ 100 := by
  have := regs_le hb
  have e : (str (B.M.txt (regs bl) m)).size = (B.M.txt (regs bl) m).length := by simp [str, ByteArray.size]
  rw [e, B.M.txt_len]
  unfold B.M.size
  omega
theorem marks_empty (bl : Nat) : marks bl ⟨#[]⟩ = 0 := by unfold marks; split <;> rfl
end D

/-- a list in memory -/
structure ListAt (w : World) (lB cB bl : Nat) : Prop where
  q0 : w.cell? ⟨lB, 0, none⟩ = some (.pointer (some ⟨cB, 0, none⟩))
  q1 : w.cell? ⟨lB, 1, none⟩ = some (.int .i64 (bl : Int))

theorem ListAt.lt {w : World} {lB cB bl : Nat} (h : ListAt w lB cB bl) : lB < w.heap.size := World.block_lt_of_cell? w _ h.q0
theorem ListAt.of_block {w w' : World} {lB cB bl : Nat} (h : ListAt w lB cB bl) (hb : w'.heap[lB]? = w.heap[lB]?) : ListAt w' lB cB bl where
  q0 := by rw [World.cell?_of_block (w := w) (a := ⟨lB, 0, none⟩) hb]; exact h.q0
  q1 := by rw [World.cell?_of_block (w := w) (a := ⟨lB, 1, none⟩) hb]; exact h.q1
theorem ListAt.but {w w' : World} {lB cB bl : Nat} (h : ListAt w lB cB bl) {l : List Nat} (hb : But l w w') (hn : lB ∉ l) : ListAt w' lB cB bl := h.of_block (hb.block _ h.lt hn)
theorem ListAt.below {w w' : World} {lB cB bl B : Nat} (h : ListAt w lB cB bl) (hb : Below B w w') (hB : lB < B) : ListAt w' lB cB bl := h.of_block (hb.block _ hB)
theorem list_new (w : World) (cB bl : Nat) : ListAt (w.alloc (.cells #[.pointer (some ⟨cB, 0, none⟩), .int .i64 (bl : Int)] 78)) w.heap.size cB bl where
  q0 := by rw [World.cell?_alloc_mark]; rfl
  q1 := by rw [World.cell?_alloc_mark]; rfl

theorem region_any (x : Nat) (w : World) (hx : x ≤ 1000000) : Calls Tryz.prog 38 #[.int .i64 (x : Int)] w fun e w' => e = .returned (.int .i64 ((x / 4 : Nat) : Int)) ∧ w = w' := by
  have h1 : (x : Int) ≤ 1000000 := by omega
  go_enter Tryz.func38, Tryz.ntmps38
  go_wp2
  go_ret
  exact ⟨by simp, rfl⟩

theorem lreach_any (w : World) {lB cB bl : Nat} (h : ListAt w lB cB bl) (i : Int) : Calls Tryz.prog 36 #[.pointer (some ⟨lB, 0, none⟩), .int .i64 i] w fun e w' => e = .returned (.bool (decide (0 ≤ i ∧ i < (bl : Int)))) ∧ w = w' := by
  obtain ⟨q0, q1⟩ := h
  by_cases h1 : 0 ≤ i
  · by_cases h2 : i < (bl : Int)
    · rw [decide_eq_true (show 0 ≤ i ∧ i < (bl : Int) from ⟨h1, h2⟩)]
      go_enter Tryz.func36, Tryz.ntmps36
      go_wp2
      go_ret
      exact ⟨rfl, rfl⟩
    · rw [decide_eq_false (show ¬ (0 ≤ i ∧ i < (bl : Int)) from fun h => h2 h.2)]
      go_enter Tryz.func36, Tryz.ntmps36
      go_wp2
      go_ret
      exact ⟨rfl, rfl⟩
  · rw [decide_eq_false (show ¬ (0 ≤ i ∧ i < (bl : Int)) from fun h => h1 h.1)]
    go_enter Tryz.func36, Tryz.ntmps36
    go_wp2
    go_ret
    exact ⟨rfl, rfl⟩

theorem regions_any (w : World) {lB cB bl : Nat} (h : ListAt w lB cB bl) (hb : 1 ≤ bl ∧ bl ≤ 32) : Calls Tryz.prog 44 #[.pointer (some ⟨lB, 0, none⟩)] w fun e w' => e = .returned (.int .i64 (D.regs bl : Int)) ∧ w = w' := by
  obtain ⟨q0, q1⟩ := h
  obtain ⟨k, rfl⟩ : ∃ k, bl = k + 1 := ⟨bl - 1, by omega⟩
  have HR := Lib.hid (region_any k w (by omega))
  have hk : (k : Int) ≤ 31 := by omega
  have hs : ((k + 1 : Nat) : Int) = (k : Int) + 1 := by omega
  rw [hs] at q1
  clear hb hs q0
  go_enter Tryz.func44, Tryz.ntmps44
  go_wp2_with (go_at_call 38; with_reducible refine HR.out.mono ?_; rintro e w1 ⟨rfl, rfl⟩)
  go_ret
  exact ⟨by unfold D.regs; simp, rfl⟩
end Go.Proofs.YtcofahpeinkhfaaGreat
