/-
  Rows of strings that are the same; a log that is opened for the first time, once more, or can't be; the calls whose answers the document fixes.
-/
import Derived.Test.YtmcalgnpinolmaaGreatLog11
namespace Go.Proofs.YtmcalgnpinolmaaGreat
open Go.RowKit
set_option linter.unusedVariables false
set_option linter.unusedSimpArgs false
set_option maxRecDepth 20000

variable {dB sB mB n : Nat} {d : M.Dv} {lB rb cB first N a b : Nat} {c : M.Cl} {L : M.Lg} {K : Int}

/-- Open, where the ring has one of the cell's sectors -/
theorem open_bad (w : World) (hd : DevAt w dB sB mB n d) (a b : Nat) (ha : a ≤ 1000) (hb : b ≤ 1000) (hfn : first + N ≤ n) (hN : 2 ≤ N) (haR : ¬ (first ≤ a ∧ a < first + N)) (hbR : first ≤ b ∧ b < first + N) :
    Calls Tryz.prog 41 #[.pointer (some ⟨dB, 0, none⟩), .int .i64 (first : Int), .int .i64 (N : Int), .int .i64 (a : Int), .int .i64 (b : Int)] w fun e w' => e = .returned (.tuple #[.pointer none, .int .i64 1]) ∧ Below w.heap.size w w' := by
  have hn := hd.n512
  have HSec := Lib.hid (sectors_any w hd)
  have e1 : (2 : Int) ≤ (N : Int) := by omega
  have e2 : (first : Int) + (N : Int) ≤ (n : Int) := by omega
  have e3 : (n : Int) ≤ 512 := by omega
  have e4 : (0 : Int) ≤ (first : Int) := by omega
  have d1 : decide ((N : Int) < 2) = false := by simp; omega
  have d2 : decide ((first : Int) < 0) = false := by simp
  have d3 : decide ((n : Int) - (first : Int) < (N : Int)) = false := by simp; omega
  have HB0 : Hid (Below w.heap.size w (w.alloc (.cells #[.pointer (some ⟨dB, 0, none⟩), .int .i64 (first : Int), .int .i64 (N : Int), .pointer none, .int .i64 0, .int .i64 0, .int .i64 0, .slice none 0 0] 131))) := Lib.hid ((Below.refl _ _).alloc (Nat.le_refl _) _)
  have HA : Hid (∀ w', LogC w' w.heap.size dB first N (.pointer none) 0 0 0 (.slice none 0 0) → Calls Tryz.prog 57 #[.pointer (some ⟨w.heap.size, 0, none⟩), .int .i64 (a : Int)] w' fun e w'' => e = .returned (.bool false) ∧ LogC w'' w.heap.size dB first N (.pointer none) 0 0 0 (.slice none 0 0) ∧ Below w'.heap.size w' w'') := Lib.hid fun w' g => by
    have := has_any w' g (by omega) (by omega) a (by omega)
    rw [decide_eq_false haR] at this
    refine this.mono ?_
    rintro e w'' ⟨rfl, j, rfl⟩
    exact ⟨rfl, g.of_block rfl, below_drewN _ _ _⟩
  have HBb : Hid (∀ w', LogC w' w.heap.size dB first N (.pointer none) 0 0 0 (.slice none 0 0) → Calls Tryz.prog 57 #[.pointer (some ⟨w.heap.size, 0, none⟩), .int .i64 (b : Int)] w' fun e w'' => e = .returned (.bool true) ∧ Below w'.heap.size w' w'') := Lib.hid fun w' g => by
    have := has_any w' g (by omega) (by omega) b (by omega)
    rw [decide_eq_true hbR] at this
    refine this.mono ?_
    rintro e w'' ⟨rfl, j, rfl⟩
    exact ⟨rfl, below_drewN _ _ _⟩
  have HG0 := Lib.hid (logc_new w dB first N)
  clear hd ha hb hfn hN haR hbR hn
  go_enter Tryz.func41, Tryz.ntmps41
  go_wp2_with (first
    | (go_at_call 56; with_reducible refine HSec.out.mono ?_; rintro e w1 ⟨rfl, rfl⟩)
    | (go_at_call 57; with_reducible refine (HA.out _ HG0.out).mono ?_; rintro e w1 ⟨rfl, hg1, hb1⟩; have HG1 := Lib.hid hg1; have HB1 : Hid (Below w.heap.size w w1) := Lib.hid (HB0.out.trans (hb1.mono (by simp))); clear hg1 hb1)
    | (go_at_call 57; with_reducible refine (HBb.out _ HG1.out).mono ?_; rintro e w2 ⟨rfl, hb2⟩; have HB2 : Hid (Below w.heap.size w w2) := Lib.hid (HB1.out.trans (hb2.mono HB1.out.size)); clear hb2))
  go_ret2
  exact ⟨rfl, HB2.out⟩

/-- Open, for the first time -/
theorem open_new (w : World) (hd : DevAt w dB sB mB n d) (hf : Free d) (hgeo : Geo n first N a b) (hz : ∀ j : Nat, (first ≤ j ∧ j < first + N) ∨ j = a ∨ j = b → M.seen d j = M.zero) :
    Calls Tryz.prog 41 #[.pointer (some ⟨dB, 0, none⟩), .int .i64 (first : Int), .int .i64 (N : Int), .int .i64 (a : Int), .int .i64 (b : Int)] w fun e w' => ∃ lB cB rb d' c', e = .returned (.tuple #[.pointer (some ⟨lB, 0, none⟩), .int .i64 0]) ∧
      DevAt w' dB sB mB n d' ∧ Free d' ∧ LG w' dB sB mB n d' lB rb cB first N a b c' ⟨1, 1, 0, []⟩ 2 ∧ (w.heap.size ≤ lB ∧ w.heap.size ≤ cB ∧ w.heap.size ≤ rb) ∧ But [dB, sB, mB] w w' ∧ (∀ j : Nat, j ≠ a → j ≠ b → M.seen d' j = M.seen d j) ∧ ∀ k, d'.P k = none := by
  have hc : M.found (M.rdS (M.seen d a)) (M.rdS (M.seen d b)) = M.none0 := by rw [hz a (.inr (.inl rfl)), hz b (.inr (.inr rfl))]; exact found_zero
  have := open_lg (K := 1) (L := M.fresh0) (c := M.none0) w hd hf hgeo (by omega) (M.Ring.fresh (by have := hgeo.n2; omega) (fun p hp => by rw [hz _ (.inl ⟨by omega, by omega⟩)]; exact M.rdL_zero)) hc.symm (.inr ⟨rfl, rfl, rfl, rfl⟩) (by decide) (by decide) (by decide)
  exact this

/-- Open, once more -/
theorem open_again (w : World) (hd : DevAt w dB sB mB n d) (hf : Free d) (hgeo : Geo n first N a b) (hK : K ≤ 1000000000) (hg : M.Good (M.seen d) K first N a b c L) :
    Calls Tryz.prog 41 #[.pointer (some ⟨dB, 0, none⟩), .int .i64 (first : Int), .int .i64 (N : Int), .int .i64 (a : Int), .int .i64 (b : Int)] w fun e w' => ∃ lB cB rb d' c', e = .returned (.tuple #[.pointer (some ⟨lB, 0, none⟩), .int .i64 0]) ∧
      DevAt w' dB sB mB n d' ∧ Free d' ∧ LG w' dB sB mB n d' lB rb cB first N a b c' L.anew (K + 1) ∧ (w.heap.size ≤ lB ∧ w.heap.size ≤ cB ∧ w.heap.size ≤ rb) ∧ But [dB, sB, mB] w w' ∧ (∀ j : Nat, j ≠ a → j ≠ b → M.seen d' j = M.seen d j) ∧ ∀ k, d'.P k = none :=
  open_lg w hd hf hgeo hK hg.ring.toO hg.cell (.inl hg.text) hg.gen hg.tail hg.time
end Go.Proofs.YtmcalgnpinolmaaGreat
