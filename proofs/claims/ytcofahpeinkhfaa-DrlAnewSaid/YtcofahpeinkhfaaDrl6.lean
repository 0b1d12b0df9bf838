/-
  What Dead, Fuse, Has, Blocks, Row and Count tell of a list whose marks are known.
-/
import Derived.Test.YtcofahpeinkhfaaDrl5
import Derived.Test.YtcofahpeinkhfaaOpenB
namespace Go.Proofs.Ytcofahpeinkhfaa
open Go.RowKit
set_option linter.unusedVariables false
set_option linter.unusedSimpArgs false
set_option maxRecDepth 20000

variable {dB sB mB n : Nat} {d : M.Dv}

theorem ldead_any (w : World) (h : DevAt w dB sB mB n d) (v : Bool) (hv : d.dead = v) : Calls Try.prog 14 #[.pointer (some ⟨dB, 0, none⟩)] w fun e w' => e = .returned (.bool v) ∧ w = w' := by
  have h1 := h.dead
  rw [hv] at h1
  clear h hv
  go_enter Try.func14, Try.ntmps14
  go_wp2
  go_ret
  exact ⟨rfl, rfl⟩

theorem fuse_ld (w : World) {lB cB a b bl : Nat} {c : M.Cl} (h : LD w dB sB mB n d lB cB a b bl c) (k : Int) (hk1 : -9223372036854775808 ≤ k) (hk2 : k ≤ 9223372036854775807) :
    Calls Try.prog 13 #[.pointer (some ⟨dB, 0, none⟩), .int .i64 k] w fun e w' => e = .returned (.tuple #[]) ∧ LD w' dB sB mB n (M.fuseD d k) lB cB a b bl c ∧ But [dB] w w' := by
  refine (fuse_any w h.dev k hk1 hk2).mono ?_
  rintro e w' ⟨rfl, hd, hb⟩
  exact ⟨rfl, ⟨hd, h.cel.but hb (by have := h.cd; simp; omega), h.li.but hb (by have := h.ld; simp; omega), h.cd, h.ld, h.o1, h.gn, h.tx, h.bl1, h.ab⟩, hb⟩

/-- has, where one region is marked -/
theorem has1 (w : World) {lB cB a b bl : Nat} {c : M.Cl} (H : LF w dB sB mB n d lB cB a b bl c) {q : Nat} (hm : D.marks bl c.text = B.M.put 0 q) (i : Int) (v : Bool) (hv : (decide (0 ≤ i ∧ i < (bl : Int)) && decide (q = i.toNat / 4)) = v) :
    Calls Try.prog 11 #[.pointer (some ⟨lB, 0, none⟩), .int .i64 i] w fun e w' => e = .returned (.bool v) ∧ Below w.heap.size w w' := by
  have := lhas_any w H.ld.li H.ld.cel H.ld.bl1 H.ld.tx i
  rw [hm] at this
  have e : D.has bl (B.M.put 0 q) i = v := by
    rw [← hv]; unfold D.has
    rw [B.M.put_bit, Nat.zero_testBit, Bool.false_or]
  rwa [e] at this
theorem blocksN (w : World) {lB cB a b bl : Nat} {c : M.Cl} (H : LD w dB sB mB n d lB cB a b bl c) {m k : Nat} (hm : D.marks bl c.text = m) (hk : (D.blocks bl m).length = k) :
    Calls Try.prog 10 #[.pointer (some ⟨lB, 0, none⟩)] w fun e w' => ∃ x cap, e = .returned (.slice x k cap) ∧ Below w.heap.size w w' := by
  refine (blocks_any w H.li H.cel H.bl1 H.tx).mono ?_
  rw [hm, hk]
  rintro e w' ⟨x, cap, rfl, _, hb⟩
  exact ⟨x, cap, rfl, hb⟩
theorem rowN (w : World) {lB cB a b bl : Nat} {c : M.Cl} (H : LD w dB sB mB n d lB cB a b bl c) {m : Nat} (hm : D.marks bl c.text = m) :
    Calls Try.prog 15 #[.pointer (some ⟨lB, 0, none⟩)] w fun e w' => e = .returned (.agg #[.int .i64 (D.regs bl : Int), .int .u64 (m : Int)]) ∧ Below w.heap.size w w' := by
  refine (row_any w H.li H.cel H.bl1 H.tx).mono ?_
  rw [hm]
  exact fun e w' h => h
theorem countN (w : World) {g m k : Nat} (hg : g ≤ 64) (hm : m < 2 ^ g) (hk : (B.M.all g m).length = k) :
    Calls Try.prog 16 #[.agg #[.int .i64 (g : Int), .int .u64 (m : Int)]] w fun e w' => e = .returned (.int .i64 (k : Int)) ∧ Below w.heap.size w w' := by
  have := B.count_any g m w hg hm
  rw [hk] at this
  exact this
theorem row0 (w : World) {lB cB a b bl : Nat} {c : M.Cl} (H : LD w dB sB mB n d lB cB a b bl c) (hm : D.marks bl c.text = 0) :
    Calls Try.prog 15 #[.pointer (some ⟨lB, 0, none⟩)] w fun e w' => e = .returned (.agg #[.int .i64 (D.regs bl : Int), .int .u64 0]) ∧ Below w.heap.size w w' := rowN w H hm
theorem count0 (w : World) {g : Nat} (hg : g ≤ 64) :
    Calls Try.prog 16 #[.agg #[.int .i64 (g : Int), .int .u64 0]] w fun e w' => e = .returned (.int .i64 0) ∧ Below w.heap.size w w' := countN w (m := 0) hg (Nat.two_pow_pos _) (by rw [B.M.all_none]; rfl)
theorem LF.fused {w : World} {lB cB a b bl : Nat} {c : M.Cl} {d' : M.Dv} (h : LF w dB sB mB n d lB cB a b bl c) {w' : World} (hl : LD w' dB sB mB n d' lB cB a b bl c) (h1 : d'.fuse = -1) (h2 : d'.dead = d.dead) (h3 : ∀ i, M.seen d' i = M.seen d i) : LF w' dB sB mB n d' lB cB a b bl c :=
  ⟨hl, ⟨h1, by rw [h2]; exact h.fr.2⟩, by rw [h3, h3]; exact h.fnd, h.an⟩
/-- LF, said over a list of blocks that a call wrote -/
theorem LF.up {w0 w w' : World} (hb : Below w0.heap.size w0 w) {l : List Nat} (hu : But l w w') (hl : ∀ x ∈ l, w0.heap.size ≤ x) : Below w0.heap.size w0 w' := hb.trans (hu.to_below hl hb.size)
theorem open01 {n : Nat} {d : M.Dv} (w : World) (h : DevAt w dB sB mB n d) (hn : 1 < n) (hf : Free d) (bl : Nat) (hbl : 1 ≤ bl ∧ bl ≤ 32) :
    Calls Try.prog 8 #[.pointer (some ⟨dB, 0, none⟩), .int .i64 0, .int .i64 1, .int .i64 (bl : Int)] w fun e w' => ∃ lB cB, e = .returned (.tuple #[.pointer (some ⟨lB, 0, none⟩), .int .i64 0]) ∧ w.heap.size ≤ cB ∧ w.heap.size ≤ lB ∧ lB ≠ cB ∧
      LF w' dB sB mB n d lB cB 0 1 bl (M.found (M.rdS (M.seen d 0)) (M.rdS (M.seen d 1))) ∧ Below w.heap.size w w' :=
  lopen_free w h hf 0 1 (by omega) (by omega) (by omega) bl hbl
theorem open23 {n : Nat} {d : M.Dv} (w : World) (h : DevAt w dB sB mB n d) (hn : 3 < n) (hf : Free d) (bl : Nat) (hbl : 1 ≤ bl ∧ bl ≤ 32) :
    Calls Try.prog 8 #[.pointer (some ⟨dB, 0, none⟩), .int .i64 2, .int .i64 3, .int .i64 (bl : Int)] w fun e w' => ∃ lB cB, e = .returned (.tuple #[.pointer (some ⟨lB, 0, none⟩), .int .i64 0]) ∧ w.heap.size ≤ cB ∧ w.heap.size ≤ lB ∧ lB ≠ cB ∧
      LF w' dB sB mB n d lB cB 2 3 bl (M.found (M.rdS (M.seen d 2)) (M.rdS (M.seen d 3))) ∧ Below w.heap.size w w' :=
  lopen_free w h hf 2 3 (by omega) (by omega) (by omega) bl hbl
end Go.Proofs.Ytcofahpeinkhfaa
