/-
  A log's cells in memory; what its small methods tell.
-/
import Derived.Test.YtmcalgnpinolmaaGreatLdel
namespace Go.Proofs.YtmcalgnpinolmaaGreat
open Go.RowKit
set_option linter.unusedVariables false
set_option linter.unusedSimpArgs false
set_option maxRecDepth 20000

variable {dB sB mB n : Nat} {d : M.Dv}

/-- a log's own block -/
structure LogC (w : World) (lB dB first n : Nat) (cv : Value) (h t l : Int) (rv : Value) : Prop where
  p0 : w.cell? ⟨lB, 0, none⟩ = some (.pointer (some ⟨dB, 0, none⟩))
  p1 : w.cell? ⟨lB, 1, none⟩ = some (.int .i64 (first : Int))
  p2 : w.cell? ⟨lB, 2, none⟩ = some (.int .i64 (n : Int))
  p3 : w.cell? ⟨lB, 3, none⟩ = some cv
  p4 : w.cell? ⟨lB, 4, none⟩ = some (.int .i64 h)
  p5 : w.cell? ⟨lB, 5, none⟩ = some (.int .i64 t)
  p6 : w.cell? ⟨lB, 6, none⟩ = some (.int .i64 l)
  p7 : w.cell? ⟨lB, 7, none⟩ = some rv
  fz : ∀ o, w.frozen? ⟨lB, o, none⟩ = false

variable {lB first N : Nat} {cv rv : Value} {h t l : Int}

theorem LogC.lt {w : World} (g : LogC w lB dB first N cv h t l rv) : lB < w.heap.size := World.block_lt_of_cell? w _ g.p0
theorem LogC.of_block {w w' : World} (g : LogC w lB dB first N cv h t l rv) (hb : w'.heap[lB]? = w.heap[lB]?) : LogC w' lB dB first N cv h t l rv where
  p0 := by rw [World.cell?_of_block (w := w) (a := ⟨lB, 0, none⟩) hb]; exact g.p0
  p1 := by rw [World.cell?_of_block (w := w) (a := ⟨lB, 1, none⟩) hb]; exact g.p1
  p2 := by rw [World.cell?_of_block (w := w) (a := ⟨lB, 2, none⟩) hb]; exact g.p2
  p3 := by rw [World.cell?_of_block (w := w) (a := ⟨lB, 3, none⟩) hb]; exact g.p3
  p4 := by rw [World.cell?_of_block (w := w) (a := ⟨lB, 4, none⟩) hb]; exact g.p4
  p5 := by rw [World.cell?_of_block (w := w) (a := ⟨lB, 5, none⟩) hb]; exact g.p5
  p6 := by rw [World.cell?_of_block (w := w) (a := ⟨lB, 6, none⟩) hb]; exact g.p6
  p7 := by rw [World.cell?_of_block (w := w) (a := ⟨lB, 7, none⟩) hb]; exact g.p7
  fz := fun o => by rw [World.frozen?_of_block (w := w) (a := ⟨lB, o, none⟩) hb]; exact g.fz o
theorem LogC.but {w w' : World} (g : LogC w lB dB first N cv h t l rv) {q : List Nat} (hb : But q w w') (hn : lB ∉ q) : LogC w' lB dB first N cv h t l rv := g.of_block (hb.block _ g.lt hn)
theorem LogC.below {w w' : World} (g : LogC w lB dB first N cv h t l rv) {B : Nat} (hb : Below B w w') (hB : lB < B) : LogC w' lB dB first N cv h t l rv := g.of_block (hb.block _ hB)

theorem logc_new (w : World) (dB first N : Nat) : LogC (w.alloc (.cells #[.pointer (some ⟨dB, 0, none⟩), .int .i64 (first : Int), .int .i64 (N : Int), .pointer none, .int .i64 0, .int .i64 0, .int .i64 0, .slice none 0 0] 131)) w.heap.size dB first N (.pointer none) 0 0 0 (.slice none 0 0) where
  p0 := by rw [World.cell?_alloc_mark]; rfl
  p1 := by rw [World.cell?_alloc_mark]; rfl
  p2 := by rw [World.cell?_alloc_mark]; rfl
  p3 := by rw [World.cell?_alloc_mark]; rfl
  p4 := by rw [World.cell?_alloc_mark]; rfl
  p5 := by rw [World.cell?_alloc_mark]; rfl
  p6 := by rw [World.cell?_alloc_mark]; rfl
  p7 := by rw [World.cell?_alloc_mark]; rfl
  fz := fun o => World.frozen?_alloc_at _ _ _ _ rfl

/-- one cell turned -/
theorem LogC.setR {w : World} (g : LogC w lB dB first N cv h t l rv) (v : Value) : LogC (w.setCell ⟨lB, 7, none⟩ v) lB dB first N cv h t l v where
  p0 := by rw [World.cell?_setCell_other _ _ _ _ (by simp)]; exact g.p0
  p1 := by rw [World.cell?_setCell_other _ _ _ _ (by simp)]; exact g.p1
  p2 := by rw [World.cell?_setCell_other _ _ _ _ (by simp)]; exact g.p2
  p3 := by rw [World.cell?_setCell_other _ _ _ _ (by simp)]; exact g.p3
  p4 := by rw [World.cell?_setCell_other _ _ _ _ (by simp)]; exact g.p4
  p5 := by rw [World.cell?_setCell_other _ _ _ _ (by simp)]; exact g.p5
  p6 := by rw [World.cell?_setCell_other _ _ _ _ (by simp)]; exact g.p6
  p7 := World.cell?_setCell_same _ _ _ g.p7
  fz := fun o => by rw [World.frozen?_setCell]; exact g.fz o
theorem LogC.setC {w : World} (g : LogC w lB dB first N cv h t l rv) (v : Value) : LogC (w.setCell ⟨lB, 3, none⟩ v) lB dB first N v h t l rv where
  p0 := by rw [World.cell?_setCell_other _ _ _ _ (by simp)]; exact g.p0
  p1 := by rw [World.cell?_setCell_other _ _ _ _ (by simp)]; exact g.p1
  p2 := by rw [World.cell?_setCell_other _ _ _ _ (by simp)]; exact g.p2
  p3 := World.cell?_setCell_same _ _ _ g.p3
  p4 := by rw [World.cell?_setCell_other _ _ _ _ (by simp)]; exact g.p4
  p5 := by rw [World.cell?_setCell_other _ _ _ _ (by simp)]; exact g.p5
  p6 := by rw [World.cell?_setCell_other _ _ _ _ (by simp)]; exact g.p6
  p7 := by rw [World.cell?_setCell_other _ _ _ _ (by simp)]; exact g.p7
  fz := fun o => by rw [World.frozen?_setCell]; exact g.fz o
/-- the state turned -/
theorem LogC.setS {w : World} (g : LogC w lB dB first N cv h t l rv) (h' t' l' : Int) : LogC (((w.setCell ⟨lB, 4, none⟩ (.int .i64 h')).setCell ⟨lB, 5, none⟩ (.int .i64 t')).setCell ⟨lB, 6, none⟩ (.int .i64 l')) lB dB first N cv h' t' l' rv where
  p0 := by rw [World.cell?_setCell_other _ _ _ _ (by simp), World.cell?_setCell_other _ _ _ _ (by simp), World.cell?_setCell_other _ _ _ _ (by simp)]; exact g.p0
  p1 := by rw [World.cell?_setCell_other _ _ _ _ (by simp), World.cell?_setCell_other _ _ _ _ (by simp), World.cell?_setCell_other _ _ _ _ (by simp)]; exact g.p1
  p2 := by rw [World.cell?_setCell_other _ _ _ _ (by simp), World.cell?_setCell_other _ _ _ _ (by simp), World.cell?_setCell_other _ _ _ _ (by simp)]; exact g.p2
  p3 := by rw [World.cell?_setCell_other _ _ _ _ (by simp), World.cell?_setCell_other _ _ _ _ (by simp), World.cell?_setCell_other _ _ _ _ (by simp)]; exact g.p3
  p4 := by
    rw [World.cell?_setCell_other _ _ _ _ (by simp), World.cell?_setCell_other _ _ _ _ (by simp)]
    exact World.cell?_setCell_same _ _ _ g.p4
  p5 := by
    rw [World.cell?_setCell_other _ _ _ _ (by simp)]
    exact World.cell?_setCell_same _ _ _ (show _ = some (Value.int .i64 t) by rw [World.cell?_setCell_other _ _ _ _ (by simp)]; exact g.p5)
  p6 := World.cell?_setCell_same _ _ _ (show _ = some (Value.int .i64 l) by rw [World.cell?_setCell_other _ _ _ _ (by simp), World.cell?_setCell_other _ _ _ _ (by simp)]; exact g.p6)
  p7 := by rw [World.cell?_setCell_other _ _ _ _ (by simp), World.cell?_setCell_other _ _ _ _ (by simp), World.cell?_setCell_other _ _ _ _ (by simp)]; exact g.p7
  fz := fun o => by rw [World.frozen?_setCell, World.frozen?_setCell, World.frozen?_setCell]; exact g.fz o

/-! what the small methods tell -/
theorem head_any (w : World) (g : LogC w lB dB first N cv h t l rv) : Calls Tryz.prog 45 #[.pointer (some ⟨lB, 0, none⟩)] w fun e w' => e = .returned (.int .i64 h) ∧ w = w' := by
  have h4 := g.p4
  clear g
  go_enter Tryz.func45, Tryz.ntmps45
  go_wp2
  go_ret
  exact ⟨rfl, rfl⟩
theorem tail_quiet (w : World) {ra : Option Addr} {k cap : Nat} (g : LogC w lB dB first N cv h t l (.slice ra k cap)) (h1 : 0 ≤ h ∧ h ≤ 4611686018427387904) (h2 : k ≤ 1000) (q : Nat) :
    Calls Tryz.prog 86 #[.pointer (some ⟨lB, 0, none⟩)] (w.drewN q) fun e w' => e = .returned (.int .i64 (h + k)) ∧ ∃ j, w' = w.drewN j := by
  have m4 : (w.drewN q).cell? ⟨lB, 4, none⟩ = some (.int .i64 h) := g.p4
  have m7 : (w.drewN q).cell? ⟨lB, 7, none⟩ = some (.slice ra k cap) := g.p7
  have hD : ∀ j, (w.drewN q).drewN j = w.drewN (q + j) := fun j => by simp [World.drewN, Nat.add_assoc]
  have HD := Lib.hid hD
  obtain ⟨h10, h11⟩ := h1
  have hk : (k : Int) ≤ 1000 := by omega
  have hk0 : (0 : Int) ≤ (k : Int) := by omega
  clear g hD
  generalize w.drewN q = w1 at *
  go_enter Tryz.func86, Tryz.ntmps86
  go_wp2_with fail
  go_quiet (fail)
  go_wp2_with fail
  go_ret
  exact ⟨rfl, _, HD.out _⟩
theorem free_quiet (w : World) {ra : Option Addr} {k cap : Nat} (g : LogC w lB dB first N cv h t l (.slice ra k cap)) (h1 : N ≤ 1000) (h2 : k ≤ 1000) (q : Nat) :
    Calls Tryz.prog 99 #[.pointer (some ⟨lB, 0, none⟩)] (w.drewN q) fun e w' => e = .returned (.int .i64 ((N : Int) - k)) ∧ ∃ j, w' = w.drewN j := by
  have m2 : (w.drewN q).cell? ⟨lB, 2, none⟩ = some (.int .i64 (N : Int)) := g.p2
  have m7 : (w.drewN q).cell? ⟨lB, 7, none⟩ = some (.slice ra k cap) := g.p7
  have hD : ∀ j, (w.drewN q).drewN j = w.drewN (q + j) := fun j => by simp [World.drewN, Nat.add_assoc]
  have HD := Lib.hid hD
  have hk : (k : Int) ≤ 1000 := by omega
  have hk0 : (0 : Int) ≤ (k : Int) := by omega
  have hN : (N : Int) ≤ 1000 := by omega
  have hN0 : (0 : Int) ≤ (N : Int) := by omega
  clear g hD
  generalize w.drewN q = w1 at *
  go_enter Tryz.func99, Tryz.ntmps99
  go_wp2_with fail
  go_quiet (fail)
  go_wp2_with fail
  go_ret
  exact ⟨rfl, _, HD.out _⟩
theorem place_quiet (w : World) (g : LogC w lB dB first N cv h t l rv) (h1 : first ≤ 1000) (h2 : N ≤ 1000) (h3 : 1 ≤ N) (k : Int) (hk : 0 ≤ k ∧ k ≤ 4611686018427387904) (q : Nat) :
    Calls Tryz.prog 85 #[.pointer (some ⟨lB, 0, none⟩), .int .i64 k] (w.drewN q) fun e w' => e = .returned (.int .i64 (M.place first N k : Int)) ∧ ∃ j, w' = w.drewN j := by
  have m1 : (w.drewN q).cell? ⟨lB, 1, none⟩ = some (.int .i64 (first : Int)) := g.p1
  have m2 : (w.drewN q).cell? ⟨lB, 2, none⟩ = some (.int .i64 (N : Int)) := g.p2
  have hD : ∀ j, (w.drewN q).drewN j = w.drewN (q + j) := fun j => by simp [World.drewN, Nat.add_assoc]
  have HD := Lib.hid hD
  have hN : (N : Int) ≤ 1000 := by omega
  have hN0 : (1 : Int) ≤ (N : Int) := by omega
  have hf : (first : Int) ≤ 1000 := by omega
  have hf0 : (0 : Int) ≤ (first : Int) := by omega
  obtain ⟨hk0, hk1⟩ := hk
  have hr0 : 0 ≤ k % (N : Int) := Int.emod_nonneg k (by omega)
  have hr1 : k % (N : Int) < (N : Int) := Int.emod_lt_of_pos k (by omega)
  have hp : (M.place first N k : Int) = (first : Int) + k % (N : Int) := by unfold M.place; omega
  have ht : k.tmod (N : Int) = k % (N : Int) := Int.tmod_eq_emod_of_nonneg hk0
  rw [hp]
  clear g hD hp
  generalize w.drewN q = w1 at *
  go_enter Tryz.func85, Tryz.ntmps85
  go_wp2_with fail
  go_quiet (fail)
  go_wp2_with fail
  go_ret
  exact ⟨rfl, _, HD.out _⟩
theorem has_quiet (w : World) (g : LogC w lB dB first N cv h t l rv) (h1 : first ≤ 1000) (h2 : N ≤ 1000) (i : Nat) (hi : i ≤ 1000) (q : Nat) :
    Calls Tryz.prog 57 #[.pointer (some ⟨lB, 0, none⟩), .int .i64 (i : Int)] (w.drewN q) fun e w' => e = .returned (.bool (decide (first ≤ i ∧ i < first + N))) ∧ ∃ j, w' = w.drewN j := by
  have m1 : (w.drewN q).cell? ⟨lB, 1, none⟩ = some (.int .i64 (first : Int)) := g.p1
  have m2 : (w.drewN q).cell? ⟨lB, 2, none⟩ = some (.int .i64 (N : Int)) := g.p2
  have hD : ∀ j, (w.drewN q).drewN j = w.drewN (q + j) := fun j => by simp [World.drewN, Nat.add_assoc]
  have HD := Lib.hid hD
  have hN : (N : Int) ≤ 1000 := by omega
  have hN0 : (0 : Int) ≤ (N : Int) := by omega
  have hf : (first : Int) ≤ 1000 := by omega
  have hf0 : (0 : Int) ≤ (first : Int) := by omega
  have hiI : (i : Int) ≤ 1000 := by omega
  have hi0 : (0 : Int) ≤ (i : Int) := by omega
  by_cases c1 : first ≤ i
  · have c1I : (first : Int) ≤ (i : Int) := by omega
    by_cases c2 : i < first + N
    · have c2I : (i : Int) < (first : Int) + (N : Int) := by omega
      rw [decide_eq_true (show first ≤ i ∧ i < first + N from ⟨c1, c2⟩)]
      clear g hD c1 c2
      generalize w.drewN q = w1 at *
      go_enter Tryz.func57, Tryz.ntmps57
      go_wp2_with fail
      go_quiet (fail)
      go_wp2_with fail
      go_ret
      exact ⟨rfl, _, HD.out _⟩
    · have c2I : decide ((i : Int) < (first : Int) + (N : Int)) = false := by simp; omega
      rw [decide_eq_false (show ¬ (first ≤ i ∧ i < first + N) from fun z => c2 z.2)]
      clear g hD c1 c2
      generalize w.drewN q = w1 at *
      go_enter Tryz.func57, Tryz.ntmps57
      go_wp2_with fail
      go_quiet (fail)
      go_wp2_with fail
      go_ret
      exact ⟨rfl, _, HD.out _⟩
  · have c1I : decide ((first : Int) ≤ (i : Int)) = false := by simp; omega
    have c1N : decide (first ≤ i) = false := by simp; omega
    rw [decide_eq_false (show ¬ (first ≤ i ∧ i < first + N) from fun z => c1 z.1)]
    clear g hD c1
    generalize w.drewN q = w1 at *
    go_enter Tryz.func57, Tryz.ntmps57
    go_wp2_with fail
    go_quiet (fail)
    go_wp2_with fail
    go_ret
    exact ⟨rfl, _, HD.out _⟩

theorem within_any (w : World) (k low : Int) : Calls Tryz.prog 84 #[.int .i64 k, .int .i64 low] w fun e w' => e = .returned (.bool (decide (low ≤ k ∧ k ≤ 4611686018427387904))) ∧ w = w' := by
  by_cases c1 : low ≤ k
  · by_cases c2 : k ≤ 4611686018427387904
    · rw [decide_eq_true (show low ≤ k ∧ k ≤ 4611686018427387904 from ⟨c1, c2⟩)]
      go_enter Tryz.func84, Tryz.ntmps84
      go_wp2
      go_ret
      exact ⟨rfl, rfl⟩
    · rw [decide_eq_false (show ¬ (low ≤ k ∧ k ≤ 4611686018427387904) from fun z => c2 z.2)]
      go_enter Tryz.func84, Tryz.ntmps84
      go_wp2
      go_ret
      exact ⟨rfl, rfl⟩
  · rw [decide_eq_false (show ¬ (low ≤ k ∧ k ≤ 4611686018427387904) from fun z => c1 z.1)]
    go_enter Tryz.func84, Tryz.ntmps84
    go_wp2
    go_ret
    exact ⟨rfl, rfl⟩

theorem sync_any (w : World) (hd : DevAt w dB sB mB n d) (g : LogC w lB dB first N cv h t l rv) : Calls Tryz.prog 54 #[.pointer (some ⟨lB, 0, none⟩)] w fun e w' => e = .returned (.int .i64 (M.barrierE d)) ∧ DevAt w' dB sB mB n (M.barrierD d) ∧ But [dB, sB, mB] w w' := by
  have h0 := g.p0
  have HB := Lib.hid (barrier_any w hd)
  clear g hd
  go_enter Tryz.func54, Tryz.ntmps54
  go_wp2_with (go_at_call 79; refine HB.out.mono ?_; rintro e w' ⟨rfl, hd', hb'⟩; have HD := Lib.hid hd'; have Hb := Lib.hid hb'; clear hd' hb')
  go_ret
  exact ⟨rfl, HD.out, Hb.out⟩
end Go.Proofs.YtmcalgnpinolmaaGreat
