/-
  Put, whichever sector it writes; a cell on a device that has no fuse and is not dead; what 'slots' tells; the calls whose answers the document fixes.
-/
import Derived.Test.YtpoolpckabpnfaaGreatCel5
namespace Go.Proofs.YtpoolpckabpnfaaGreat
open Go.RowKit
set_option linter.unusedVariables false
set_option linter.unusedSimpArgs false
set_option maxRecDepth 20000

variable {dB sB mB n : Nat} {d : M.Dv}

namespace M
/-- which sector may be written -/
def pos (o a b : Nat) : Nat := if o = 0 then a else b
end M

theorem put_any (w : World) (h : DevAt w dB sB mB n d) (cB a b : Nat) (c : M.Cl) (hc : CellAt w cB dB a b c) (hs : cB ≠ dB ∧ cB ≠ sB ∧ cB ≠ mB) (ho : c.o ≤ 1) (hg : 0 ≤ c.gen ∧ c.gen < 4611686018427387904) (hab : a ≤ 1000 ∧ b ≤ 1000) (t : ByteArray) (ht : t.size ≤ 100) :
    Calls Tryz.prog 90 #[.pointer (some ⟨cB, 0, none⟩), .string t] w fun e w' => e = .returned (.int .i64 (M.putE n d (M.pos c.o a b) (M.slot (c.gen + 1) t))) ∧ DevAt w' dB sB mB n (M.putD n d (M.pos c.o a b) (M.slot (c.gen + 1) t)) ∧
      CellAt w' cB dB a b (M.putC (M.putE n d (M.pos c.o a b) (M.slot (c.gen + 1) t)) c t) ∧ But [dB, sB, mB, cB] w w' := by
  obtain ⟨o, g, t0⟩ := c
  simp only at ho hg ⊢
  by_cases h0 : o = 0
  · subst h0
    exact put_0 w h cB a b g t0 hc hs hg hab t ht
  · obtain rfl : o = 1 := by omega
    exact put_1 w h cB a b g t0 hc hs hg hab t ht

/-- a put on a device without a fuse -/
theorem put_free (hf : Free d) (hwf : M.Wf n d) {i : Nat} (hi : i < n) {l : List UInt8} (hl : l.length ≤ 144) :
    M.putE n d i l = 0 ∧ Free (M.putD n d i l) ∧ (∀ k, (M.putD n d i l).P k = none) ∧ ∀ j : Nat, M.seen (M.putD n d i l) j = if j = i then M.pad l else M.seen d j := by
  have e : M.writeE n d i l = 0 := by rw [hf.writeE, if_neg (by omega), if_neg (by omega)]
  have hf2 := hf.write n i l
  have eb : M.barrierE (M.writeD n d i l) = 0 := by
    unfold M.barrierE
    rw [hf2.2, if_neg (by simp), hf2.act.1]
  refine ⟨by unfold M.putE; rw [if_pos e, eb], by unfold M.putD; rw [if_pos e]; exact hf2.barrier, fun k => ?_, fun j => ?_⟩
  · unfold M.putD; rw [if_pos e, hf2.barrierD]
  · unfold M.putD
    rw [if_pos e, seen_barrier hf2]
    by_cases hj : j = i
    · subst hj
      rw [if_pos rfl, seen_write_same hf n l e]
    · rw [if_neg hj, seen_write hf n (by omega)]

/-- the cell that is found behind a put -/
theorem found_after (hf : Free d) (hwf : M.Wf n d) {a b : Nat} (hab : a ≠ b) (ha : a < n) (hb : b < n) {t : ByteArray} (ht : t.size ≤ 100)
    {c : M.Cl} (hc : c = M.found (M.rdS (M.seen d a)) (M.rdS (M.seen d b))) (hg : c.gen < 4611686018427387904) :
    M.found (M.rdS (M.seen (M.putD n d (M.pos c.o a b) (M.slot (c.gen + 1) t)) a)) (M.rdS (M.seen (M.putD n d (M.pos c.o a b) (M.slot (c.gen + 1) t)) b)) = ⟨1 - c.o, c.gen + 1, t⟩ := by
  have ho := M.found_o (M.seen d a) (M.seen d b)
  have hg2 := M.found_gen (M.seen d a) (M.seen d b)
  rw [← hc] at ho hg2
  have hm : M.MayS (c.gen + 1) t := ⟨by omega, by omega, ht⟩
  have hp : M.pos c.o a b < n := by unfold M.pos; split <;> assumption
  have hs := (put_free hf hwf hp (l := M.slot (c.gen + 1) t) (by have := M.slot_small hm; omega)).2.2.2
  rw [hs a, hs b]
  have key := M.found_put (l := M.seen d a) (m := M.seen d b) (z := M.pad (M.slot (c.gen + 1) t)) (t := t) (by rw [← hc]; exact M.rdS_pad hm)
  rw [← hc] at key
  by_cases h0 : c.o = 0
  · rw [h0] at key ⊢
    simp only [M.pos, if_true, M.turn0] at key ⊢
    rw [if_neg (by omega)]
    exact key
  · have h1 : c.o = 1 := by omega
    rw [h1] at key ⊢
    simp only [M.pos, M.turn1, show ¬ (1 = 0) by omega, if_false, if_true] at key ⊢
    rw [if_neg hab]
    exact key

theorem seen_crash_none (h : ∀ k, d.P k = none) (l : List (Int × Int)) (j : Nat) : M.seen (M.crashD n d l) j = M.seen d j := by
  have e : M.pendL n d.P = [] := by
    unfold M.pendL
    rw [List.filter_eq_nil_iff]
    intro k _
    rw [h k]; simp
  have e1 : M.seen (M.crashD n d l) j = M.crashS d.P d.S (M.pendL n d.P) l j := rfl
  rw [e1, e]
  unfold M.seen
  rw [h]
  cases l <;> rfl

theorem fresh_seen (j : Nat) : M.seen M.fresh j = M.zero := rfl
theorem found_zero : M.found (M.rdS M.zero) (M.rdS M.zero) = M.none0 := by rw [M.rdS_zero]; rfl

theorem reach_free (hf : Free d) {i : Nat} (hi : i < n) : M.reach n d (i : Int) = 0 := by rw [hf.reach, if_neg (by omega)]
theorem reach_ok (hd : d.dead = false) {i : Nat} (hi : i < n) : M.reach n d (i : Int) = 0 := by
  unfold M.reach
  rw [hd, if_neg (by simp), if_neg (by omega)]

/-- two strings, as a slice -/
def strs2 (s t : ByteArray) : List Value := [.string s, .string t]

theorem strs2_new (w : World) (s t : ByteArray) : Row (w.alloc (.cells #[.string s, .string t] 9)) (some ⟨w.heap.size, 0, none⟩) 2 2 (strs2 s t) := by
  refine ⟨rfl, Nat.le_refl _, by simp [maxLen], .inr ⟨w.heap.size, 0, rfl, by simp, fun i hi => ?_⟩⟩
  rw [World.cell?_alloc_mark]
  simp [strs2]

end Go.Proofs.YtpoolpckabpnfaaGreat
