/-
  A put on a device without a fuse; the calls whose answers the document fixes.
-/
import Derived.Test.YtpoolpckabpnfaaGreatCel6
namespace Go.Proofs.YtpoolpckabpnfaaGreat
open Go.RowKit
set_option linter.unusedVariables false
set_option linter.unusedSimpArgs false
set_option maxRecDepth 20000

variable {dB sB mB n : Nat} {d : M.Dv}

theorem put_ok (w : World) (h : DevAt w dB sB mB n d) (hf : Free d) (cB a b : Nat) (c : M.Cl) (hc : CellAt w cB dB a b c) (hs : cB ≠ dB ∧ cB ≠ sB ∧ cB ≠ mB)
    (hcf : c = M.found (M.rdS (M.seen d a)) (M.rdS (M.seen d b))) (hg : c.gen < 4611686018427387904) (hab : a ≠ b) (ha : a < n) (hb : b < n) (t : ByteArray) (ht : t.size ≤ 100) :
    Calls Tryz.prog 90 #[.pointer (some ⟨cB, 0, none⟩), .string t] w fun e w' => e = .returned (.int .i64 0) ∧ ∃ d', DevAt w' dB sB mB n d' ∧ Free d' ∧ (∀ k, d'.P k = none) ∧
      (∀ j : Nat, M.seen d' j = if j = M.pos c.o a b then M.pad (M.slot (c.gen + 1) t) else M.seen d j) ∧ CellAt w' cB dB a b ⟨1 - c.o, c.gen + 1, t⟩ ∧
      M.Cl.mk (1 - c.o) (c.gen + 1) t = M.found (M.rdS (M.seen d' a)) (M.rdS (M.seen d' b)) ∧ But [dB, sB, mB, cB] w w' := by
  have ho := M.found_o (M.seen d a) (M.seen d b)
  have hg2 := M.found_gen (M.seen d a) (M.seen d b)
  rw [← hcf] at ho hg2
  have hn := h.n512
  have hm : M.MayS (c.gen + 1) t := ⟨by omega, by omega, ht⟩
  have hp : M.pos c.o a b < n := by unfold M.pos; split <;> assumption
  obtain ⟨q1, q2, q3, q4⟩ := put_free hf h.wf hp (l := M.slot (c.gen + 1) t) (by have := M.slot_small hm; omega)
  refine (put_any w h cB a b c hc hs ho ⟨hg2.1, hg⟩ ⟨by omega, by omega⟩ t ht).mono ?_
  rintro e w' ⟨rfl, hd, hc', hb'⟩
  rw [q1, M.putC_ok] at hc'
  exact ⟨by rw [q1], _, hd, q2, q3, q4, hc', (found_after hf h.wf hab ha hb ht hcf hg).symm, hb'⟩

theorem crash_nil (w : World) (h : DevAt w dB sB mB n d) (hp : ∀ k, d.P k = none) :
    Calls Tryz.prog 14 #[.pointer (some ⟨dB, 0, none⟩), .slice none 0 0] w fun e w' => e = .returned (.tuple #[]) ∧ ∃ d', DevAt w' dB sB mB n d' ∧ Free d' ∧ (∀ j : Nat, M.seen d' j = M.seen d j) ∧ But [dB, sB, mB] w w' := by
  refine (crash_any w h none 0 0 [] (krow_nil w) (.inl rfl)).mono ?_
  rintro e w' ⟨rfl, hd, hb⟩
  exact ⟨rfl, _, hd, Free.crash n d [], fun j => seen_crash_none hp [] j, hb⟩

end Go.Proofs.YtpoolpckabpnfaaGreat
