/-
  Put in every case: also where no generation is left.
-/
import Derived.Test.YtpoolpckabpnfaaGreatCel7
namespace Go.Proofs.YtpoolpckabpnfaaGreat
open Go.RowKit
set_option linter.unusedVariables false
set_option linter.unusedSimpArgs false
set_option maxRecDepth 20000

theorem cbelow_up {B : Nat} {w w1 w2 : World} (h : Below B w w1) (hb : Below w1.heap.size w1 w2) (hB : B ≤ w1.heap.size) : Below B w w2 := h.trans (hb.mono hB)

variable {dB sB mB n : Nat} {d : M.Dv}

namespace M
/-- what Put tells, and makes of the device and the cell, also where no generation is left -/
def puE (n : Nat) (d : Dv) (a b : Nat) (c : Cl) (t : ByteArray) : Int := if c.gen = 4611686018427387904 then 23 else putE n d (pos c.o a b) (slot (c.gen + 1) t)
def puD (n : Nat) (d : Dv) (a b : Nat) (c : Cl) (t : ByteArray) : Dv := if c.gen = 4611686018427387904 then d else putD n d (pos c.o a b) (slot (c.gen + 1) t)
def puC (n : Nat) (d : Dv) (a b : Nat) (c : Cl) (t : ByteArray) : Cl := if c.gen = 4611686018427387904 then c else putC (putE n d (pos c.o a b) (slot (c.gen + 1) t)) c t
end M

theorem put_seq (w : World) {cB a b : Nat} {c : M.Cl} (hc : CellAt w cB dB a b c) (hg : c.gen = 4611686018427387904) (t : ByteArray) (ht : t.size ≤ 100) :
    Calls Tryz.prog 90 #[.pointer (some ⟨cB, 0, none⟩), .string t] w fun e w' => e = .returned (.int .i64 23) ∧ w = w' := by
  have p4 := hc.p4
  rw [hg] at p4
  have h' : (t.size : Int) ≤ 100 := by omega
  clear hc hg ht
  go_enter Tryz.func90, Tryz.ntmps90
  go_wp2
  go_ret
  exact ⟨rfl, rfl⟩

theorem put_all (w : World) (h : DevAt w dB sB mB n d) (cB a b : Nat) (c : M.Cl) (hc : CellAt w cB dB a b c) (hs : cB ≠ dB ∧ cB ≠ sB ∧ cB ≠ mB) (ho : c.o ≤ 1) (hg : 0 ≤ c.gen ∧ c.gen ≤ 4611686018427387904) (hab : a ≤ 1000 ∧ b ≤ 1000) (t : ByteArray) (ht : t.size ≤ 100) :
    Calls Tryz.prog 90 #[.pointer (some ⟨cB, 0, none⟩), .string t] w fun e w' => e = .returned (.int .i64 (M.puE n d a b c t)) ∧ DevAt w' dB sB mB n (M.puD n d a b c t) ∧
      CellAt w' cB dB a b (M.puC n d a b c t) ∧ But [dB, sB, mB, cB] w w' := by
  unfold M.puE M.puD M.puC
  by_cases hz : c.gen = 4611686018427387904
  · rw [if_pos hz, if_pos hz, if_pos hz]
    refine (put_seq w hc hz t ht).mono ?_
    rintro e w' ⟨rfl, rfl⟩
    exact ⟨rfl, h, hc, But.refl _ _⟩
  · rw [if_neg hz, if_neg hz, if_neg hz]
    exact put_any w h cB a b c hc hs ho ⟨hg.1, by omega⟩ hab t ht

/-- the two ways of a Put -/
theorem M.pu_ways (n : Nat) (d : M.Dv) (a b : Nat) (c : M.Cl) (t : ByteArray) (hg : c.gen ≤ 4611686018427387904) : (M.puE n d a b c t = 0 ∧ M.puC n d a b c t = ⟨1 - c.o, c.gen + 1, t⟩ ∧ c.gen + 1 ≤ 4611686018427387904) ∨ (M.puE n d a b c t ≠ 0 ∧ M.puC n d a b c t = c) := by
  unfold M.puE M.puC
  by_cases hq : c.gen = 4611686018427387904
  · rw [if_pos hq, if_pos hq]; exact .inr ⟨by omega, rfl⟩
  · rw [if_neg hq, if_neg hq]
    by_cases he : M.putE n d (M.pos c.o a b) (M.slot (c.gen + 1) t) = 0
    · rw [he, M.putC_ok]; exact .inl ⟨rfl, rfl, by omega⟩
    · rw [M.putC_no he]; exact .inr ⟨he, rfl⟩
end Go.Proofs.YtpoolpckabpnfaaGreat
