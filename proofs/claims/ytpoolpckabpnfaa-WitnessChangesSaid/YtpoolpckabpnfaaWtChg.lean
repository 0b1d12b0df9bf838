/-
  Changes of who is in sync, by who holds the epoch, where nothing fails.
-/
import Derived.Test.YtpoolpckabpnfaaWtRun
import Derived.Test.YtpoolpckabpnfaaOpenB
namespace Go.Proofs.Ytpoolpckabpnfaa.Wt
open Go.RowKit
open Ml (Mg may msgV MB)
set_option linter.unusedVariables false
set_option linter.unusedSimpArgs false
set_option maxRecDepth 20000

def chM (msk kk : Int) : Mg := ⟨3, 1, msk, kk + 1, 0, 0, 0, 0, 0, 0, 0, ⟨#[]⟩, ⟨#[]⟩⟩
def chV (msk ma t kk : Int) : Int := if t < kk then msk else ma
theorem FR.chg {d : M.Dv} {c : M.Cl} {g ma t kk msk L W : Int} (h : FR 2 0 1 g d c) (hg : g < 4611686018427387904) (hx : fx c.text = ⟨1, 0, ma, t + 1⟩) (hm : msk = 1 ∨ msk = 3) (hk : 0 ≤ kk ∧ kk ≤ 50) (ht : -1 ≤ t) :
    FR 2 0 1 (g + 1) (takD 2 0 1 d c L 0 (chM msk kk)) (takC 2 0 1 d c L 0 (chM msk kk)) ∧ fx (takC 2 0 1 d c L 0 (chM msk kk)).text = ⟨1, 0, chV msk ma t kk, max t kk + 1⟩ ∧
      takA 2 0 1 d c L 0 (chM msk kk) = ⟨3, 1, chV msk ma t kk, kk + 1, -1, 0, 0, 0, 0, 0, 0, ⟨#[]⟩, ⟨#[]⟩⟩ ∧ takI 2 0 1 d c L 0 (chM msk kk) = true ∧ takL 2 0 1 d c L W 0 (chM msk kk) = L := by
  have hc : can 0 (chM msk kk) = true := by
    refine (can_iff 0 _).2 ⟨.inr (.inl rfl), by omega, (Ml.may_iff _).2 ?_⟩
    simp only [chM, Ml.big]
    refine ⟨by omega, by omega, by omega, by omega, by omega, by omega, by omega, by omega, by omega, by omega, by omega, by decide, by decide⟩
  have hin : inM msk 0 = true := by rcases hm with rfl | rfl <;> decide
  have hp : takP (fx c.text) L 0 (chM msk kk) = if t < kk then (0, some ⟨1, 0, msk, kk + 1⟩) else (0, none) := by
    rw [hx]
    unfold takP chaP chM
    simp only
    rw [if_neg (by omega), if_pos trivial, if_neg (by simp), if_neg (by rw [hin]; simp; omega)]
    by_cases hlt : t < kk
    · rw [if_neg (by omega), if_pos hlt]
    · rw [if_pos (by omega), if_neg hlt]
  by_cases hlt : t < kk
  · rw [if_pos hlt] at hp
    obtain ⟨p1, p2, p3, p4, p5⟩ := @FR.puts 2 0 1 d c L W 0 (chM msk kk) g h hg 0 ⟨1, 0, msk, kk + 1⟩ hc hp
    have e : chV msk ma t kk = msk := by unfold chV; rw [if_pos hlt]
    rw [e]
    refine ⟨p3, by rw [p4, show max t kk = kk by omega], by rw [p1]; rfl, p2, by rw [p5, if_neg (by simp [chM])]⟩
  · rw [if_neg hlt] at hp
    obtain ⟨p1, p2, p3, p4, p5⟩ := @tak_none 2 0 1 d c L W 0 (chM msk kk) 0 hc hp (by omega)
    have e : chV msk ma t kk = ma := by unfold chV; rw [if_neg hlt]
    rw [e, p1, p2, p3, p4, p5, hx]
    refine ⟨h.mono (by omega), by rw [show max t kk = t by omega], rfl, rfl, by rw [if_neg (by simp [chM])]⟩
theorem bools_at {w w' : World} {a : Option Addr} {n cap : Nat} {t : List Bool} (h : Row w a n cap (t.map Value.bool)) (hb : Below w.heap.size w w') {i : Nat} (hi : i < n) :
    ∃ b off y, a = some ⟨b, off, none⟩ ∧ t[i]? = some y ∧ w'.cell? ⟨b, off + i, none⟩ = some (.bool y) := by
  obtain ⟨h1, h2, h3, h4⟩ := h
  rw [List.length_map] at h1
  rcases h4 with h4 | ⟨b, off, ha, hlt, hc⟩
  · have : t = [] := by simpa using h4
    subst this; simp at h1; omega
  · have hx : t[i]? = some (t[i]'(by omega)) := List.getElem?_eq_getElem _
    refine ⟨b, off, t[i]'(by omega), ha, hx, ?_⟩
    rw [(But.of_below hb).cell hlt (by simp), hc i hi, List.getElem?_map, hx]
    rfl
/-- what the first ask makes -/
theorem first_ask {W : Int} : ∃ d c, FR 2 0 1 1 d c ∧ fx c.text = ⟨1, 0, 3, 0⟩ ∧ takD 2 0 1 M.fresh M.none0 0 0 ⟨1, 0, 0, 0, 0, 0, 0, 0, 0, 0, 0, ⟨#[]⟩, ⟨#[]⟩⟩ = d ∧ takC 2 0 1 M.fresh M.none0 0 0 ⟨1, 0, 0, 0, 0, 0, 0, 0, 0, 0, 0, ⟨#[]⟩, ⟨#[]⟩⟩ = c ∧
    takA 2 0 1 M.fresh M.none0 0 0 ⟨1, 0, 0, 0, 0, 0, 0, 0, 0, 0, 0, ⟨#[]⟩, ⟨#[]⟩⟩ = ⟨2, 1, 3, 0, -1, 0, 0, 0, 0, 0, 0, ⟨#[]⟩, ⟨#[]⟩⟩ ∧ takI 2 0 1 M.fresh M.none0 0 0 ⟨1, 0, 0, 0, 0, 0, 0, 0, 0, 0, 0, ⟨#[]⟩, ⟨#[]⟩⟩ = true ∧ takL 2 0 1 M.fresh M.none0 0 W 0 ⟨1, 0, 0, 0, 0, 0, 0, 0, 0, 0, 0, ⟨#[]⟩, ⟨#[]⟩⟩ = W := by
  have h0 := fr_fresh 2 0 1 (by omega)
  obtain ⟨p1, p2, p3, p4, p5⟩ := @FR.puts 2 0 1 M.fresh M.none0 0 W 0 ⟨1, 0, 0, 0, 0, 0, 0, 0, 0, 0, 0, ⟨#[]⟩, ⟨#[]⟩⟩ 0 h0 (by omega) 0 ⟨1, 0, 3, 0⟩ (by decide +kernel) (by rw [fx_none0]; decide +kernel)
  refine ⟨_, _, p3, p4, rfl, rfl, by rw [p1]; rfl, p2, by rw [p5]; rfl⟩
end Go.Proofs.Ytpoolpckabpnfaa.Wt
