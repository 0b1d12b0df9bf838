/-
  Whatever is done to a life: the epoch never goes down.
-/
import Derived.Test.YtpoolpckabpnfaaWtDo2
import Derived.Test.YtpoolpckabpnfaaWtRun
namespace Go.Proofs.Ytpoolpckabpnfaa.Wt
open Go.RowKit
open Ml (Mg may msgV MB)
set_option linter.unusedVariables false
set_option linter.unusedSimpArgs false
set_option maxRecDepth 20000

variable {w0 w w' : World} {gB pB dB sB mB : Nat} {d : M.Dv} {tB cB : Nat} {c : M.Cl} {L W : Int} {N : Nat} {E : Int → Option Int}
theorem Suc.ep {x y : Fx} (h : Suc x y) : x.ep ≤ y.ep := by rcases h with h | ⟨h, _⟩ <;> omega
theorem LF.lift {w4 w5 : World} {tB' cB' : Nat} (h : LF w4 w5 gB pB dB sB mB d tB' cB' c L W N E) (hb : Below w.heap.size w w4) (ge : ∀ b ∈ gB :: pB :: ours dB sB mB cB' tB', w.heap.size ≤ b) : LF w w5 gB pB dB sB mB d tB' cB' c L W N E :=
  { h with bu := (But.of_below (hb.trans (h.bu.to_below ge hb.size))).mono (by simp) }
theorem do_all (h : LF w w gB pB dB sB mB d tB cB c L W N E) (x : Ac) (hx : x.Ok w) (hnl : x.nL ≤ 600) (hN : N ≤ 500) :
    Calls Try.prog 11 #[.pointer (some ⟨gB, 0, none⟩), actV x] w fun e w' => ∃ A I, e = .returned (.tuple #[msgV A, .bool I]) ∧
      ∃ d' tB' cB' c' L' N' E', N' ≤ N + 1 ∧ (fx c.text).ep ≤ (fx c'.text).ep ∧ (tB' = tB ∨ w.heap.size ≤ tB') ∧ (cB' = cB ∨ w.heap.size ≤ cB') ∧ LF w w' gB pB dB sB mB d' tB' cB' c' L' W N' E' := by
  by_cases h0 : x.kind = 0
  · refine (do0 h x h0 hN).mono ?_
    rintro e w' ⟨rfl, hl⟩
    refine ⟨_, _, rfl, _, _, _, _, _, _, _, ?_, ?_, .inl rfl, .inl rfl, hl⟩
    · split <;> omega
    · obtain ⟨_, hw⟩ := h.fi.take L x.fr x.m
      rcases hw with ⟨h1, _⟩ | ⟨hc, _, h2⟩
      · rw [h1]; exact Int.le_refl _
      · exact (takP_suc (fx_ok _) hc h2).ep
  · by_cases h1 : x.kind = 1
    · refine (do1 h x h1 hx.2.1).mono ?_
      rintro e w' ⟨rfl, hl⟩
      exact ⟨_, _, rfl, _, _, _, _, _, _, _, by omega, Int.le_refl _, .inl rfl, .inl rfl, hl⟩
    · by_cases h2 : x.kind = 2
      · refine (do2 h x h2 hx hnl).mono ?_
        rintro e w' ⟨rfl, d', tB', cB', c', hs, g1, g2, hl⟩
        exact ⟨_, _, rfl, _, _, _, _, _, _, _, by omega, hs.ep, .inr g1, .inr g2, hl⟩
      · by_cases h3 : x.kind = 3
        · refine (do3 h x h3 hx.2.1).mono ?_
          rintro e w' ⟨rfl, hl⟩
          exact ⟨_, _, rfl, _, _, _, _, _, _, _, by omega, Int.le_refl _, .inl rfl, .inl rfl, hl⟩
        · refine (do9 h x (by omega)).mono ?_
          rintro e w' ⟨rfl, hl⟩
          exact ⟨_, _, rfl, _, _, _, _, _, _, _, by omega, Int.le_refl _, .inl rfl, .inl rfl, hl⟩
end Go.Proofs.Ytpoolpckabpnfaa.Wt
