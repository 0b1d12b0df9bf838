/-
  What a message changes: one block at most, and of what is answered.
-/
import Derived.Test.YtofhijnfbilieaaBkTwo
namespace Go.Proofs.Ytofhijnfbilieaa.Bk
open Ml (Mg may msgV)
set_option linter.unusedVariables false
set_option linter.unusedSimpArgs false

theorem FR.parts {n f bl : Nat} {g : Int} {d : M.Dv} {C : Cs} (h : FR n f bl g d C) (hg : g + 1 < 4611686018427387904) (m : Mg) :
    (takI n f bl d C m = true → (takA n f bl d C m).epoch = m.epoch ∧ (takA n f bl d C m).seq = m.seq ∧ (takA n f bl d C m).n = m.n ∧ (takA n f bl d C m).block = m.block ∧ (takA n f bl d C m).client = -1 ∧ (takA n f bl d C m).kind = m.kind + 1 ∧ 0 ≤ m.kind ∧ m.kind ≤ 12) ∧
    (news bl C m = false → (∀ k, blk (takC n f bl d C m) k = blk C k) ∧ tab (takC n f bl d C m) bl = tab C bl) ∧
    (news bl C m = true → takI n f bl d C m = true ∧ (takA n f bl d C m).e = 0 ∧ m.kind = 10 ∧ ∃ b : Nat, m.block = (b : Int) ∧ b < bl ∧ (blk (takC n f bl d C m) b).ep = m.epoch ∧ (blk (takC n f bl d C m) b).sq = m.seq ∧ (blk (takC n f bl d C m) b).data = m.data ∧ ¬ (m.epoch = (blk C b).ep ∧ m.seq = (blk C b).sq) ∧ ∀ k, k ≠ b → blk (takC n f bl d C m) k = blk C k) := by
  obtain ⟨_, h2, h3, h4, h5, h6, h7, h8⟩ := h.take hg m
  refine ⟨fun hi => ?_, fun hn => ?_, fun hn => ?_⟩
  · have hc : can m = true := by rw [← h4]; exact hi
    have hk := ((can_iff m).1 hc).1
    by_cases h12 : m.kind = 12 ∧ token C ≤ m.epoch
    · rw [h6 hc h12.1 h12.2]
      exact ⟨rfl, rfl, rfl, rfl, rfl, by simp only; omega, by omega, by omega⟩
    · rw [h7 hc (by omega)]
      exact ⟨rfl, rfl, rfl, rfl, rfl, rfl, by omega, by omega⟩
  · have hb : ∀ k, blk (takC n f bl d C m) k = blk C k := fun k => by rw [h3, hn]; simp
    exact ⟨hb, tab_same hb bl⟩
  · have hn' := hn
    unfold news ok fresh at hn'
    simp only [Bool.and_eq_true, decide_eq_true_eq] at hn'
    obtain ⟨⟨⟨hc, hep⟩, hk⟩, ⟨hb, h88⟩, hab⟩ := hn'
    have hb' := hb
    unfold isB at hb'
    simp at hb'
    obtain ⟨b, hbb⟩ := Int.eq_ofNat_of_zero_le hb'.1
    have hbt : m.block.toNat = b := by omega
    rw [hbt] at hab
    have hbl := h3 b
    rw [if_pos ⟨hn, hbb⟩] at hbl
    refine ⟨by rw [h4]; exact hc, ?_, hk, b, hbb, by omega, by rw [hbl]; rfl, by rw [hbl]; rfl, by rw [hbl]; rfl, fun hx => ?_, fun k hkb => ?_⟩
    · rw [h7 hc (.inl (by omega))]
      simp only
      rw [h5 hc, if_neg (by omega), if_neg (show ¬ m.kind = 12 by omega), if_neg (by rw [hb]; simp), if_neg (by simp [h88])]
    · rw [hx.1, hx.2, above_self] at hab
      cases hab
    · rw [h3, if_neg (fun hx => hkb (by have := hx.2; omega))]
end Go.Proofs.Ytofhijnfbilieaa.Bk
