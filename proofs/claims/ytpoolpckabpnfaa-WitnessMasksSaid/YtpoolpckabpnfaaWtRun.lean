/-
  An act that is no failure: what it does to a life, whatever its kind.
-/
import Derived.Test.YtpoolpckabpnfaaWtDo1
import Derived.Test.YtpoolpckabpnfaaWtAwk
namespace Go.Proofs.Ytpoolpckabpnfaa.Wt
open Go.RowKit
open Ml (Mg may msgV MB)
set_option linter.unusedVariables false
set_option linter.unusedSimpArgs false
set_option maxRecDepth 20000

theorem u8_in {x : Int} (h : (Lit.int .u8 x).wf = true) : 0 ≤ x ∧ x < 256 := by
  simp [Lit.wf, IntKind.min, IntKind.max, IntKind.signed, IntKind.bits] at h
  omega
def stA (x : Ac) (d : M.Dv) (c : M.Cl) (L : Int) : Mg := if x.kind = 0 then takA 2 0 1 d c L x.fr x.m else Ml.nil
def stI (x : Ac) (d : M.Dv) (c : M.Cl) (L : Int) : Bool := if x.kind = 0 then takI 2 0 1 d c L x.fr x.m else false
def stD (x : Ac) (d : M.Dv) (c : M.Cl) (L : Int) : M.Dv := if x.kind = 0 then takD 2 0 1 d c L x.fr x.m else d
def stC (x : Ac) (d : M.Dv) (c : M.Cl) (L : Int) : M.Cl := if x.kind = 0 then takC 2 0 1 d c L x.fr x.m else c
def stL (x : Ac) (d : M.Dv) (c : M.Cl) (L W : Int) : Int := if x.kind = 0 then takL 2 0 1 d c L W x.fr x.m else if x.kind = 1 then max (L - (tks x.n : Int)) 0 else L
variable {w0 w w' : World} {gB pB dB sB mB : Nat} {d : M.Dv} {tB cB : Nat} {c : M.Cl} {L W : Int} {N : Nat} {E : Int → Option Int}
theorem do01 (h : LF w0 w gB pB dB sB mB d tB cB c L W N E) (x : Ac) (hk : x.kind ≤ 1) (hN : N ≤ 500) (hx : -9223372036854775808 ≤ x.n ∧ x.n ≤ 9223372036854775807) :
    Calls Try.prog 11 #[.pointer (some ⟨gB, 0, none⟩), actV x] w fun e w' => e = .returned (.tuple #[msgV (stA x d c L), .bool (stI x d c L)]) ∧
      ∃ N' E', N' ≤ N + 1 ∧ But (gB :: pB :: ours dB sB mB cB tB) w w' ∧ LF w0 w' gB pB dB sB mB (stD x d c L) tB cB (stC x d c L) (stL x d c L W) W N' E' := by
  by_cases h0 : x.kind = 0
  · have e1 : stA x d c L = takA 2 0 1 d c L x.fr x.m := by unfold stA; rw [if_pos h0]
    have e2 : stI x d c L = takI 2 0 1 d c L x.fr x.m := by unfold stI; rw [if_pos h0]
    have e3 : stD x d c L = takD 2 0 1 d c L x.fr x.m := by unfold stD; rw [if_pos h0]
    have e4 : stC x d c L = takC 2 0 1 d c L x.fr x.m := by unfold stC; rw [if_pos h0]
    have e5 : stL x d c L W = takL 2 0 1 d c L W x.fr x.m := by unfold stL; rw [if_pos h0]
    rw [e1, e2, e3, e4, e5]
    refine (do0 h.now x h0 hN).mono ?_
    rintro e w' ⟨rfl, hl⟩
    exact ⟨rfl, _, _, by split <;> omega, hl.bu, h.then' hl⟩
  · have e1 : stA x d c L = Ml.nil := by unfold stA; rw [if_neg h0]
    have e2 : stI x d c L = false := by unfold stI; rw [if_neg h0]
    have e3 : stD x d c L = d := by unfold stD; rw [if_neg h0]
    have e4 : stC x d c L = c := by unfold stC; rw [if_neg h0]
    rw [e1, e2, e3, e4]
    by_cases h1 : x.kind = 1
    · have e5 : stL x d c L W = max (L - (tks x.n : Int)) 0 := by unfold stL; rw [if_neg h0, if_pos h1]
      rw [e5]
      refine (do1 h.now x h1 hx).mono ?_
      rintro e w' ⟨rfl, hl⟩
      exact ⟨rfl, _, _, by omega, hl.bu, h.then' hl⟩
    · have e5 : stL x d c L W = L := by unfold stL; rw [if_neg h0, if_neg h1]
      rw [e5]
      refine (do9 h.now x (by omega)).mono ?_
      rintro e w' ⟨rfl, hl⟩
      exact ⟨rfl, _, _, by omega, hl.bu, h.then' hl⟩

/-- the timer is set by a grant alone -/
theorem takL_is {n a b : Nat} {d : M.Dv} {c : M.Cl} {L W fr : Int} {m : Mg} : takL n a b d c L W fr m = if grants (takA n a b d c L fr m) (takI n a b d c L fr m) = true then W else L := by
  unfold takL
  by_cases h : can fr m = true ∧ m.kind = 1 ∧ takE n a b d c L fr m = 0
  · have hI : takI n a b d c L fr m = true := by unfold takI; rw [h.1, h.2.2]; rfl
    have hA : takA n a b d c L fr m = ansA (fx (takC n a b d c L fr m).text) m (takE n a b d c L fr m) := by unfold takA; rw [if_pos hI]
    have hg : grants (takA n a b d c L fr m) (takI n a b d c L fr m) = true := by
      rw [hI, hA]; unfold grants ansA ansK; simp only; rw [h.2.1, h.2.2]; simp
    rw [if_pos h, if_pos hg]
  · have hg : ¬ grants (takA n a b d c L fr m) (takI n a b d c L fr m) = true := fun hg => h (by
      unfold grants at hg
      simp only [Bool.and_eq_true, decide_eq_true_eq] at hg
      have hA : takA n a b d c L fr m = ansA (fx (takC n a b d c L fr m).text) m (takE n a b d c L fr m) := by unfold takA; rw [if_pos hg.1]
      rw [hA] at hg
      have hc : can fr m = true := by have := hg.1; unfold takI at this; simp at this; exact this.1
      refine ⟨hc, ?_, hg.2.2⟩
      have h2 : ansK m.kind = 2 := hg.2.1
      have hk := ((can_iff fr m).1 hc).1
      unfold ansK at h2
      split at h2
      · assumption
      · omega)
    rw [if_neg h, if_neg hg]
theorem grants_iff (A : Mg) (I : Bool) : grants A I = true ↔ I = true ∧ A.kind = 2 ∧ A.e = 0 := by simp [grants]
theorem stL_is {x : Ac} {d : M.Dv} {c : M.Cl} {L W : Int} : stL x d c L W = if grants (stA x d c L) (stI x d c L) = true then W else if x.kind = 1 then max (L - (tks x.n : Int)) 0 else L := by
  by_cases h0 : x.kind = 0
  · have e1 : stA x d c L = takA 2 0 1 d c L x.fr x.m := by unfold stA; rw [if_pos h0]
    have e2 : stI x d c L = takI 2 0 1 d c L x.fr x.m := by unfold stI; rw [if_pos h0]
    have e5 : stL x d c L W = takL 2 0 1 d c L W x.fr x.m := by unfold stL; rw [if_pos h0]
    rw [e1, e2, e5, takL_is, if_neg (show ¬ x.kind = 1 by omega)]
  · have e2 : stI x d c L = false := by unfold stI; rw [if_neg h0]
    have hg : ¬ grants (stA x d c L) (stI x d c L) = true := by rw [grants_iff, e2]; simp
    rw [if_neg hg]; unfold stL; rw [if_neg h0]
/-- nothing fails where nothing fails -/
theorem free_st {x : Ac} {d : M.Dv} {c : M.Cl} {L : Int} (hf : FI 2 0 1 d c) (h : Free d) : Free (stD x d c L) := by
  unfold stD
  split
  · exact hf.free h _ _ _
  · exact h

/-- masks -/
theorem st_masks {x : Ac} {d : M.Dv} {c : M.Cl} {L : Int} (hf : FI 2 0 1 d c) :
    (stI x d c L = true → (stA x d c L).seq = (fx (stC x d c L).text).ma) ∧
      ((fx (stC x d c L).text).ma ≠ (fx c.text).ma → stI x d c L = true ∧ ((x.m.kind = 3 ∧ x.fr = (fx c.text).ho ∧ x.m.epoch = (fx c.text).ep ∧ (stA x d c L).e = 0) ∨ (x.m.kind = 4 ∧ inM (fx (stC x d c L).text).ma x.fr = false))) ∧
      (stI x d c L = true → (stA x d c L).kind = 2 → (stA x d c L).e = 0 → inM (fx c.text).ma x.fr = true) := by
  by_cases h0 : x.kind = 0
  · have e1 : stA x d c L = takA 2 0 1 d c L x.fr x.m := by unfold stA; rw [if_pos h0]
    have e2 : stI x d c L = takI 2 0 1 d c L x.fr x.m := by unfold stI; rw [if_pos h0]
    have e4 : stC x d c L = takC 2 0 1 d c L x.fr x.m := by unfold stC; rw [if_pos h0]
    rw [e1, e2, e4]
    have hA : takI 2 0 1 d c L x.fr x.m = true → takA 2 0 1 d c L x.fr x.m = ansA (fx (takC 2 0 1 d c L x.fr x.m).text) x.m (takE 2 0 1 d c L x.fr x.m) := fun h => by unfold takA; rw [if_pos h]
    refine ⟨fun h => by rw [hA h]; rfl, fun hne => ?_, fun h h1 h2 => ?_⟩
    · obtain ⟨_, hw⟩ := hf.take L x.fr x.m
      rcases hw with ⟨h1, _⟩ | ⟨hc, h1, h2⟩
      · exact absurd (by rw [h1]) hne
      · have hI : takI 2 0 1 d c L x.fr x.m = true := by unfold takI; rw [hc, h1]; rfl
        refine ⟨hI, ?_⟩
        have hx := fx_ok c.text
        obtain ⟨hk, hfr, hm⟩ := (can_iff x.fr x.m).1 hc
        rw [hA hI]
        unfold takP at h2
        split at h2
        · obtain ⟨_, q2, _⟩ := askP_ok hx hfr h2
          rw [q2] at hne; exact absurd rfl hne
        · split at h2
          · rename_i k1 k3
            obtain ⟨_, q2, q3⟩ := chaP_ok hx hm h2
            have hep : x.m.epoch = (fx c.text).ep := by
              unfold chaP at h2
              split at h2
              · simp at h2
              · rename_i hn; exact Decidable.byContradiction fun hh => hn (.inr hh)
            exact .inl ⟨k3, q3.symm, hep, h1⟩
          · rename_i k1 k3
            obtain ⟨_, q2⟩ := losP_ok hx hfr h2
            refine .inr ⟨by omega, ?_⟩
            rw [q2] at hne ⊢
            simp only at hne ⊢
            unfold lostM at hne ⊢
            split at hne
            · rename_i h3
              rw [if_pos h3]
              have : x.fr = 0 ∨ x.fr = 1 := by omega
              rcases this with h4 | h4 <;> rw [h4] <;> decide
            · exact absurd rfl hne
    · have hg : grants (takA 2 0 1 d c L x.fr x.m) (takI 2 0 1 d c L x.fr x.m) = true := (grants_iff _ _).2 ⟨h, h1, h2⟩
      have hI := h
      unfold takI at hI
      simp at hI
      have hk : x.m.kind = 1 := by
        rw [hA h] at h1
        have h3 : ansK x.m.kind = 2 := h1
        have hk := ((can_iff x.fr x.m).1 hI.1).1
        unfold ansK at h3
        split at h3
        · assumption
        · omega
      have hE : takE 2 0 1 d c L x.fr x.m = 0 := by rw [hA h] at h2; exact h2
      have ep : takP (fx c.text) L x.fr x.m = askP (fx c.text) L x.fr x.m := by unfold takP; rw [if_pos hk]
      cases hq : inM (fx c.text).ma x.fr with
      | true => rfl
      | false =>
        exfalso
        unfold takE at hE
        rw [ep, show askP (fx c.text) L x.fr x.m = (20, none) by unfold askP; rw [if_pos hq]] at hE
        simp [doE] at hE
  · have e2 : stI x d c L = false := by unfold stI; rw [if_neg h0]
    have e4 : stC x d c L = c := by unfold stC; rw [if_neg h0]
    rw [e2, e4]
    exact ⟨by simp, fun h => absurd rfl h, by simp⟩
theorem in_any (w : World) {ma fr : Int} (hm : 1 ≤ ma ∧ ma ≤ 3) : Calls Try.prog 15 #[.int .i64 ma, .int .i64 fr] w fun e w' => e = .returned (.bool (inM ma fr)) ∧ w = w' := by
  have h2 : ma = 1 ∨ ma = 2 ∨ ma = 3 := by omega
  clear hm
  by_cases h0 : fr = 0
  · subst h0
    rcases h2 with rfl | rfl | rfl
    all_goals
      go_enter Try.func15, Try.ntmps15
      go_wp2
      go_ret
      exact ⟨rfl, rfl⟩
  · by_cases h1 : fr = 1
    · subst h1
      rcases h2 with rfl | rfl | rfl
      all_goals
        go_enter Try.func15, Try.ntmps15
        go_wp2
        go_ret
        exact ⟨rfl, rfl⟩
    · have e : inM ma fr = false := by unfold inM; rw [if_neg h0, decide_eq_false h1]; rfl
      rw [e]
      have k0 : (fr == 0) = false := by rw [beq_eq_false_iff_ne]; exact h0
      have k1 : (fr == 1) = false := by rw [beq_eq_false_iff_ne]; exact h1
      clear h0 h1 e h2
      go_enter Try.func15, Try.ntmps15
      go_wp2
      go_ret
      exact ⟨rfl, rfl⟩
end Go.Proofs.Ytpoolpckabpnfaa.Wt
