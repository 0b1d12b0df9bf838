/-
  What a message makes of the table; is a version above another one, as the document says it.
-/
import Derived.Test.YtofhijnfbilieaaBkRun
namespace Go.Proofs.Ytofhijnfbilieaa.Bk
open Go.RowKit
open Ml (Mg may msgV)
set_option linter.unusedVariables false
set_option linter.unusedSimpArgs false
set_option maxRecDepth 20000

theorem drewN_below (B : Nat) (w : World) (n : Nat) : Below B w (w.drewN n) := C.below_drewN B w n
def T4.le (x y : T4) : Prop := x.a ≤ y.a ∧ x.b ≤ y.b ∧ x.c ≤ y.c ∧ x.d ≤ y.d
theorem T4.le_refl (x : T4) : x.le x := ⟨by omega, by omega, by omega, by omega⟩
theorem T4.le_trans {x y z : T4} (h : x.le y) (g : y.le z) : x.le z := by
  obtain ⟨h1, h2, h3, h4⟩ := h
  obtain ⟨g1, g2, g3, g4⟩ := g
  exact ⟨by omega, by omega, by omega, by omega⟩
theorem T4.le_up (x y : T4) : x.le (x.up y) ∧ y.le (x.up y) := by
  unfold T4.le T4.up
  simp only
  omega
theorem T4.le_bump (x : T4) (cl n : Int) : x.le (x.bump cl n) := by
  unfold T4.le T4.bump
  repeat' split
  all_goals ((try dsimp only); omega)
def T4.get (x : T4) (k : Int) : Int := if k = 0 then x.a else if k = 1 then x.b else if k = 2 then x.c else x.d
theorem T4.bump_get (x : T4) (cl n : Int) (h : 0 ≤ cl ∧ cl ≤ 3) : n ≤ (x.bump cl n).get cl := by
  have : cl = 0 ∨ cl = 1 ∨ cl = 2 ∨ cl = 3 := by omega
  rcases this with rfl | rfl | rfl | rfl <;> (simp [T4.bump, T4.get]; omega)
theorem T4.get_le {x y : T4} (h : x.le y) (k : Int) : x.get k ≤ y.get k := by
  obtain ⟨h1, h2, h3, h4⟩ := h
  unfold T4.get
  repeat' split
  all_goals assumption
theorem tab_ge (C : Cs) : ∀ {bl k : Nat}, k < bl → (blk C k).t.le (tab C bl)
  | 0, k, h => by omega
  | bl + 1, k, h => by
    unfold tab
    by_cases hk : k = bl
    · subst hk; exact (T4.le_up _ _).2
    · exact T4.le_trans (tab_ge C (by omega)) (T4.le_up _ _).1

/-- what a message makes of the table -/
theorem FR.tabs {n f bl : Nat} {g : Int} {d : M.Dv} {C : Cs} (h : FR n f bl g d C) (hg : g + 1 < 4611686018427387904) (m : Mg) :
    (tab C bl).le (tab (takC n f bl d C m) bl) ∧
    (takI n f bl d C m = true → (m.kind = 10 ∨ m.kind = 12) ∧ may m = true) ∧
    (takI n f bl d C m = true → (takA n f bl d C m).e = 0 → m.kind = 10 → 0 ≤ m.block → m.block < (bl : Int) → above m.epoch m.seq (getV bl C m.block).1 (getV bl C m.block).2.1 = true →
      (Mg.t4 m).le (tab (takC n f bl d C m) bl) ∧ (0 ≤ m.client → m.n ≤ (tab (takC n f bl d C m) bl).get m.client)) ∧
    (takI n f bl d C m = true → (takA n f bl d C m).e = 0 → m.kind = 12 → tab (takC n f bl d C m) bl = ⟨(takA n f bl d C m).t0, (takA n f bl d C m).t1, (takA n f bl d C m).t2, (takA n f bl d C m).t3⟩) := by
  obtain ⟨_, h2, h3, h4, h5, h6, h7, h8⟩ := h.take hg m
  have hnew : news bl C m = true → ∃ k, m.block = (k : Int) ∧ k < bl ∧ (((tab C bl).up (Mg.t4 m)).bump m.client m.n).le (tab (takC n f bl d C m) bl) := fun hn => by
    have hn' := hn
    unfold news fresh at hn'
    simp only [Bool.and_eq_true, decide_eq_true_eq] at hn'
    have hb := hn'.2.1.1
    unfold isB at hb
    simp at hb
    obtain ⟨k, hk⟩ := Int.eq_ofNat_of_zero_le hb.1
    refine ⟨k, hk, by omega, ?_⟩
    have hbk := h3 k
    rw [if_pos ⟨hn, hk⟩] at hbk
    have := tab_ge (takC n f bl d C m) (bl := bl) (k := k) (by omega)
    rw [hbk] at this
    exact this
  have hold : news bl C m = false → tab (takC n f bl d C m) bl = tab C bl := fun hn => tab_same (fun k => by rw [h3, if_neg (by rw [hn]; simp)]) bl
  refine ⟨?_, fun hi => (can_iff m).1 (by rw [← h4]; exact hi), fun hi he hk hb1 hb2 hab => ?_, fun hi he hk => ?_⟩
  · cases hn : news bl C m with
    | false => rw [hold hn]; exact T4.le_refl _
    | true =>
      obtain ⟨k, _, _, hle⟩ := hnew hn
      exact T4.le_trans (T4.le_trans (T4.le_up _ _).1 (T4.le_bump _ _ _)) hle
  · have hc : can m = true := by rw [← h4]; exact hi
    rw [h7 hc (.inl (by omega))] at he
    simp only at he
    rw [h5 hc] at he
    by_cases hep : m.epoch < token C
    · rw [if_pos hep] at he; omega
    · rw [if_neg hep, if_neg (show ¬ m.kind = 12 by omega)] at he
      have hib : isB bl m.block = true := by unfold isB; simp [hb1, hb2]
      rw [hib] at he
      simp only [Bool.true_eq_false, if_false] at he
      by_cases h8' : m.data.size = 8
      · have hn : news bl C m = true := by
          unfold getV at hab
          rw [if_pos hib] at hab
          unfold news ok fresh
          rw [hc, hib, hab]
          simp [hk, h8']
          omega
        obtain ⟨k, _, _, hle⟩ := hnew hn
        refine ⟨T4.le_trans (T4.le_trans (T4.le_up (tab C bl) (Mg.t4 m)).2 (T4.le_bump _ _ _)) hle, fun hcl => ?_⟩
        have hm := ((can_iff m).1 hc).2
        have h9 := T4.bump_get ((tab C bl).up (Mg.t4 m)) m.client m.n ⟨hcl, ((Ml.may_iff m).1 hm).2.2.2.2.2.1.2⟩
        have := T4.get_le hle m.client
        omega
      · rw [if_pos h8'] at he; omega
  · have hc : can m = true := by rw [← h4]; exact hi
    have hn : news bl C m = false := by unfold news; rw [decide_eq_false (show ¬ m.kind = 10 by omega)]; simp
    rw [hold hn]
    by_cases hep : m.epoch < token C
    · rw [h7 hc (.inr hep)] at he
      simp only at he
      rw [h5 hc, if_pos hep] at he
      omega
    · rw [h6 hc hk (by omega)] at he ⊢
      simp only at he ⊢
      have : loaT bl C m.block = tab C bl := by
        unfold loaT
        unfold loaE at he
        by_cases hx : m.block ≠ -1 ∧ isB bl m.block = false
        · rw [if_pos hx] at he; omega
        · rw [if_neg hx]
      rw [this]

theorem rabove_any (w : World) (a b c e : Int) :
    Calls Try.prog 18 #[.agg #[.int .i64 a, .int .i64 b], .agg #[.int .i64 c, .int .i64 e]] w fun e' w' => e' = .returned (.bool (above a b c e)) ∧ Below w.heap.size w w' := by
  have HB := Lib.hid (((Below.refl w.heap.size w).alloc (Nat.le_refl _) (.cells #[.int .i64 a, .int .i64 b] 37)).alloc (by simp) (.cells #[.int .i64 c, .int .i64 e] 37))
  by_cases h1 : c < a
  · have e0 : above a b c e = true := by unfold above; rw [decide_eq_true (show a > c from h1), Bool.true_or]
    have h3 : (a != c) = true := by rw [bne_iff_ne]; omega
    rw [e0]
    go_enter Try.func18, Try.ntmps18
    go_wp2
    go_ret
    exact ⟨rfl, HB.out⟩
  · by_cases h2 : a = c
    · subst h2
      have e0 : above a b a e = decide (e < b) := by unfold above; simp
      rw [e0]
      go_enter Try.func18, Try.ntmps18
      go_wp2
      go_ret
      exact ⟨rfl, HB.out⟩
    · have e0 : above a b c e = false := by unfold above; rw [decide_eq_false (show ¬ a > c from h1), decide_eq_false h2]; rfl
      have h3 : (a != c) = true := by rw [bne_iff_ne]; exact h2
      rw [e0]
      go_enter Try.func18, Try.ntmps18
      go_wp2
      go_ret
      exact ⟨rfl, HB.out⟩
end Go.Proofs.Ytofhijnfbilieaa.Bk
