/-
  The document's own net: Send, whatever comes; Copy.
-/
import Derived.Test.YthbgabmmfokioaaNtRef2
namespace Go.Proofs.Ythbgabmmfokioaa.Nt
open Go.RowKit
set_option linter.unusedVariables false
set_option linter.unusedSimpArgs false
set_option maxRecDepth 100000
section
variable {w : World} {p : Nat} {a : Option Addr} {l : List Lt}

/-- Send, whatever comes -/
theorem rsend_any (h : NAt tR w p a l) (x : Lt) : Calls Try.prog 12 #[.pointer (some ⟨p, 0, none⟩), ltV x] w fun e w' => e = .returned (.int .i64 (sendE l x)) ∧
    ∃ a', NAt tR w' p a' (sendL l x) ∧ Anew w a a' ∧ But [p, blk p a] w w' := by
  have no : ∀ k : Int, k ≠ 0 → sendE l x = k → (Calls Try.prog 12 #[.pointer (some ⟨p, 0, none⟩), ltV x] w fun e w' => e = .returned (.int .i64 k) ∧ Below w.heap.size w w') →
      Calls Try.prog 12 #[.pointer (some ⟨p, 0, none⟩), ltV x] w fun e w' => e = .returned (.int .i64 (sendE l x)) ∧ ∃ a', NAt tR w' p a' (sendL l x) ∧ Anew w a a' ∧ But [p, blk p a] w w' := fun k hk he hc => by
    refine hc.mono ?_
    rintro e w' ⟨rfl, hb⟩
    rw [sendL_no (by rw [he]; exact hk), he]
    exact ⟨rfl, a, h.below hb (Nat.le_refl _), Anew.refl _ _, (But.of_below hb).mono (by simp)⟩
  by_cases h1 : place x.fr = true
  · by_cases h2 : place x.to = true
    · by_cases h3 : x.fr = x.to
      · exact no 1 (by decide) (by unfold sendE; simp [h1, h2, h3]) (rsend_arg h x (.inr (.inr h3)))
      · by_cases h4 : x.body.size ≤ 200
        · by_cases h5 : l.length < 300
          · have e := sendE_of h1 h2 h3 h4 h5
            rw [e, sendL_ok e]
            exact rsend_ok h x h1 h2 h3 h4 h5
          · refine no 5 (by decide) ?_ (rsend_many h x h1 h2 h3 h4 (by omega))
            unfold sendE
            rw [if_neg (by simp [h1]), if_neg (by simp [h2]), if_neg h3, if_neg (by omega), if_pos (by omega)]
        · refine no 3 (by decide) ?_ (rsend_size h x h1 h2 h3 (by omega))
          unfold sendE
          rw [if_neg (by simp [h1]), if_neg (by simp [h2]), if_neg h3, if_pos (by omega)]
    · have h2' : place x.to = false := by simpa using h2
      exact no 1 (by decide) (by unfold sendE; simp [h1, h2']) (rsend_arg h x (.inr (.inl h2')))
  · have h1' : place x.fr = false := by simpa using h1
    exact no 1 (by decide) (by unfold sendE; simp [h1']) (rsend_arg h x (.inl h1'))

theorem rcopy_none (h : NAt tR w p a []) (i : Int) : Calls Try.prog 16 #[.pointer (some ⟨p, 0, none⟩), .int .i64 i] w fun e w' => e = .returned (.bool false) ∧ w = w' := by
  have HA := Lib.hid (rat_none h i)
  clear h
  go_enter Try.func16, Try.ntmps16
  go_wp2_with (go_at_call 26; with_reducible refine HA.out.mono ?_; rintro e w' ⟨rfl, rfl⟩)
  go_ret
  exact ⟨rfl, rfl⟩
theorem rcopy_full (h : NAt tR w p a l) (hl : l ≠ []) (hf : 300 ≤ l.length) (i : Int) : Calls Try.prog 16 #[.pointer (some ⟨p, 0, none⟩), .int .i64 i] w fun e w' => e = .returned (.bool false) ∧ w = w' := by
  have HA := Lib.hid (rat_some h hl i)
  obtain ⟨cap, hc, hz, ho, _⟩ := h.cell
  have h0 : (0 : Int) ≤ ((ix i l.length : Nat) : Int) := by omega
  have h0' : decide (((ix i l.length : Nat) : Int) < 0) = false := by simp
  have hI : (300 : Int) ≤ (l.length : Int) := by omega
  generalize ix i l.length = k at *
  clear h hl hf ho
  go_enter Try.func16, Try.ntmps16
  go_wp2_with (go_at_call 26; with_reducible refine HA.out.mono ?_; rintro e w' ⟨rfl, rfl⟩)
  go_ret
  exact ⟨rfl, rfl⟩

set_option maxHeartbeats 8000000 in
theorem rcopy_some (h : NAt tR w p a l) (hl : l ≠ []) (hf : l.length < 300) (i : Int) : Calls Try.prog 16 #[.pointer (some ⟨p, 0, none⟩), .int .i64 i] w fun e w' => e = .returned (.bool true) ∧
    ∃ a', NAt tR w' p a' (l ++ [takeV l i]) ∧ Anew w a a' ∧ But [p, blk p a] w w' := by
  have h0 : 0 < l.length := by cases l; contradiction; simp
  have hA := rat_some h hl i
  obtain ⟨k, hk⟩ : ∃ k, ix i l.length = k := ⟨_, rfl⟩
  have hkl : k < l.length := by rw [← hk]; exact ix_lt i h0
  have hx0 := takeV_get i hl
  rw [hk] at hx0 hA
  obtain ⟨⟨fr, to, body⟩, hx⟩ : ∃ x, takeV l i = x := ⟨_, rfl⟩
  rw [hx] at hx0 ⊢
  have HA := Lib.hid hA
  obtain ⟨cap, hc, hz, ho, hk1, hk2⟩ := h.cell
  obtain ⟨b, off, rfl, hbl, c1, c2, c3⟩ := ho.rd.at hx0
  obtain ⟨rfl⟩ : off = 0 := by
    rcases ho with ⟨h1, _⟩ | ⟨g, cur, h1, _⟩
    · cases h1
    · injection h1 with h1; injection h1
  rw [Nat.zero_add] at c1 c2 c3
  simp only at c1 c2 c3
  have HRd : Hid (∀ W, Below w.heap.size w W → Rd W (some ⟨b, 0, none⟩) l.length l) := Lib.hid fun W hb => ho.rd.below hb (Nat.le_refl _)
  have HCell : Hid (∀ W, Below w.heap.size w W → W.cell? ⟨p, 0, none⟩ = some (.slice (some ⟨b, 0, none⟩) l.length cap) ∧ W.frozen? ⟨p, 0, none⟩ = false) := Lib.hid fun W hb =>
    ⟨(hb.cell (p := ⟨p, 0, none⟩) h.lt).trans hc, (hb.frozen (p := ⟨p, 0, none⟩) h.lt).trans hz⟩
  have HK : Hid (∀ W, Below w.heap.size w W → W.cell? ⟨p, 0, none⟩ = some (.slice (some ⟨b, 0, none⟩) l.length cap) ∧ W.cell? ⟨b, k * 3, none⟩ = some (.int .i64 fr) ∧ W.cell? ⟨b, k * 3 + 1, none⟩ = some (.int .i64 to) ∧ W.cell? ⟨b, k * 3 + 2, none⟩ = some (.string body)) := Lib.hid fun W hb =>
    ⟨(hb.cell (p := ⟨p, 0, none⟩) h.lt).trans hc, (hb.cell (p := ⟨b, k * 3, none⟩) hbl).trans c1, (hb.cell (p := ⟨b, k * 3 + 1, none⟩) hbl).trans c2, (hb.cell (p := ⟨b, k * 3 + 2, none⟩) hbl).trans c3⟩
  have HH := Lib.hid h
  have HX := Lib.hid hf
  have hI0 : (0 : Int) ≤ (k : Int) := by omega
  have hI0' : decide ((k : Int) < 0) = false := by simp
  have hI1 : (k : Int) < (l.length : Int) := by omega
  have hI : decide ((300 : Int) ≤ (l.length : Int)) = false := by simp; omega
  have HB1 := Lib.hid (Below.refl w.heap.size w)
  clear h hl h0 hf hkl hx0 hA hk ho hk1 hk2 c1 c2 c3 hbl hx
  go_enter Try.func16, Try.ntmps16
  go_wp2_with (go_at_call 26; with_reducible refine HA.out.mono ?_; rintro e w' ⟨rfl, rfl⟩)
  have k1 := HK.out _ ((Below.refl _ _).alloc (Nat.le_refl _) (.cells #[] 31))
  have k2 := HK.out _ ((Below.refl _ _).alloc (Nat.le_refl _) (.cells #[.int .i64 fr, .int .i64 to, .string body] 31))
  have k3 := HK.out _ (((Below.refl _ _).alloc (Nat.le_refl _) (.cells #[] 31)).alloc (by simp) (.cells #[.int .i64 fr, .int .i64 to, .string body] 31))
  have k4 := HK.out _ (((Below.refl _ _).alloc (Nat.le_refl _) (.cells #[.int .i64 fr, .int .i64 to, .string body] 31)).alloc (by simp) (.cells #[] 31))
  have k0 := HK.out _ (Below.refl _ _)
  obtain ⟨k0a, k0b, k0c, k0d⟩ := k0
  obtain ⟨k1a, k1b, k1c, k1d⟩ := k1
  obtain ⟨k2a, k2b, k2c, k2d⟩ := k2
  obtain ⟨k3a, k3b, k3c, k3d⟩ := k3
  obtain ⟨k4a, k4b, k4c, k4d⟩ := k4
  go_region_law
    (first
      | (refine step_append_L _ (by rfl) (.tmp 20) (.tmp 24) (by rfl) _ 0 0 [] (by rfl) rfl (own_at (by first | exact (drew_at _ _).trans (top_at (by simp; done)) | exact (drew_at _ _).trans ((deep_at (by simp)).trans (top_at (by simp; done))) | exact (drew_at _ _).trans ((deep_at (by simp)).trans (top_at rfl)) | exact (drew_at _ _).trans (top_at rfl))) _ l.length cap l (by rfl) (HRd.out _ (by repeat (first | with_reducible exact Below.refl _ _ | refine Below.drew ?_ | refine Below.alloc ?_ (by simp; try omega) _))) (by have := HX.out; omega) ?_
         intro a4 cap4 w4 o4 gr4 n4
         have HB4 : Hid (Below w.heap.size w w4) := Lib.hid (by
           refine Below.grown ?_ gr4 (by simp; try omega) (by intro k hk; simp [Value.ownBlock] at hk; omega)
           repeat (first | with_reducible exact Below.refl _ _ | refine Below.drew ?_ | refine Below.alloc ?_ (by simp; try omega) _))
         have O4 : Hid (OwnL w4 a4 cap4 l) := Lib.hid (by simpa using o4)
         have F4 : Hid (Fresh w.heap.size a4) := Lib.hid (Fresh.anew (a := some ⟨_, 0, none⟩) (fun x hx => by injection hx with hx; subst hx; simp; try omega) n4 (by simp; try omega))
         have k9 := HK.out _ HB4.out
         obtain ⟨k9a, k9b, k9c, k9d⟩ := k9
         clear o4 n4)
      | (refine step_append_L _ (by rfl) (.tmp 25) (.tmp 33) (by rfl) a4 l.length cap4 l (by rfl) rfl (by first | exact O4.out | exact O4.out.below ((Below.refl _ _).alloc (Nat.le_refl _) _) (Nat.le_refl _)) _ 1 1 [⟨fr, to, body⟩] (by rfl) (rd_one (by first | exact heap_alloc_new _ _ | (refine (gr4.block _ (by simp; try omega) (by simp [Value.ownBlock]; try omega)).trans ?_; first | exact (drew_at _ _).trans (top_at (by simp; done)) | exact (drew_at _ _).trans ((deep_at (by simp)).trans (top_at (by simp; done))) | exact (drew_at _ _).trans ((deep_at (by simp)).trans (top_at rfl)) | exact (drew_at _ _).trans (top_at rfl)))) (by have := HX.out; omega) ?_
         intro a5 cap5 w5 o5 gr5 n5
         have HB5 : Hid (Below w.heap.size w w5) := Lib.hid (by
           refine Below.grown ?_ gr5 (by have := HB4.out.size; simp; omega) (fun k hk => F4.out.rb k (own_rb hk))
           first | exact HB4.out | exact HB4.out.alloc HB4.out.size _)
         have F5 : Hid (Fresh w.heap.size a5) := Lib.hid (F4.out.anew n5 (by have := HB4.out.size; simp; omega))
         have HA5 := Lib.hid (after_store (by decide) HH.out HB5.out o5 F5.out (by rintro rfl; rcases o5 with ⟨_, _, h⟩ | ⟨_, _, h, _⟩; (simp at h); (cases h)) (by have := HX.out; simp; omega))
         have p5 := (HCell.out w5 HB5.out).1
         have f5 := (HCell.out w5 HB5.out).2
         clear o5 gr5 n5))
  all_goals
    go_wp2
    go_ret
    have e : (l ++ [(⟨fr, to, body⟩ : Lt)]).length = l.length + 1 := by simp
    have := HA5.out.2.2
    rw [e] at this
    exact ⟨rfl, a5, this.1, this.2.1, this.2.2⟩

theorem rcopy_any (h : NAt tR w p a l) (i : Int) : Calls Try.prog 16 #[.pointer (some ⟨p, 0, none⟩), .int .i64 i] w fun e w' => e = .returned (.bool (copyB l)) ∧
    ∃ a', NAt tR w' p a' (copyL l i) ∧ Anew w a a' ∧ But [p, blk p a] w w' := by
  have no : copyB l = false → (Calls Try.prog 16 #[.pointer (some ⟨p, 0, none⟩), .int .i64 i] w fun e w' => e = .returned (.bool false) ∧ w = w') →
      Calls Try.prog 16 #[.pointer (some ⟨p, 0, none⟩), .int .i64 i] w fun e w' => e = .returned (.bool (copyB l)) ∧ ∃ a', NAt tR w' p a' (copyL l i) ∧ Anew w a a' ∧ But [p, blk p a] w w' := fun he hc => by
    refine hc.mono ?_
    rintro e w' ⟨rfl, rfl⟩
    rw [copyL_no he, he]
    exact ⟨rfl, a, h, Anew.refl _ _, But.refl _ _⟩
  by_cases hl : l = []
  · subst hl
    exact no rfl (rcopy_none h i)
  · by_cases hf : l.length < 300
    · have e : copyB l = true := by
        unfold copyB
        cases l
        · contradiction
        · simpa using hf
      rw [e, copyL_ok e]
      exact rcopy_some h hl hf i
    · exact no (by unfold copyB; simp; omega) (rcopy_full h hl (by omega) i)
end
end Go.Proofs.Ythbgabmmfokioaa.Nt
