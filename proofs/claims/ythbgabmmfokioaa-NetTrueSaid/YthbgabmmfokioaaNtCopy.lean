/-
  A net: Copy.
-/
import Derived.Test.YthbgabmmfokioaaNtTake
namespace Go.Proofs.Ythbgabmmfokioaa.Nt
open Go.RowKit
set_option linter.unusedVariables false
set_option linter.unusedSimpArgs false
set_option maxRecDepth 20000
section
variable {w : World} {p : Nat} {a : Option Addr} {l : List Lt}

theorem copy_none (h : NAt tN w p a []) (i : Int) : Calls Try.prog 15 #[.pointer (some ⟨p, 0, none⟩), .int .i64 i] w fun e w' => e = .returned (.bool false) ∧ w = w' := by
  have HA := Lib.hid (at_none h i)
  clear h
  go_enter Try.func15, Try.ntmps15
  go_wp2_with (go_at_call 25; with_reducible refine HA.out.mono ?_; rintro e w' ⟨rfl, rfl⟩)
  go_ret
  exact ⟨rfl, rfl⟩
theorem copy_full (h : NAt tN w p a l) (hl : l ≠ []) (hf : 300 ≤ l.length) (i : Int) : Calls Try.prog 15 #[.pointer (some ⟨p, 0, none⟩), .int .i64 i] w fun e w' => e = .returned (.bool false) ∧ w = w' := by
  have HA := Lib.hid (at_some h hl i)
  have HF := Lib.hid (full_yes h hf)
  clear h hl hf
  go_enter Try.func15, Try.ntmps15
  go_wp2_with (first
    | (go_at_call 25; with_reducible refine HA.out.mono ?_; rintro e w' ⟨rfl, rfl⟩)
    | (go_at_call 24; with_reducible refine HF.out.mono ?_; rintro e w' ⟨rfl, rfl⟩))
  go_ret
  exact ⟨rfl, rfl⟩

set_option maxHeartbeats 2000000 in
theorem copy_some (h : NAt tN w p a l) (hl : l ≠ []) (hf : l.length < 300) (i : Int) : Calls Try.prog 15 #[.pointer (some ⟨p, 0, none⟩), .int .i64 i] w fun e w' => e = .returned (.bool true) ∧
    ∃ a', NAt tN w' p a' (l ++ [takeV l i]) ∧ Anew w a a' ∧ But [p, blk p a] w w' := by
  have h0 : 0 < l.length := by cases l; contradiction; simp
  have hA := at_some h hl i
  obtain ⟨k, hk⟩ : ∃ k, ix i l.length = k := ⟨_, rfl⟩
  have hkl : k < l.length := by rw [← hk]; exact ix_lt i h0
  have hx0 := takeV_get i hl
  rw [hk] at hx0 hA
  obtain ⟨⟨fr, to, body⟩, hx⟩ : ∃ x, takeV l i = x := ⟨_, rfl⟩
  rw [hx] at hx0 ⊢
  have HA := Lib.hid hA
  have HF := Lib.hid (full_no h hf)
  obtain ⟨cap, hc, hz, ho, hk1, hk2⟩ := h.cell
  have hb1 := (Below.refl w.heap.size w).alloc (Nat.le_refl _) (.cells #[.int .i64 fr, .int .i64 to, .string body] 31)
  obtain ⟨b, off, rfl, hbl, c1, c2, c3⟩ := ho.rd.at hx0
  obtain ⟨rfl⟩ : off = 0 := by
    rcases ho with ⟨h1, _⟩ | ⟨g, cur, h1, _⟩
    · cases h1
    · injection h1 with h1; injection h1
  rw [Nat.zero_add] at c1 c2 c3
  have HH := Lib.hid h
  have HB := Lib.hid hb1
  have HC := Lib.hid hc
  have HX := Lib.hid hf
  have hc2 : (w.alloc (.cells #[.int .i64 fr, .int .i64 to, .string body] 31)).cell? ⟨p, 0, none⟩ = some (.slice (some ⟨b, 0, none⟩) l.length cap) := by rw [hb1.cell (p := ⟨p, 0, none⟩) h.lt]; exact hc
  have HO : Hid (OwnL (w.alloc (.cells #[.int .i64 fr, .int .i64 to, .string body] 31)).drew (some ⟨b, 0, none⟩) cap l) := Lib.hid ((ho.below hb1 (Nat.le_refl _)).drew 1)
  have HR : Hid (Rd (w.alloc (.cells #[.int .i64 fr, .int .i64 to, .string body] 31)).drew (some ⟨w.heap.size, 0, none⟩) 1 [⟨fr, to, body⟩]) := Lib.hid (rd_one (w := (w.alloc _).drew) (x := ⟨fr, to, body⟩) (heap_alloc_new w _))
  have hI0 : (0 : Int) ≤ (k : Int) := by omega
  have hI1 : (k : Int) < (l.length : Int) := by omega
  clear h hl h0 hf hkl hx0 hA hk ho hb1 hk1 hk2
  go_enter Try.func15, Try.ntmps15
  go_wp2_with (first
    | (go_at_call 25; with_reducible refine HA.out.mono ?_; rintro e w' ⟨rfl, rfl⟩)
    | (go_at_call 24; with_reducible refine HF.out.mono ?_; rintro e w' ⟨rfl, rfl⟩))
  go_region_law (refine step_append_L _ rfl (.tmp 23) (.tmp 31) rfl (some ⟨b, 0, none⟩) l.length cap l rfl rfl HO.out _ 1 1 [⟨fr, to, body⟩] rfl HR.out (by have := HX.out; omega) ?_
                 intro a4 cap4 w4 o4 g4 n4
                 have HA4 := Lib.hid (after_append (by decide) HH.out (HB.out.drew) o4 g4 n4 (by have := HX.out; simp; omega))
                 have p4 := HA4.out.1.trans HC.out
                 have f4 := HA4.out.2.1
                 clear o4 g4 n4)
  all_goals
    go_wp2
    go_ret
    have e : (l ++ [(⟨fr, to, body⟩ : Lt)]).length = l.length + 1 := by simp
    have := HA4.out.2.2
    rw [e] at this
    exact ⟨rfl, a4, this.1, this.2.1, this.2.2⟩

theorem copy_any (h : NAt tN w p a l) (i : Int) : Calls Try.prog 15 #[.pointer (some ⟨p, 0, none⟩), .int .i64 i] w fun e w' => e = .returned (.bool (copyB l)) ∧
    ∃ a', NAt tN w' p a' (copyL l i) ∧ Anew w a a' ∧ But [p, blk p a] w w' := by
  have no : copyB l = false → (Calls Try.prog 15 #[.pointer (some ⟨p, 0, none⟩), .int .i64 i] w fun e w' => e = .returned (.bool false) ∧ w = w') →
      Calls Try.prog 15 #[.pointer (some ⟨p, 0, none⟩), .int .i64 i] w fun e w' => e = .returned (.bool (copyB l)) ∧ ∃ a', NAt tN w' p a' (copyL l i) ∧ Anew w a a' ∧ But [p, blk p a] w w' := fun he hc => by
    refine hc.mono ?_
    rintro e w' ⟨rfl, rfl⟩
    rw [copyL_no he, he]
    exact ⟨rfl, a, h, Anew.refl _ _, But.refl _ _⟩
  by_cases hl : l = []
  · subst hl
    exact no rfl (copy_none h i)
  · by_cases hf : l.length < 300
    · have e : copyB l = true := by
        unfold copyB
        cases l
        · contradiction
        · simpa using hf
      rw [e, copyL_ok e]
      exact copy_some h hl hf i
    · exact no (by unfold copyB; simp; omega) (copy_full h hl (by omega) i)
end
end Go.Proofs.Ythbgabmmfokioaa.Nt
