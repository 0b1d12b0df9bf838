/-
  A net: Take, Drop.
-/
import Derived.Test.YthbgabmmfokioaaNtSend
import Derived.IntWalk
namespace Go.Proofs.Ythbgabmmfokioaa.Nt
open Go.RowKit
set_option linter.unusedVariables false
set_option linter.unusedSimpArgs false
set_option maxRecDepth 20000
section
variable {w : World} {p : Nat} {a : Option Addr} {l : List Lt}

theorem take_none (h : NAt tN w p a []) (i : Int) : Calls Try.prog 13 #[.pointer (some ⟨p, 0, none⟩), .int .i64 i] w fun e w' => e = .returned (.tuple #[ltV default, .bool false]) ∧ Below w.heap.size w w' := by
  have HA := Lib.hid (at_none (h.below ((Below.refl _ _).alloc (Nat.le_refl _) (.cells #[.int .i64 0, .int .i64 0, .string ⟨#[]⟩] 31)) (Nat.le_refl _)) i)
  clear h
  go_enter Try.func13, Try.ntmps13
  go_wp2_with (go_at_call 25; with_reducible refine HA.out.mono ?_; rintro e w' ⟨rfl, rfl⟩)
  refine bodyPost_ret_by ?_ rfl ⟨rfl, (Below.refl _ _).alloc (Nat.le_refl _) _⟩
  simp [results, Try.results13, go_sem]
  rfl

set_option maxHeartbeats 2000000 in
theorem take_some (h : NAt tN w p a l) (hl : l ≠ []) (i : Int) : Calls Try.prog 13 #[.pointer (some ⟨p, 0, none⟩), .int .i64 i] w fun e w' => e = .returned (.tuple #[ltV (takeV l i), .bool true]) ∧
    ∃ a', NAt tN w' p a' (takeL l i) ∧ Anew w a a' ∧ But [p, blk p a] w w' := by
  have h0 : 0 < l.length := by cases l; contradiction; simp
  obtain ⟨k, hk⟩ : ∃ k, ix i l.length = k := ⟨_, rfl⟩
  have hkl : k < l.length := by rw [← hk]; exact ix_lt i h0
  have hx0 := takeV_get i hl
  rw [hk] at hx0
  obtain ⟨⟨fr, to, body⟩, hx⟩ : ∃ x, takeV l i = x := ⟨_, rfl⟩
  rw [hx] at hx0
  have hb1 := (Below.refl w.heap.size w).alloc (Nat.le_refl _) (.cells #[.int .i64 0, .int .i64 0, .string ⟨#[]⟩] 31)
  have hb2 := hb1.alloc hb1.size (.cells #[.int .i64 fr, .int .i64 to, .string body] 31)
  have hA := at_some (h.below hb1 (Nat.le_refl _)) hl i
  rw [hk] at hA
  have HA := Lib.hid hA
  obtain ⟨cap, hc, hf, ho, hk1, hk2⟩ := (h.below hb1 (Nat.le_refl _)).cell
  obtain ⟨b, off, rfl, hbl, c1, c2, c3⟩ := ho.rd.at hx0
  obtain ⟨rfl⟩ : off = 0 := by
    rcases ho with ⟨h1, _⟩ | ⟨g, cur, h1, _⟩
    · cases h1
    · injection h1 with h1; injection h1
  rw [Nat.zero_add] at c1 c2 c3
  have HH := Lib.hid h
  have HB := Lib.hid hb2
  have hlen := h.len
  have hcw : w.cell? ⟨p, 0, none⟩ = some (.slice (some ⟨b, 0, none⟩) l.length cap) := by rw [← hb1.cell (p := ⟨p, 0, none⟩) h.lt]; exact hc
  have HC := Lib.hid hcw
  have hc2 : ((w.alloc (.cells #[.int .i64 0, .int .i64 0, .string ⟨#[]⟩] 31)).alloc (.cells #[.int .i64 fr, .int .i64 to, .string body] 31)).cell? ⟨p, 0, none⟩ = some (.slice (some ⟨b, 0, none⟩) l.length cap) := by
    rw [hb2.cell (p := ⟨p, 0, none⟩) h.lt]; exact hcw
  have ho2 := ho.below (w' := (w.alloc (.cells #[.int .i64 0, .int .i64 0, .string ⟨#[]⟩] 31)).alloc (.cells #[.int .i64 fr, .int .i64 to, .string body] 31)) ((Below.refl _ _).alloc (Nat.le_refl _) _) (Nat.le_refl _)
  have HO : Hid (OwnL ((w.alloc (.cells #[.int .i64 0, .int .i64 0, .string ⟨#[]⟩] 31)).alloc (.cells #[.int .i64 fr, .int .i64 to, .string body] 31)).drew (some ⟨b, 0, none⟩) k (l.take k)) := Lib.hid ((ho2.cut k (by omega)).drew 1)
  obtain ⟨A, hA1, hA2⟩ : ∃ A : Option Addr, (if cap = k + 1 then some (⟨b, 0, none⟩ : Addr) else some ⟨b, (k + 1) * 3, none⟩) = A ∧ Rd ((w.alloc (.cells #[.int .i64 0, .int .i64 0, .string ⟨#[]⟩] 31)).alloc (.cells #[.int .i64 fr, .int .i64 to, .string body] 31)).drew A (l.length - (k + 1)) (l.drop (k + 1)) := by
    refine ⟨_, rfl, ?_⟩
    by_cases hcap : cap = k + 1
    · have e : l.length - (k + 1) = 0 := by omega
      rw [e, List.drop_of_length_le (by omega)]
      exact Rd.nil _ _
    · have hd := (ho2.rd.drop (k + 1) (by omega)).drew 1
      rw [Nat.zero_add ((k + 1) * 3)] at hd
      rw [if_neg hcap]
      exact hd
  have HR := Lib.hid hA2
  have HL : Hid (l.length ≤ 300 ∧ k < l.length ∧ (l.take k).length = k ∧ cutL l k = l.take k ++ l.drop (k + 1) ∧ takeL l i = cutL l k ∧ (cutL l k).length = k + (l.length - (k + 1))) := Lib.hid ⟨hlen, hkl, by simp; omega, rfl, by unfold takeL; rw [hk], by rw [cutL_length hkl]; omega⟩
  have hpw : p < w.heap.size := h.lt
  have hbw : b < w.heap.size := h.ltb
  have HW : Hid (((w.alloc (.cells #[.int .i64 0, .int .i64 0, .string ⟨#[]⟩] 31)).alloc (.cells #[.int .i64 fr, .int .i64 to, .string body] 31)).drew.heap[w.heap.size + 1]? = some (.cells #[.int .i64 fr, .int .i64 to, .string body] 31 (0, 0))) := Lib.hid (by
    have e := heap_alloc_new (w.alloc (.cells #[.int .i64 0, .int .i64 0, .string ⟨#[]⟩] 31)) (.cells #[.int .i64 fr, .int .i64 to, .string body] 31)
    rw [show (w.alloc (.cells #[.int .i64 0, .int .i64 0, .string ⟨#[]⟩] 31)).heap.size = w.heap.size + 1 by simp] at e
    exact e)
  have hI0 : (0 : Int) ≤ (k : Int) := by omega
  have hI1 : (k : Int) < (l.length : Int) := by omega
  have hI2 : (l.length : Int) ≤ 300 := by omega
  have hI3 : (l.length : Int) ≤ (cap : Int) := by omega
  have hI4 : (k : Int) ≤ (cap : Int) := by omega
  have hI5 : (k : Int) + 1 ≤ (l.length : Int) := by omega
  have hN1 : k ≤ cap := by omega
  have hI6 : (0 : Int) ≤ (k : Int) + 1 := by omega
  have hw1 : IntKind.i64.wrap ((k : Int) + 1) = (k : Int) + 1 := IntWalk.i64_in _ (by omega)
  have ht1 : ((k : Int) + 1).toNat = k + 1 := by omega
  rw [hx]
  simp only [ltV]
  clear h hl h0 hkl hx0 hb1 hb2 hA ho ho2 hA2 hcw hk1 hk2 hk hlen
  go_enter Try.func13, Try.ntmps13
  go_wp2_with (go_at_call 25; with_reducible refine HA.out.mono ?_; rintro e w' ⟨rfl, rfl⟩)
  go_region_law (refine step_append_L _ rfl (.tmp 32) (.tmp 39) rfl (some ⟨b, 0, none⟩) k k (l.take k) rfl HL.out.2.2.1 HO.out A (l.length - (k + 1)) (cap - (k + 1)) (l.drop (k + 1)) rfl HR.out (by have := HL.out; omega) ?_
                 intro a4 cap4 w4 o4 g4 n4
                 have HA4 := Lib.hid (after_append (m := cutL l k) (by decide) HH.out (HB.out.drew) o4 g4 n4 (by have := HL.out; omega))
                 have HN4 := Lib.hid n4
                 have p4 := HA4.out.1.trans HC.out
                 have f4 := HA4.out.2.1
                 have H0 : Hid (w4.heap[w.heap.size]? = some (.cells #[.int .i64 0, .int .i64 0, .string ⟨#[]⟩] 31 (0, 0)) ∧ w4.heap[w.heap.size + 1]? = some (.cells #[.int .i64 fr, .int .i64 to, .string body] 31 (0, 0))) := Lib.hid (by
                   refine ⟨(g4.block _ (by simp; omega) (by simp [Value.ownBlock]; omega)).trans ?_, (g4.block _ (by simp) (by simp [Value.ownBlock]; omega)).trans ?_⟩
                   · exact (Below.heap_alloc _ _ _ (by simp)).trans (heap_alloc_new w _)
                   · exact HW.out)
                 have q0 : w4.cell? ⟨w.heap.size + 1, 0, none⟩ = some (.int .i64 fr) := by simp [World.cell?, H0.out.2]
                 have q1 : w4.cell? ⟨w.heap.size + 1, 1, none⟩ = some (.int .i64 to) := by simp [World.cell?, H0.out.2]
                 have q2 : w4.cell? ⟨w.heap.size + 1, 2, none⟩ = some (.string body) := by simp [World.cell?, H0.out.2]
                 have r0 : w4.cell? ⟨w.heap.size, 0, none⟩ = some (.int .i64 0) := by simp [World.cell?, H0.out.1]
                 have r1 : w4.cell? ⟨w.heap.size, 1, none⟩ = some (.int .i64 0) := by simp [World.cell?, H0.out.1]
                 have r2 : w4.cell? ⟨w.heap.size, 2, none⟩ = some (.string ⟨#[]⟩) := by simp [World.cell?, H0.out.1]
                 have z0 : w4.frozen? ⟨w.heap.size, 0, none⟩ = false := by simp [World.frozen?, H0.out.1]
                 have z1 : w4.frozen? ⟨w.heap.size, 1, none⟩ = false := by simp [World.frozen?, H0.out.1]
                 have z2 : w4.frozen? ⟨w.heap.size, 2, none⟩ = false := by simp [World.frozen?, H0.out.1]
                 clear o4 g4 n4)
  all_goals
    go_wp2
    have e := HL.out.2.2.2.2.2
    have A2 := HA4.out.2.2
    rw [e, ← HL.out.2.2.2.2.1] at A2
    refine bodyPost_ret_by ?_ rfl ⟨rfl, a4, ?_, A2.2.1, ?_⟩
    · have x0 : (w4.setCell ⟨p, 0, none⟩ (.slice a4 (k + (l.length - (k + 1))) cap4)).cell? ⟨w.heap.size, 0, none⟩ = some (.int .i64 0) := by rw [World.cell?_setCell_other _ _ _ _ (by intro e; injection e; omega)]; exact r0
      have x1 : (w4.setCell ⟨p, 0, none⟩ (.slice a4 (k + (l.length - (k + 1))) cap4)).cell? ⟨w.heap.size, 1, none⟩ = some (.int .i64 0) := by rw [World.cell?_setCell_other _ _ _ _ (by intro e; injection e; omega)]; exact r1
      have x2 : (w4.setCell ⟨p, 0, none⟩ (.slice a4 (k + (l.length - (k + 1))) cap4)).cell? ⟨w.heap.size, 2, none⟩ = some (.string ⟨#[]⟩) := by rw [World.cell?_setCell_other _ _ _ _ (by intro e; injection e; omega)]; exact r2
      simp [results, Try.results13, go_sem, x0, x1, x2]
    · exact A2.1.but (q := [w.heap.size]) (((((But.refl _ _).set _ (.inl (by simp)))).set _ (.inl (by simp))).set _ (.inl (by simp))) (by simp; omega) (by
        rcases HN4.out with e | ⟨g, e, hg⟩
        · rw [e]; simp [blk]; omega
        · rw [e]; simp [blk] at hg ⊢; omega)
    · exact ((A2.2.2.set _ (.inr (Nat.le_refl _))).set _ (.inr (Nat.le_refl _))).set _ (.inr (Nat.le_refl _))

/-- Take, whatever number comes -/
theorem take_any (h : NAt tN w p a l) (i : Int) : Calls Try.prog 13 #[.pointer (some ⟨p, 0, none⟩), .int .i64 i] w fun e w' => e = .returned (.tuple #[ltV (takeV l i), .bool (takeB l)]) ∧
    ∃ a', NAt tN w' p a' (takeL l i) ∧ Anew w a a' ∧ But [p, blk p a] w w' := by
  by_cases hl : l = []
  · subst hl
    refine (take_none h i).mono ?_
    rintro e w' ⟨rfl, hb⟩
    rw [takeL_nil]
    exact ⟨rfl, a, h.below hb (Nat.le_refl _), Anew.refl _ _, (But.of_below hb).mono (by simp)⟩
  · have e : takeB l = true := by cases l; contradiction; rfl
    rw [e]
    exact take_some h hl i

theorem drop_any (h : NAt tN w p a l) (i : Int) : Calls Try.prog 17 #[.pointer (some ⟨p, 0, none⟩), .int .i64 i] w fun e w' => e = .returned (.bool (takeB l)) ∧
    ∃ a', NAt tN w' p a' (takeL l i) ∧ Anew w a a' ∧ But [p, blk p a] w w' := by
  have HT := Lib.hid (take_any h i)
  have HH := Lib.hid h
  obtain ⟨⟨fr, to, body⟩, hx⟩ : ∃ x, takeV l i = x := ⟨_, rfl⟩
  rw [hx] at HT
  simp only [ltV] at HT
  clear h hx
  go_enter Try.func17, Try.ntmps17
  go_wp2_with (go_at_call 13; with_reducible refine HT.out.mono ?_; rintro e w' ⟨rfl, hq⟩
               have HQ := Lib.hid hq
               clear hq)
  go_ret
  obtain ⟨a', h1, h2, h3⟩ := HQ.out
  have hb := (Below.refl w'.heap.size w').alloc (Nat.le_refl _) (.cells #[.int .i64 fr, .int .i64 to, .string body] 31)
  exact ⟨rfl, a', h1.below hb (Nat.le_refl _), h2, h3.below hb h3.size⟩
end
end Go.Proofs.Ythbgabmmfokioaa.Nt
