/-
  May, count, and the statements' own 'large' answer as the document says. CONDITIONS: none (any record).
-/
import Derived.Test.YtpoolpckabpnfaaGreatCMem
import Derived.Deep.RegionHeld3
import Derived.Laws.Bits64b
import Derived.Laws.BitsAllLaws
import Derived.StillTactics
namespace Go.Proofs.YtpoolpckabpnfaaGreat.C
open Go.RowKit
set_option linter.unusedVariables false
set_option linter.unusedSimpArgs false
set_option maxRecDepth 20000

/-- a record that lies somewhere, as its three values -/
structure RecAt (w : World) (r : M.Rc) (aN : Option Addr) (nN cN : Nat) (aT : Option Addr) (nT cT : Nat) : Prop where
  nums : Row w aN nN cN (i64s r.nums)
  texts : Row w aT nT cT (strs r.texts)

theorem RecAt.lenN {w : World} {r : M.Rc} {aN : Option Addr} {nN cN : Nat} {aT : Option Addr} {nT cT : Nat} (h : RecAt w r aN nN cN aT nT cT) : nN = r.nums.length := by
  have := h.nums.1; rw [i64s_length] at this; exact this.symm
theorem RecAt.lenT {w : World} {r : M.Rc} {aN : Option Addr} {nN cN : Nat} {aT : Option Addr} {nT cT : Nat} (h : RecAt w r aN nN cN aT nT cT) : nT = r.texts.length := by
  have := h.texts.1; rw [strs_length] at this; exact this.symm
theorem RecAt.below {w w' : World} {r : M.Rc} {aN : Option Addr} {nN cN : Nat} {aT : Option Addr} {nT cT : Nat} (h : RecAt w r aN nN cN aT nT cT) {B : Nat} (hb : Below B w w') (hB : w.heap.size ≤ B) : RecAt w' r aN nN cN aT nT cT :=
  ⟨row_below h.nums hb hB, row_below h.texts hb hB⟩

theorem count_any (w : World) (n t : Nat) (hn : n ≤ 16) (ht : t ≤ 4) :
    Calls Tryz.prog 102 #[.int .i64 (n : Int), .int .i64 (t : Int)] w fun e w' => e = .returned (.int .u8 (M.cnt n t : Int)) ∧ w = w' := by
  by_cases h : n = 16
  · have e : M.cnt n t = 240 + t := by unfold M.cnt; rw [if_pos h]
    have hb : ((n : Int) == 16) = true := by rw [beq_iff_eq]; omega
    have ew : IntKind.u8.wrap (240 + (t : Int)) = ((240 + t : Nat) : Int) := by
      simp [IntKind.wrap, IntKind.bits, IntKind.signed]; omega
    have E := Lib.hid e
    have hlo : (0 : Int) ≤ (t : Int) := by omega
    have hhi : (t : Int) ≤ 4 := by omega
    clear e h
    go_enter Tryz.func102, Tryz.ntmps102
    go_wp2
    go_ret
    exact ⟨by rw [E.out]; first | rfl | (rw [← ew]; rfl), rfl⟩
  · have e : M.cnt n t = n + 16 * t := by unfold M.cnt; rw [if_neg h]
    have hb : ((n : Int) == 16) = false := by rw [beq_eq_false_iff_ne]; omega
    have ew : IntKind.u8.wrap ((n : Int) + 16 * (t : Int)) = ((n + 16 * t : Nat) : Int) := by
      simp [IntKind.wrap, IntKind.bits, IntKind.signed]; omega
    have E := Lib.hid e
    have hlo : (0 : Int) ≤ (t : Int) := by omega
    have hhi : (t : Int) ≤ 4 := by omega
    have hlo1 : (0 : Int) ≤ (n : Int) := by omega
    have hhi1 : (n : Int) ≤ 16 := by omega
    clear e h
    go_enter Tryz.func102, Tryz.ntmps102
    go_wp2
    go_ret
    exact ⟨by rw [E.out]; first | rfl | (rw [← ew]; rfl), rfl⟩

/-! may it be? -/
theorem row_str {w : World} {a : Option Addr} {n cap : Nat} {ts : List ByteArray} (h : Row w a n cap (strs ts)) (k : Nat) (hk : k < n) :
    ∃ b off t, a = some ⟨b, off, none⟩ ∧ b < w.heap.size ∧ ts[k]? = some t ∧ w.cell? ⟨b, off + k, none⟩ = some (.string t) := by
  obtain ⟨h1, h2, h3, h4⟩ := h
  rw [strs_length] at h1
  rcases h4 with h4 | ⟨b, off, ha, hb, hc⟩
  · have := congrArg List.length h4; rw [strs_length, List.length_nil] at this; omega
  · refine ⟨b, off, ts[k]'(by omega), ha, hb, List.getElem?_eq_getElem _, ?_⟩
    rw [hc k hk]
    simp [strs, List.getElem?_eq_getElem (show k < ts.length by omega)]

theorem row_i64 {w : World} {a : Option Addr} {n cap : Nat} {ts : List Int} (h : Row w a n cap (i64s ts)) (k : Nat) (hk : k < n) :
    ∃ b off t, a = some ⟨b, off, none⟩ ∧ b < w.heap.size ∧ ts[k]? = some t ∧ w.cell? ⟨b, off + k, none⟩ = some (.int .i64 t) := by
  obtain ⟨h1, h2, h3, h4⟩ := h
  rw [i64s_length] at h1
  rcases h4 with h4 | ⟨b, off, ha, hb, hc⟩
  · have := congrArg List.length h4; rw [i64s_length, List.length_nil] at this; omega
  · refine ⟨b, off, ts[k]'(by omega), ha, hb, List.getElem?_eq_getElem _, ?_⟩
    rw [hc k hk]
    simp [i64s, List.getElem?_eq_getElem (show k < ts.length by omega)]

theorem row_u8 {w : World} {a : Option Addr} {n cap : Nat} {ts : List UInt8} (h : Row w a n cap (u8s ts)) (k : Nat) (hk : k < n) :
    ∃ b off t, a = some ⟨b, off, none⟩ ∧ b < w.heap.size ∧ ts[k]? = some t ∧ w.cell? ⟨b, off + k, none⟩ = some (.int .u8 (t.toNat : Int)) := by
  obtain ⟨h1, h2, h3, h4⟩ := h
  rw [u8s_length] at h1
  rcases h4 with h4 | ⟨b, off, ha, hb, hc⟩
  · have := congrArg List.length h4; rw [u8s_length, List.length_nil] at this; omega
  · refine ⟨b, off, ts[k]'(by omega), ha, hb, List.getElem?_eq_getElem _, ?_⟩
    rw [hc k hk]
    simp [u8s, u8, List.getElem?_eq_getElem (show k < ts.length by omega)]

theorem take_one {α : Type} {l : List α} {k : Nat} {t : α} (h : l[k]? = some t) : l.take (k + 1) = l.take k ++ [t] := by
  obtain ⟨hk, rfl⟩ := List.getElem?_eq_some_iff.1 h
  exact List.take_succ_eq_append_getElem hk

theorem may_texts (w : World) (r : M.Rc) (aN : Option Addr) (nN cN : Nat) (aT : Option Addr) (nT cT : Nat) (h : RecAt w r aN nN cN aT nT cT) (hk : 0 ≤ r.kind ∧ r.kind ≤ 255) (h1 : nN ≤ 16) (h2 : nT ≤ 4) :
    Calls Tryz.prog 101 #[.agg #[.int .i64 r.kind, .slice aN nN cN, .slice aT nT cT]] w fun e w' => e = .returned (.bool (r.texts.all fun t => decide (t.size ≤ 200))) ∧ Below w.heap.size w w' := by
  obtain ⟨hk1, hk2⟩ := hk
  have g1 : decide ((16 : Int) < (nN : Int)) = false := by rw [decide_eq_false_iff_not]; omega
  have g2 : decide ((4 : Int) < (nT : Int)) = false := by rw [decide_eq_false_iff_not]; omega
  have g3 : decide (r.kind < 0) = false := by rw [decide_eq_false_iff_not]; omega
  have g4 : decide (255 < r.kind) = false := by rw [decide_eq_false_iff_not]; omega
  have HT := Lib.hid h.texts
  have hT4 : (nT : Int) ≤ 4 := by omega
  clear h
  go_enter Tryz.func101, Tryz.ntmps101
  go_wp2
  go_loop [28] (fun i => ∃ k : Nat, k ≤ nT ∧ i = .int .i64 k ∧ ∀ t ∈ r.texts.take k, t.size ≤ 200) (fun i => nT - (intOf i).toNat)
  case atStart => exact ⟨0, by omega, rfl, by simp⟩
  case round =>
    obtain ⟨k, hkl, rfl, hall⟩ := hrel
    have Hall := Lib.hid hall
    clear hall
    by_cases hlt : k < nT
    · obtain ⟨b, off, t, rfl, hb, ht, hc⟩ := row_str HT.out k hlt
      have hlim := HT.out.2
      have hltI : (k : Int) < (nT : Int) := by omega
      have hc' : (w.alloc (.cells #[.int .i64 r.kind, .slice aN nN cN, .slice (some ⟨b, off, none⟩) nT cT] 80)).cell? ⟨b, off + k, none⟩ = some (.string t) := by
        rw [((Below.refl w.heap.size w).alloc (Nat.le_refl _) _).cell (p := ⟨b, off + k, none⟩) hb]; exact hc
      have Ht := Lib.hid ht
      clear ht hc hlim
      by_cases h200 : t.size ≤ 200
      · have hs : (t.size : Int) ≤ 200 := by omega
        have H2 := Lib.hid h200
        clear h200
        go_wp2
        go_round
        case rel => exact ⟨k + 1, by omega, by go_num, fun x hx => by
          rw [take_one Ht.out] at hx
          rcases List.mem_append.1 hx with hx | hx
          · exact Hall.out x hx
          · rw [List.mem_singleton.1 hx]; exact H2.out⟩
        case measure => simp [intOf]; omega
      · have hs : (200 : Int) < (t.size : Int) := by omega
        have H2 := Lib.hid h200
        clear h200
        go_wp2
        go_ret
        refine ⟨?_, (Below.refl _ _).alloc (Nat.le_refl _) _⟩
        have : (r.texts.all fun t => decide (t.size ≤ 200)) = false := by
          rw [List.all_eq_false]
          exact ⟨t, List.mem_of_getElem? Ht.out, by simpa using H2.out⟩
        rw [this]
        rfl
    · obtain rfl : k = nT := by omega
      have hge : (k : Int) ≤ (k : Int) := Int.le_refl _
      go_wp2
      go_ret
      refine ⟨?_, (Below.refl _ _).alloc (Nat.le_refl _) _⟩
      have hl : r.texts.take k = r.texts := List.take_of_length_le (by have := HT.out.1; rw [strs_length] at this; omega)
      have : (r.texts.all fun t => decide (t.size ≤ 200)) = true := by
        rw [List.all_eq_true]
        intro x hx
        rw [decide_eq_true_eq]
        exact Hall.out x (by rw [hl]; exact hx)
      rw [this]
      rfl

theorem may_yes (w : World) (r : M.Rc) (aN : Option Addr) (nN cN : Nat) (aT : Option Addr) (nT cT : Nat) (h : RecAt w r aN nN cN aT nT cT) (hm : M.May r) :
    Calls Tryz.prog 101 #[.agg #[.int .i64 r.kind, .slice aN nN cN, .slice aT nT cT]] w fun e w' => e = .returned (.bool true) ∧ Below w.heap.size w w' := by
  obtain ⟨h1, h2, h3, h4, h5⟩ := hm
  refine (may_texts w r aN nN cN aT nT cT h ⟨h1, h2⟩ (by rw [h.lenN]; exact h3) (by rw [h.lenT]; exact h4)).mono ?_
  rintro e w' ⟨rfl, hb⟩
  have : (r.texts.all fun t => decide (t.size ≤ 200)) = true := by
    rw [List.all_eq_true]
    intro x hx
    rw [decide_eq_true_eq]
    exact h5 x hx
  exact ⟨by rw [this], hb⟩

theorem may_no (w : World) (r : M.Rc) (aN : Option Addr) (nN cN : Nat) (aT : Option Addr) (nT cT : Nat) (h : RecAt w r aN nN cN aT nT cT) (hm : ¬ M.May r) :
    Calls Tryz.prog 101 #[.agg #[.int .i64 r.kind, .slice aN nN cN, .slice aT nT cT]] w fun e w' => e = .returned (.bool false) ∧ Below w.heap.size w w' := by
  by_cases hs : 0 ≤ r.kind ∧ r.kind ≤ 255 ∧ nN ≤ 16 ∧ nT ≤ 4
  · obtain ⟨h1, h2, h3, h4⟩ := hs
    refine (may_texts w r aN nN cN aT nT cT h ⟨h1, h2⟩ h3 h4).mono ?_
    rintro e w' ⟨rfl, hb⟩
    have : (r.texts.all fun t => decide (t.size ≤ 200)) = false := by
      rw [Bool.eq_false_iff]
      intro ht
      rw [List.all_eq_true] at ht
      exact hm ⟨h1, h2, by rw [← h.lenN]; exact h3, by rw [← h.lenT]; exact h4, fun t htm => of_decide_eq_true (ht t htm)⟩
    exact ⟨by rw [this], hb⟩
  · clear hm h
    by_cases h1 : r.kind < 0
    · have g1 : decide (r.kind < 0) = true := by simpa using h1
      clear hs h1
      go_enter Tryz.func101, Tryz.ntmps101
      go_wp2
      go_ret
      exact ⟨rfl, (Below.refl _ _).alloc (Nat.le_refl _) _⟩
    · have g1 : decide (r.kind < 0) = false := by rw [decide_eq_false_iff_not]; exact h1
      by_cases h2 : 255 < r.kind
      · have g2 : decide (255 < r.kind) = true := by simpa using h2
        clear hs h1 h2
        go_enter Tryz.func101, Tryz.ntmps101
        go_wp2
        go_ret
        exact ⟨rfl, (Below.refl _ _).alloc (Nat.le_refl _) _⟩
      · have g2 : decide (255 < r.kind) = false := by rw [decide_eq_false_iff_not]; exact h2
        by_cases h3 : 16 < nN
        · have g3 : decide ((16 : Int) < (nN : Int)) = true := by rw [decide_eq_true_eq]; omega
          clear hs h1 h2 h3
          go_enter Tryz.func101, Tryz.ntmps101
          go_wp2
          go_ret
          exact ⟨rfl, (Below.refl _ _).alloc (Nat.le_refl _) _⟩
        · have g3 : decide ((16 : Int) < (nN : Int)) = false := by rw [decide_eq_false_iff_not]; omega
          have g4 : decide ((4 : Int) < (nT : Int)) = true := by rw [decide_eq_true_eq]; omega
          clear hs h1 h2 h3
          go_enter Tryz.func101, Tryz.ntmps101
          go_wp2
          go_ret
          exact ⟨rfl, (Below.refl _ _).alloc (Nat.le_refl _) _⟩
end Go.Proofs.YtpoolpckabpnfaaGreat.C
