/-
  The document's own answers for May, Number, Encode: what the reference functions answer. CONDITIONS: none.
-/
import Derived.Test.YtpggpgbkeafgnaaCEncw
namespace Go.Proofs.Ytpggpgbkeafgnaa.C
open Go.RowKit
set_option linter.unusedVariables false
set_option linter.unusedSimpArgs false
set_option maxRecDepth 20000

theorem refmay_texts (w : World) (r : M.Rc) (aN : Option Addr) (nN cN : Nat) (aT : Option Addr) (nT cT : Nat) (h : RecAt w r aN nN cN aT nT cT) (hk : 0 ≤ r.kind ∧ r.kind ≤ 255) (h1 : nN ≤ 16) (h2 : nT ≤ 4) :
    Calls Try.prog 29 #[.agg #[.int .i64 r.kind, .slice aN nN cN, .slice aT nT cT]] w fun e w' => e = .returned (.bool (r.texts.all fun t => decide (t.size ≤ 200))) ∧ Below w.heap.size w w' := by
  obtain ⟨hk1, hk2⟩ := hk
  have g1 : decide ((16 : Int) < (nN : Int)) = false := by rw [decide_eq_false_iff_not]; omega
  have g2 : decide ((4 : Int) < (nT : Int)) = false := by rw [decide_eq_false_iff_not]; omega
  have g3 : decide (r.kind < 0) = false := by rw [decide_eq_false_iff_not]; omega
  have g4 : decide (255 < r.kind) = false := by rw [decide_eq_false_iff_not]; omega
  have HT := Lib.hid h.texts
  have hT4 : (nT : Int) ≤ 4 := by omega
  clear h
  go_enter Try.func29, Try.ntmps29
  go_wp2
  go_loop [3] (fun i => ∃ k : Nat, k ≤ nT ∧ i = .int .i64 k ∧ ∀ t ∈ r.texts.take k, t.size ≤ 200) (fun i => nT - (intOf i).toNat)
  case atStart => exact ⟨0, by omega, rfl, by simp⟩
  case round =>
    obtain ⟨k, hkl, rfl, hall⟩ := hrel
    have Hall := Lib.hid hall
    clear hall
    by_cases hlt : k < nT
    · obtain ⟨b, off, t, rfl, hb, ht, hc⟩ := row_str HT.out k hlt
      have hlim := HT.out.2
      have hltI : (k : Int) < (nT : Int) := by omega
      have hc' : (w.alloc (.cells #[.int .i64 r.kind, .slice aN nN cN, .slice (some ⟨b, off, none⟩) nT cT] 39)).cell? ⟨b, off + k, none⟩ = some (.string t) := by
        rw [((Below.refl w.heap.size w).alloc (Nat.le_refl _) _).cell (p := ⟨b, off + k, none⟩) hb]; exact hc
      have Ht := Lib.hid ht
      clear ht hc hlim
      by_cases h200 : t.size ≤ 200
      · have hs : (t.size : Int) ≤ 200 := by omega
        have H2 := Lib.hid h200
        clear h200
        go_wp2
        go_round
        case rel => exact ⟨k + 1, by omega, by go_num, fun x hx => by
          rw [take_one Ht.out] at hx
          rcases List.mem_append.1 hx with hx | hx
          · exact Hall.out x hx
          · rw [List.mem_singleton.1 hx]; exact H2.out⟩
        case measure => simp [intOf]; omega
      · have hs : (200 : Int) < (t.size : Int) := by omega
        have H2 := Lib.hid h200
        clear h200
        go_wp2
        go_ret
        refine ⟨?_, (Below.refl _ _).alloc (Nat.le_refl _) _⟩
        have : (r.texts.all fun t => decide (t.size ≤ 200)) = false := by
          rw [List.all_eq_false]
          exact ⟨t, List.mem_of_getElem? Ht.out, by simpa using H2.out⟩
        rw [this]
        rfl
    · obtain rfl : k = nT := by omega
      have hge : (k : Int) ≤ (k : Int) := Int.le_refl _
      go_wp2
      go_ret
      refine ⟨?_, (Below.refl _ _).alloc (Nat.le_refl _) _⟩
      have hl : r.texts.take k = r.texts := List.take_of_length_le (by have := HT.out.1; rw [strs_length] at this; omega)
      have : (r.texts.all fun t => decide (t.size ≤ 200)) = true := by
        rw [List.all_eq_true]
        intro x hx
        rw [decide_eq_true_eq]
        exact Hall.out x (by rw [hl]; exact hx)
      rw [this]
      rfl

theorem refmay_yes (w : World) (r : M.Rc) (aN : Option Addr) (nN cN : Nat) (aT : Option Addr) (nT cT : Nat) (h : RecAt w r aN nN cN aT nT cT) (hm : M.May r) :
    Calls Try.prog 29 #[.agg #[.int .i64 r.kind, .slice aN nN cN, .slice aT nT cT]] w fun e w' => e = .returned (.bool true) ∧ Below w.heap.size w w' := by
  obtain ⟨h1, h2, h3, h4, h5⟩ := hm
  refine (refmay_texts w r aN nN cN aT nT cT h ⟨h1, h2⟩ (by rw [h.lenN]; exact h3) (by rw [h.lenT]; exact h4)).mono ?_
  rintro e w' ⟨rfl, hb⟩
  have : (r.texts.all fun t => decide (t.size ≤ 200)) = true := by
    rw [List.all_eq_true]
    intro x hx
    rw [decide_eq_true_eq]
    exact h5 x hx
  exact ⟨by rw [this], hb⟩

theorem refmay_no (w : World) (r : M.Rc) (aN : Option Addr) (nN cN : Nat) (aT : Option Addr) (nT cT : Nat) (h : RecAt w r aN nN cN aT nT cT) (hm : ¬ M.May r) :
    Calls Try.prog 29 #[.agg #[.int .i64 r.kind, .slice aN nN cN, .slice aT nT cT]] w fun e w' => e = .returned (.bool false) ∧ Below w.heap.size w w' := by
  by_cases hs : 0 ≤ r.kind ∧ r.kind ≤ 255 ∧ nN ≤ 16 ∧ nT ≤ 4
  · obtain ⟨h1, h2, h3, h4⟩ := hs
    refine (refmay_texts w r aN nN cN aT nT cT h ⟨h1, h2⟩ h3 h4).mono ?_
    rintro e w' ⟨rfl, hb⟩
    have : (r.texts.all fun t => decide (t.size ≤ 200)) = false := by
      rw [Bool.eq_false_iff]
      intro ht
      rw [List.all_eq_true] at ht
      exact hm ⟨h1, h2, by rw [← h.lenN]; exact h3, by rw [← h.lenT]; exact h4, fun t htm => of_decide_eq_true (ht t htm)⟩
    exact ⟨by rw [this], hb⟩
  · clear hm h
    by_cases h1 : r.kind < 0
    · have g1 : decide (r.kind < 0) = true := by simpa using h1
      clear hs h1
      go_enter Try.func29, Try.ntmps29
      go_wp2
      go_ret
      exact ⟨rfl, (Below.refl _ _).alloc (Nat.le_refl _) _⟩
    · have g1 : decide (r.kind < 0) = false := by rw [decide_eq_false_iff_not]; exact h1
      by_cases h2 : 255 < r.kind
      · have g2 : decide (255 < r.kind) = true := by simpa using h2
        clear hs h1 h2
        go_enter Try.func29, Try.ntmps29
        go_wp2
        go_ret
        exact ⟨rfl, (Below.refl _ _).alloc (Nat.le_refl _) _⟩
      · have g2 : decide (255 < r.kind) = false := by rw [decide_eq_false_iff_not]; exact h2
        by_cases h3 : 16 < nN
        · have g3 : decide ((16 : Int) < (nN : Int)) = true := by rw [decide_eq_true_eq]; omega
          clear hs h1 h2 h3
          go_enter Try.func29, Try.ntmps29
          go_wp2
          go_ret
          exact ⟨rfl, (Below.refl _ _).alloc (Nat.le_refl _) _⟩
        · have g3 : decide ((16 : Int) < (nN : Int)) = false := by rw [decide_eq_false_iff_not]; omega
          have g4 : decide ((4 : Int) < (nT : Int)) = true := by rw [decide_eq_true_eq]; omega
          clear hs h1 h2 h3
          go_enter Try.func29, Try.ntmps29
          go_wp2
          go_ret
          exact ⟨rfl, (Below.refl _ _).alloc (Nat.le_refl _) _⟩

theorem own_none (W : World) (N : Nat) (hN : W.heap.size = N) : Own 5 (W.alloc (.cells #[] 5)) N (some ⟨N, 0, none⟩) 0 0 (u8s []) := by
  subst hN
  exact own_lit 5 W W.heap.size [] (Nat.le_refl _) (by simp)

theorem mod_128 (U : Nat) : (U : Int) % 128 + 128 = (((UInt8.ofNat (U % 128 + 128)).toNat : Nat) : Int) := by
  rw [M.toNat_ofNat (by omega)]
  omega

theorem vinv_wrap {n : Int} {k U : Nat} {acc : List UInt8} (h : VInv n k U acc) : IntKind.u64.wrap ((U : Int) / 128) = (U : Int) / 128 := by
  have h2 := h.2.1
  have : 2 ^ (64 - 7 * k) ≤ 2 ^ 64 := Nat.pow_le_pow_right (by omega) (by omega)
  rw [IntKind.wrap_u64]
  omega

theorem zig_neg' {n : Int} (h : M.fits n) (h0 : n < 0) : IntKind.u64.wrap (IntKind.u64.wrap (-IntKind.u64.wrap (IntKind.u64.wrap n * 2)) - 1) = (M.zig n : Int) := by
  obtain ⟨h1, h2⟩ := h
  simp only [IntKind.wrap_u64]
  unfold M.zig
  rw [if_pos h0]
  omega

set_option maxHeartbeats 1000000 in
theorem refnumber_any (n : Int) (w : World) (hn : M.fits n) :
    Calls Try.prog 30 #[.int .i64 n] w fun e w' => ∃ a cap, e = .returned (.slice a (M.num n).length cap) ∧ Own 5 w' w.heap.size a (M.num n).length cap (u8s (M.num n)) ∧ Below w.heap.size w w' := by
  have Hn := Lib.hid hn
  by_cases h0 : n < 0
  · have Hz := Lib.hid (zig_neg' hn h0)
    obtain ⟨hn1, hn2⟩ := hn
    go_enter Try.func30, Try.ntmps30
    go_wp2_with fail
    go_loopw [3, 4] (fun u b wr => ∃ (k U : Nat) (a : Option Addr) (cap : Nat) (acc : List UInt8), u = .int .u64 (U : Int) ∧ b = .slice a k cap ∧ acc.length = k ∧ Own 5 wr w.heap.size a k cap (u8s acc) ∧ Below w.heap.size w wr ∧ VInv n k U acc) (fun u _ _ => (intOf u).toNat)
    case atStart => exact ⟨0, M.zig n, _, 0, [], by first | rfl | (rw [Hz.out]), rfl, rfl, own_none w w.heap.size rfl, (Below.refl _ _).alloc (Nat.le_refl _) _, vinv_start ⟨Hn.out.1, Hn.out.2⟩⟩
    case round =>
      obtain ⟨k, U, a, cap, acc, rfl, rfl, hl, hown, hb, hv⟩ := hrel
      have Hl := Lib.hid hl
      have Ho := Lib.hid hown
      have Hb := Lib.hid hb
      have Hv := Lib.hid hv
      clear hl hown hb hv
      have hU0 : (0 : Int) ≤ (U : Int) := by omega
      by_cases h128 : U < 128
      · have hU : (U : Int) < 128 := by omega
        have Hlast := Lib.hid (vinv_last Hv.out h128)
        have Hw := Lib.hid (show (U : Int) = (((UInt8.ofNat U).toNat : Nat) : Int) by rw [M.toNat_ofNat (by omega)])
        have hk10 := Lib.hid (show k ≤ 9 from Hv.out.1)
        clear h128
        go_wp2_with (at_builtin
                     refine wpList_append_u8 _ rfl (.tmp 27) (.tmp 30) rfl w.heap.size a k cap acc rfl (own_below Ho.out ((Below.refl _ _).alloc (Nat.le_refl _) _) (Nat.le_refl _)) _ 1 1 [UInt8.ofNat U] rfl (row_byte _ _ _ Hw.out) (k + 1) rfl (by have := hk10.out; omega) (by have := Hb.out.size; simp; omega) ?_
                     intro a2 cap2 w2 hown2 hb2
                     have Ho2 := Lib.hid hown2
                     have Hb2 := Lib.hid ((Hb.out.alloc Hb.out.size (.cells #[.int .u8 (U : Int)] 5)).trans hb2)
                     clear hown2 hb2)
        go_ret
        have hl : (M.num n).length = k + 1 := by rw [Hlast.out, List.length_append, Hl.out]; rfl
        refine ⟨a2, cap2, ?_, ?_, Hb2.out⟩
        · rw [hl]; rfl
        · rw [hl, Hlast.out]; exact Ho2.out
      · have hU : (128 : Int) ≤ (U : Int) := by omega
        have Hon := Lib.hid (vinv_on Hv.out h128)
        have Hw := Lib.hid (mod_128 U)
        have hwq := vinv_wrap Hv.out
        have Hlt := Lib.hid h128
        clear h128
        go_wp2_with (at_builtin
                     refine wpList_append_u8 _ rfl (.tmp 18) (.tmp 23) rfl w.heap.size a k cap acc rfl (own_below Ho.out ((Below.refl _ _).alloc (Nat.le_refl _) _) (Nat.le_refl _)) _ 1 1 [UInt8.ofNat (U % 128 + 128)] rfl (row_byte _ _ _ Hw.out) (k + 1) rfl (by have := Hv.out.1; omega) (by have := Hb.out.size; simp; omega) ?_
                     intro a2 cap2 w2 hown2 hb2
                     have Ho2 := Lib.hid hown2
                     have Hb2 := Lib.hid ((Hb.out.alloc Hb.out.size (.cells #[.int .u8 ((U : Int) % 128 + 128)] 5)).trans hb2)
                     clear hown2 hb2)
        go_roundw
        case rel => exact ⟨k + 1, U / 128, a2, cap2, acc ++ [UInt8.ofNat (U % 128 + 128)], by go_num, rfl, by rw [List.length_append, Hl.out]; rfl, Ho2.out, Hb2.out, Hon.out⟩
        case measure => have := Hlt.out; simp [intOf]; omega
  · have Hz := Lib.hid (zig_pos h0)
    obtain ⟨hn1, hn2⟩ := hn
    go_enter Try.func30, Try.ntmps30
    go_wp2_with fail
    go_loopw [3, 4] (fun u b wr => ∃ (k U : Nat) (a : Option Addr) (cap : Nat) (acc : List UInt8), u = .int .u64 (U : Int) ∧ b = .slice a k cap ∧ acc.length = k ∧ Own 5 wr w.heap.size a k cap (u8s acc) ∧ Below w.heap.size w wr ∧ VInv n k U acc) (fun u _ _ => (intOf u).toNat)
    case atStart => exact ⟨0, M.zig n, _, 0, [], by first | rfl | (rw [Hz.out]), rfl, rfl, own_none w w.heap.size rfl, (Below.refl _ _).alloc (Nat.le_refl _) _, vinv_start ⟨Hn.out.1, Hn.out.2⟩⟩
    case round =>
      obtain ⟨k, U, a, cap, acc, rfl, rfl, hl, hown, hb, hv⟩ := hrel
      have Hl := Lib.hid hl
      have Ho := Lib.hid hown
      have Hb := Lib.hid hb
      have Hv := Lib.hid hv
      clear hl hown hb hv
      have hU0 : (0 : Int) ≤ (U : Int) := by omega
      by_cases h128 : U < 128
      · have hU : (U : Int) < 128 := by omega
        have Hlast := Lib.hid (vinv_last Hv.out h128)
        have Hw := Lib.hid (show (U : Int) = (((UInt8.ofNat U).toNat : Nat) : Int) by rw [M.toNat_ofNat (by omega)])
        have hk10 := Lib.hid (show k ≤ 9 from Hv.out.1)
        clear h128
        go_wp2_with (at_builtin
                     refine wpList_append_u8 _ rfl (.tmp 27) (.tmp 30) rfl w.heap.size a k cap acc rfl (own_below Ho.out ((Below.refl _ _).alloc (Nat.le_refl _) _) (Nat.le_refl _)) _ 1 1 [UInt8.ofNat U] rfl (row_byte _ _ _ Hw.out) (k + 1) rfl (by have := hk10.out; omega) (by have := Hb.out.size; simp; omega) ?_
                     intro a2 cap2 w2 hown2 hb2
                     have Ho2 := Lib.hid hown2
                     have Hb2 := Lib.hid ((Hb.out.alloc Hb.out.size (.cells #[.int .u8 (U : Int)] 5)).trans hb2)
                     clear hown2 hb2)
        go_ret
        have hl : (M.num n).length = k + 1 := by rw [Hlast.out, List.length_append, Hl.out]; rfl
        refine ⟨a2, cap2, ?_, ?_, Hb2.out⟩
        · rw [hl]; rfl
        · rw [hl, Hlast.out]; exact Ho2.out
      · have hU : (128 : Int) ≤ (U : Int) := by omega
        have Hon := Lib.hid (vinv_on Hv.out h128)
        have Hw := Lib.hid (mod_128 U)
        have hwq := vinv_wrap Hv.out
        have Hlt := Lib.hid h128
        clear h128
        go_wp2_with (at_builtin
                     refine wpList_append_u8 _ rfl (.tmp 18) (.tmp 23) rfl w.heap.size a k cap acc rfl (own_below Ho.out ((Below.refl _ _).alloc (Nat.le_refl _) _) (Nat.le_refl _)) _ 1 1 [UInt8.ofNat (U % 128 + 128)] rfl (row_byte _ _ _ Hw.out) (k + 1) rfl (by have := Hv.out.1; omega) (by have := Hb.out.size; simp; omega) ?_
                     intro a2 cap2 w2 hown2 hb2
                     have Ho2 := Lib.hid hown2
                     have Hb2 := Lib.hid ((Hb.out.alloc Hb.out.size (.cells #[.int .u8 ((U : Int) % 128 + 128)] 5)).trans hb2)
                     clear hown2 hb2)
        go_roundw
        case rel => exact ⟨k + 1, U / 128, a2, cap2, acc ++ [UInt8.ofNat (U % 128 + 128)], by go_num, rfl, by rw [List.length_append, Hl.out]; rfl, Ho2.out, Hb2.out, Hon.out⟩
        case measure => have := Hlt.out; simp [intOf]; omega
end Go.Proofs.Ytpggpgbkeafgnaa.C
