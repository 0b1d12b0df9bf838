/-
  The document's own answers for May, Number, Encode: what the reference functions answer. CONDITIONS: none.
  The document's own answer for Encode: what the reference function answers. CONDITIONS: none.
  The document's own answer for a number from a place on: what the reference function answers. CONDITIONS: the place lies within the bytes, or at their end.
  What stays of a record that the document's own Decode is reading, step by step; what of its own steps answer.
  The document's own answer for Decode: what the reference function answers. CONDITIONS: at most 65536 bytes.
  The document's own answer for Decode: what the reference function answers. CONDITIONS: at most 65536 bytes.
  The document's own answer for Decode: what the reference function answers. CONDITIONS: at most 65536 bytes.
-/
import Derived.Test.YtpoolpckabpnfaaGreatCEncw
import Derived.Test.YtpoolpckabpnfaaGreatCBox
import Derived.Test.YtpoolpckabpnfaaGreatCNums
import Derived.Deep.RegionLaw
namespace Go.Proofs.YtpoolpckabpnfaaGreat.C
open Go.RowKit
set_option linter.unusedVariables false
set_option linter.unusedSimpArgs false
set_option maxRecDepth 20000

theorem refmay_texts (w : World) (r : M.Rc) (aN : Option Addr) (nN cN : Nat) (aT : Option Addr) (nT cT : Nat) (h : RecAt w r aN nN cN aT nT cT) (hk : 0 ≤ r.kind ∧ r.kind ≤ 255) (h1 : nN ≤ 16) (h2 : nT ≤ 4) :
    Calls Tryz.prog 77 #[.agg #[.int .i64 r.kind, .slice aN nN cN, .slice aT nT cT]] w fun e w' => e = .returned (.bool (r.texts.all fun t => decide (t.size ≤ 200))) ∧ Below w.heap.size w w' := by
  obtain ⟨hk1, hk2⟩ := hk
  have g1 : decide ((16 : Int) < (nN : Int)) = false := by rw [decide_eq_false_iff_not]; omega
  have g2 : decide ((4 : Int) < (nT : Int)) = false := by rw [decide_eq_false_iff_not]; omega
  have g3 : decide (r.kind < 0) = false := by rw [decide_eq_false_iff_not]; omega
  have g4 : decide (255 < r.kind) = false := by rw [decide_eq_false_iff_not]; omega
  have HT := Lib.hid h.texts
  have hT4 : (nT : Int) ≤ 4 := by omega
  clear h
  go_enter Tryz.func77, Tryz.ntmps77
  go_wp2
  go_loop [3] (fun i => ∃ k : Nat, k ≤ nT ∧ i = .int .i64 k ∧ ∀ t ∈ r.texts.take k, t.size ≤ 200) (fun i => nT - (intOf i).toNat)
  case atStart => exact ⟨0, by omega, rfl, by simp⟩
  case round =>
    obtain ⟨k, hkl, rfl, hall⟩ := hrel
    have Hall := Lib.hid hall
    clear hall
    by_cases hlt : k < nT
    · obtain ⟨b, off, t, rfl, hb, ht, hc⟩ := row_str HT.out k hlt
      have hlim := HT.out.2
      have hltI : (k : Int) < (nT : Int) := by omega
      have hc' : (w.alloc (.cells #[.int .i64 r.kind, .slice aN nN cN, .slice (some ⟨b, off, none⟩) nT cT] 80)).cell? ⟨b, off + k, none⟩ = some (.string t) := by
        rw [((Below.refl w.heap.size w).alloc (Nat.le_refl _) _).cell (p := ⟨b, off + k, none⟩) hb]; exact hc
      have Ht := Lib.hid ht
      clear ht hc hlim
      by_cases h200 : t.size ≤ 200
      · have hs : (t.size : Int) ≤ 200 := by omega
        have H2 := Lib.hid h200
        clear h200
        go_wp2
        go_round
        case rel => exact ⟨k + 1, by omega, by go_num, fun x hx => by
          rw [take_one Ht.out] at hx
          rcases List.mem_append.1 hx with hx | hx
          · exact Hall.out x hx
          · rw [List.mem_singleton.1 hx]; exact H2.out⟩
        case measure => simp [intOf]; omega
      · have hs : (200 : Int) < (t.size : Int) := by omega
        have H2 := Lib.hid h200
        clear h200
        go_wp2
        go_ret
        refine ⟨?_, (Below.refl _ _).alloc (Nat.le_refl _) _⟩
        have : (r.texts.all fun t => decide (t.size ≤ 200)) = false := by
          rw [List.all_eq_false]
          exact ⟨t, List.mem_of_getElem? Ht.out, by simpa using H2.out⟩
        rw [this]
        rfl
    · obtain rfl : k = nT := by omega
      have hge : (k : Int) ≤ (k : Int) := Int.le_refl _
      go_wp2
      go_ret
      refine ⟨?_, (Below.refl _ _).alloc (Nat.le_refl _) _⟩
      have hl : r.texts.take k = r.texts := List.take_of_length_le (by have := HT.out.1; rw [strs_length] at this; omega)
      have : (r.texts.all fun t => decide (t.size ≤ 200)) = true := by
        rw [List.all_eq_true]
        intro x hx
        rw [decide_eq_true_eq]
        exact Hall.out x (by rw [hl]; exact hx)
      rw [this]
      rfl

theorem refmay_yes (w : World) (r : M.Rc) (aN : Option Addr) (nN cN : Nat) (aT : Option Addr) (nT cT : Nat) (h : RecAt w r aN nN cN aT nT cT) (hm : M.May r) :
    Calls Tryz.prog 77 #[.agg #[.int .i64 r.kind, .slice aN nN cN, .slice aT nT cT]] w fun e w' => e = .returned (.bool true) ∧ Below w.heap.size w w' := by
  obtain ⟨h1, h2, h3, h4, h5⟩ := hm
  refine (refmay_texts w r aN nN cN aT nT cT h ⟨h1, h2⟩ (by rw [h.lenN]; exact h3) (by rw [h.lenT]; exact h4)).mono ?_
  rintro e w' ⟨rfl, hb⟩
  have : (r.texts.all fun t => decide (t.size ≤ 200)) = true := by
    rw [List.all_eq_true]
    intro x hx
    rw [decide_eq_true_eq]
    exact h5 x hx
  exact ⟨by rw [this], hb⟩

theorem refmay_no (w : World) (r : M.Rc) (aN : Option Addr) (nN cN : Nat) (aT : Option Addr) (nT cT : Nat) (h : RecAt w r aN nN cN aT nT cT) (hm : ¬ M.May r) :
    Calls Tryz.prog 77 #[.agg #[.int .i64 r.kind, .slice aN nN cN, .slice aT nT cT]] w fun e w' => e = .returned (.bool false) ∧ Below w.heap.size w w' := by
  by_cases hs : 0 ≤ r.kind ∧ r.kind ≤ 255 ∧ nN ≤ 16 ∧ nT ≤ 4
  · obtain ⟨h1, h2, h3, h4⟩ := hs
    refine (refmay_texts w r aN nN cN aT nT cT h ⟨h1, h2⟩ h3 h4).mono ?_
    rintro e w' ⟨rfl, hb⟩
    have : (r.texts.all fun t => decide (t.size ≤ 200)) = false := by
      rw [Bool.eq_false_iff]
      intro ht
      rw [List.all_eq_true] at ht
      exact hm ⟨h1, h2, by rw [← h.lenN]; exact h3, by rw [← h.lenT]; exact h4, fun t htm => of_decide_eq_true (ht t htm)⟩
    exact ⟨by rw [this], hb⟩
  · clear hm h
    by_cases h1 : r.kind < 0
    · have g1 : decide (r.kind < 0) = true := by simpa using h1
      clear hs h1
      go_enter Tryz.func77, Tryz.ntmps77
      go_wp2
      go_ret
      exact ⟨rfl, (Below.refl _ _).alloc (Nat.le_refl _) _⟩
    · have g1 : decide (r.kind < 0) = false := by rw [decide_eq_false_iff_not]; exact h1
      by_cases h2 : 255 < r.kind
      · have g2 : decide (255 < r.kind) = true := by simpa using h2
        clear hs h1 h2
        go_enter Tryz.func77, Tryz.ntmps77
        go_wp2
        go_ret
        exact ⟨rfl, (Below.refl _ _).alloc (Nat.le_refl _) _⟩
      · have g2 : decide (255 < r.kind) = false := by rw [decide_eq_false_iff_not]; exact h2
        by_cases h3 : 16 < nN
        · have g3 : decide ((16 : Int) < (nN : Int)) = true := by rw [decide_eq_true_eq]; omega
          clear hs h1 h2 h3
          go_enter Tryz.func77, Tryz.ntmps77
          go_wp2
          go_ret
          exact ⟨rfl, (Below.refl _ _).alloc (Nat.le_refl _) _⟩
        · have g3 : decide ((16 : Int) < (nN : Int)) = false := by rw [decide_eq_false_iff_not]; omega
          have g4 : decide ((4 : Int) < (nT : Int)) = true := by rw [decide_eq_true_eq]; omega
          clear hs h1 h2 h3
          go_enter Tryz.func77, Tryz.ntmps77
          go_wp2
          go_ret
          exact ⟨rfl, (Below.refl _ _).alloc (Nat.le_refl _) _⟩

theorem own_none (W : World) (N : Nat) (hN : W.heap.size = N) : Own 5 (W.alloc (.cells #[] 5)) N (some ⟨N, 0, none⟩) 0 0 (u8s []) := by
  subst hN
  exact own_lit 5 W W.heap.size [] (Nat.le_refl _) (by simp)

theorem mod_128 (U : Nat) : (U : Int) % 128 + 128 = (((UInt8.ofNat (U % 128 + 128)).toNat : Nat) : Int) := by
  rw [M.toNat_ofNat (by omega)]
  omega

theorem vinv_wrap {n : Int} {k U : Nat} {acc : List UInt8} (h : VInv n k U acc) : IntKind.u64.wrap ((U : Int) / 128) = (U : Int) / 128 := by
  have h2 := h.2.1
  have : 2 ^ (64 - 7 * k) ≤ 2 ^ 64 := Nat.pow_le_pow_right (by omega) (by omega)
  rw [IntKind.wrap_u64]
  omega

theorem zig_neg' {n : Int} (h : M.fits n) (h0 : n < 0) : IntKind.u64.wrap (IntKind.u64.wrap (-IntKind.u64.wrap (IntKind.u64.wrap n * 2)) - 1) = (M.zig n : Int) := by
  obtain ⟨h1, h2⟩ := h
  simp only [IntKind.wrap_u64]
  unfold M.zig
  rw [if_pos h0]
  omega

set_option maxHeartbeats 1000000 in
theorem refnumber_any (n : Int) (w : World) (hn : M.fits n) :
    Calls Tryz.prog 78 #[.int .i64 n] w fun e w' => ∃ a cap, e = .returned (.slice a (M.num n).length cap) ∧ Own 5 w' w.heap.size a (M.num n).length cap (u8s (M.num n)) ∧ Below w.heap.size w w' := by
  have Hn := Lib.hid hn
  by_cases h0 : n < 0
  · have Hz := Lib.hid (zig_neg' hn h0)
    obtain ⟨hn1, hn2⟩ := hn
    go_enter Tryz.func78, Tryz.ntmps78
    go_wp2_with fail
    go_loopw [3, 4] (fun u b wr => ∃ (k U : Nat) (a : Option Addr) (cap : Nat) (acc : List UInt8), u = .int .u64 (U : Int) ∧ b = .slice a k cap ∧ acc.length = k ∧ Own 5 wr w.heap.size a k cap (u8s acc) ∧ Below w.heap.size w wr ∧ VInv n k U acc) (fun u _ _ => (intOf u).toNat)
    case atStart => exact ⟨0, M.zig n, _, 0, [], by first | rfl | (rw [Hz.out]), rfl, rfl, own_none w w.heap.size rfl, (Below.refl _ _).alloc (Nat.le_refl _) _, vinv_start ⟨Hn.out.1, Hn.out.2⟩⟩
    case round =>
      obtain ⟨k, U, a, cap, acc, rfl, rfl, hl, hown, hb, hv⟩ := hrel
      have Hl := Lib.hid hl
      have Ho := Lib.hid hown
      have Hb := Lib.hid hb
      have Hv := Lib.hid hv
      clear hl hown hb hv
      have hU0 : (0 : Int) ≤ (U : Int) := by omega
      by_cases h128 : U < 128
      · have hU : (U : Int) < 128 := by omega
        have Hlast := Lib.hid (vinv_last Hv.out h128)
        have Hw := Lib.hid (show (U : Int) = (((UInt8.ofNat U).toNat : Nat) : Int) by rw [M.toNat_ofNat (by omega)])
        have hk10 := Lib.hid (show k ≤ 9 from Hv.out.1)
        clear h128
        go_wp2_with (at_builtin
                     refine wpList_append_u8 _ rfl (.tmp 27) (.tmp 30) rfl w.heap.size a k cap acc rfl (own_below Ho.out ((Below.refl _ _).alloc (Nat.le_refl _) _) (Nat.le_refl _)) _ 1 1 [UInt8.ofNat U] rfl (row_byte _ _ _ Hw.out) (k + 1) rfl (by have := hk10.out; omega) (by have := Hb.out.size; simp; omega) ?_
                     intro a2 cap2 w2 hown2 hb2
                     have Ho2 := Lib.hid hown2
                     have Hb2 := Lib.hid ((Hb.out.alloc Hb.out.size (.cells #[.int .u8 (U : Int)] 5)).trans hb2)
                     clear hown2 hb2)
        go_ret
        have hl : (M.num n).length = k + 1 := by rw [Hlast.out, List.length_append, Hl.out]; rfl
        refine ⟨a2, cap2, ?_, ?_, Hb2.out⟩
        · rw [hl]; rfl
        · rw [hl, Hlast.out]; exact Ho2.out
      · have hU : (128 : Int) ≤ (U : Int) := by omega
        have Hon := Lib.hid (vinv_on Hv.out h128)
        have Hw := Lib.hid (mod_128 U)
        have hwq := vinv_wrap Hv.out
        have Hlt := Lib.hid h128
        clear h128
        go_wp2_with (at_builtin
                     refine wpList_append_u8 _ rfl (.tmp 18) (.tmp 23) rfl w.heap.size a k cap acc rfl (own_below Ho.out ((Below.refl _ _).alloc (Nat.le_refl _) _) (Nat.le_refl _)) _ 1 1 [UInt8.ofNat (U % 128 + 128)] rfl (row_byte _ _ _ Hw.out) (k + 1) rfl (by have := Hv.out.1; omega) (by have := Hb.out.size; simp; omega) ?_
                     intro a2 cap2 w2 hown2 hb2
                     have Ho2 := Lib.hid hown2
                     have Hb2 := Lib.hid ((Hb.out.alloc Hb.out.size (.cells #[.int .u8 ((U : Int) % 128 + 128)] 5)).trans hb2)
                     clear hown2 hb2)
        go_roundw
        case rel => exact ⟨k + 1, U / 128, a2, cap2, acc ++ [UInt8.ofNat (U % 128 + 128)], by go_num, rfl, by rw [List.length_append, Hl.out]; rfl, Ho2.out, Hb2.out, Hon.out⟩
        case measure => have := Hlt.out; simp [intOf]; omega
  · have Hz := Lib.hid (zig_pos h0)
    obtain ⟨hn1, hn2⟩ := hn
    go_enter Tryz.func78, Tryz.ntmps78
    go_wp2_with fail
    go_loopw [3, 4] (fun u b wr => ∃ (k U : Nat) (a : Option Addr) (cap : Nat) (acc : List UInt8), u = .int .u64 (U : Int) ∧ b = .slice a k cap ∧ acc.length = k ∧ Own 5 wr w.heap.size a k cap (u8s acc) ∧ Below w.heap.size w wr ∧ VInv n k U acc) (fun u _ _ => (intOf u).toNat)
    case atStart => exact ⟨0, M.zig n, _, 0, [], by first | rfl | (rw [Hz.out]), rfl, rfl, own_none w w.heap.size rfl, (Below.refl _ _).alloc (Nat.le_refl _) _, vinv_start ⟨Hn.out.1, Hn.out.2⟩⟩
    case round =>
      obtain ⟨k, U, a, cap, acc, rfl, rfl, hl, hown, hb, hv⟩ := hrel
      have Hl := Lib.hid hl
      have Ho := Lib.hid hown
      have Hb := Lib.hid hb
      have Hv := Lib.hid hv
      clear hl hown hb hv
      have hU0 : (0 : Int) ≤ (U : Int) := by omega
      by_cases h128 : U < 128
      · have hU : (U : Int) < 128 := by omega
        have Hlast := Lib.hid (vinv_last Hv.out h128)
        have Hw := Lib.hid (show (U : Int) = (((UInt8.ofNat U).toNat : Nat) : Int) by rw [M.toNat_ofNat (by omega)])
        have hk10 := Lib.hid (show k ≤ 9 from Hv.out.1)
        clear h128
        go_wp2_with (at_builtin
                     refine wpList_append_u8 _ rfl (.tmp 27) (.tmp 30) rfl w.heap.size a k cap acc rfl (own_below Ho.out ((Below.refl _ _).alloc (Nat.le_refl _) _) (Nat.le_refl _)) _ 1 1 [UInt8.ofNat U] rfl (row_byte _ _ _ Hw.out) (k + 1) rfl (by have := hk10.out; omega) (by have := Hb.out.size; simp; omega) ?_
                     intro a2 cap2 w2 hown2 hb2
                     have Ho2 := Lib.hid hown2
                     have Hb2 := Lib.hid ((Hb.out.alloc Hb.out.size (.cells #[.int .u8 (U : Int)] 5)).trans hb2)
                     clear hown2 hb2)
        go_ret
        have hl : (M.num n).length = k + 1 := by rw [Hlast.out, List.length_append, Hl.out]; rfl
        refine ⟨a2, cap2, ?_, ?_, Hb2.out⟩
        · rw [hl]; rfl
        · rw [hl, Hlast.out]; exact Ho2.out
      · have hU : (128 : Int) ≤ (U : Int) := by omega
        have Hon := Lib.hid (vinv_on Hv.out h128)
        have Hw := Lib.hid (mod_128 U)
        have hwq := vinv_wrap Hv.out
        have Hlt := Lib.hid h128
        clear h128
        go_wp2_with (at_builtin
                     refine wpList_append_u8 _ rfl (.tmp 18) (.tmp 23) rfl w.heap.size a k cap acc rfl (own_below Ho.out ((Below.refl _ _).alloc (Nat.le_refl _) _) (Nat.le_refl _)) _ 1 1 [UInt8.ofNat (U % 128 + 128)] rfl (row_byte _ _ _ Hw.out) (k + 1) rfl (by have := Hv.out.1; omega) (by have := Hb.out.size; simp; omega) ?_
                     intro a2 cap2 w2 hown2 hb2
                     have Ho2 := Lib.hid hown2
                     have Hb2 := Lib.hid ((Hb.out.alloc Hb.out.size (.cells #[.int .u8 ((U : Int) % 128 + 128)] 5)).trans hb2)
                     clear hown2 hb2)
        go_roundw
        case rel => exact ⟨k + 1, U / 128, a2, cap2, acc ++ [UInt8.ofNat (U % 128 + 128)], by go_num, rfl, by rw [List.length_append, Hl.out]; rfl, Ho2.out, Hb2.out, Hon.out⟩
        case measure => have := Hlt.out; simp [intOf]; omega
end Go.Proofs.YtpoolpckabpnfaaGreat.C
namespace Go.Proofs.YtpoolpckabpnfaaGreat.C
open Go.RowKit
set_option linter.unusedVariables false
set_option linter.unusedSimpArgs false
set_option maxRecDepth 20000

theorem Bx.low {w : World} {o : Obj} {w1 w2 : World} (h : Bx w o w1) (hb : Below (w.heap.size + 1) w1 w2) : Bx w o w2 := Below.trans h hb

theorem refencode_no (w : World) (r : M.Rc) (aN : Option Addr) (nN cN : Nat) (aT : Option Addr) (nT cT : Nat) (h : RecAt w r aN nN cN aT nT cT) (hm : ¬ M.May r) :
    Calls Tryz.prog 60 #[.agg #[.int .i64 r.kind, .slice aN nN cN, .slice aT nT cT]] w fun e w' => e = .returned (.tuple #[.slice none 0 0, .int .i64 4]) ∧ Below w.heap.size w w' := by
  have hb0 := (Below.refl w.heap.size w).alloc (Nat.le_refl _) (.cells #[.int .i64 r.kind, .slice aN nN cN, .slice aT nT cT] 80)
  have HM := Lib.hid (refmay_no _ r aN nN cN aT nT cT (h.below hb0 (Nat.le_refl _)) hm)
  have Hb0 := Lib.hid hb0
  clear h hm hb0
  go_enter Tryz.func60, Tryz.ntmps60
  go_wp2_with (go_at_call 77; refine HM.out.mono ?_; rintro e w1 ⟨rfl, hb⟩; have Hb := Lib.hid (Hb0.out.trans (hb.mono (by simp))); clear hb)
  go_ret2
  exact ⟨rfl, Hb.out⟩

theorem refenc_start {w w1 : World} {r : M.Rc} {nN nT : Nat} {z : Int} (hs : w.heap.size + 1 ≤ w1.heap.size)
    (hn : nN = r.nums.length) (ht : nT = r.texts.length) (hm : M.May r) (hz : z = (M.cnt nN nT : Int)) :
    Own 5 (w1.alloc (.cells #[.int .u8 r.kind, .int .u8 z] 5)) (w.heap.size + 1) (some ⟨w1.heap.size, 0, none⟩) 2 2 (u8s (hdr r)) := by
  subst hz
  have hu : u8s (hdr r) = [.int .u8 r.kind, .int .u8 (M.cnt nN nT : Int)] := by
    obtain ⟨h1, h2, h3, h4, h5⟩ := hm
    have hc : M.cnt r.nums.length r.texts.length < 256 := by unfold M.cnt; split <;> omega
    simp only [u8s, hdr, List.map_cons, List.map_nil, u8]
    rw [M.toNat_ofNat (n := r.kind.toNat) (by omega), M.toNat_ofNat hc, hn, ht, Int.toNat_of_nonneg h1]
  have := own_lit 5 w1 (w.heap.size + 1) (u8s (hdr r)) (by omega) (by simp [u8s, hdr])
  rw [hu] at this ⊢
  exact this

set_option maxHeartbeats 2000000 in
theorem refencode_yes (w : World) (r : M.Rc) (aN : Option Addr) (nN cN : Nat) (aT : Option Addr) (nT cT : Nat) (h : RecAt w r aN nN cN aT nT cT) (hm : M.May r) (hf : M.Fits r) :
    Calls Tryz.prog 60 #[.agg #[.int .i64 r.kind, .slice aN nN cN, .slice aT nT cT]] w fun e w' => ∃ a cap, e = .returned (.tuple #[.slice a (M.enc r).length cap, .int .i64 0]) ∧
      Own 5 w' w.heap.size a (M.enc r).length cap (u8s (M.enc r)) ∧ Below w.heap.size w w' := by
  have hb0 := (Below.refl w.heap.size w).alloc (Nat.le_refl _) (.cells #[.int .i64 r.kind, .slice aN nN cN, .slice aT nT cT] 80)
  have HM := Lib.hid (refmay_yes _ r aN nN cN aT nT cT (h.below hb0 (Nat.le_refl _)) hm)
  have H := Lib.hid h
  have Hm := Lib.hid hm
  have Hf := Lib.hid hf
  obtain ⟨hk1, hk2, hn16, ht4, ht200⟩ := hm
  have HnN := h.lenN
  have HnT := h.lenT
  have hn16 : nN ≤ 16 := by omega
  have ht4 : nT ≤ 4 := by omega
  have HN := Lib.hid HnN
  have HT := Lib.hid HnT
  have H200 := Lib.hid ht200
  have hnI : (nN : Int) ≤ 16 := by omega
  have htI : (nT : Int) ≤ 4 := by omega
  clear h hf hb0 ht200 HnN HnT
  by_cases h16 : nN = 16
  · have hq : ((nN : Int) == 16) = true := by rw [beq_iff_eq]; omega
    have Hz : Hid ((240 : Int) + (nT : Int) = (M.cnt nN nT : Int)) := by unfold M.cnt; rw [if_pos h16]; show _ = _; omega
    clear h16
    go_enter Tryz.func60, Tryz.ntmps60
    go_wp2_with (go_at_call 77; refine HM.out.mono ?_; rintro e w1 ⟨rfl, hb⟩; have B1 := Lib.hid ((Bx.refl w (.cells #[.int .i64 r.kind, .slice aN nN cN, .slice aT nT cT] 80)).next hb (Nat.le_refl _)); obtain ⟨c1, c2, c3⟩ := B1.out.cells; clear hb)
    have Hstart := Lib.hid (refenc_start (w := w) B1.out.size HN.out HT.out Hm.out Hz.out)
    clear c1 c2 c3
    go_loopw [5, 6] (fun b i wr => ∃ (k : Nat) (a : Option Addr) (m cap : Nat) (acc : List UInt8), k ≤ nN ∧ i = .int .i64 k ∧ b = .slice a m cap ∧ m ≤ 2 + 10 * k ∧ acc = hdr r ++ (r.nums.take k).flatMap M.num ∧ Own 5 wr (w.heap.size + 1) a m cap (u8s acc) ∧
        Bx w (.cells #[.int .i64 r.kind, .slice aN nN cN, .slice aT nT cT] 80) wr) (fun _ i _ => nN - (intOf i).toNat)
    case atStart => exact ⟨0, _, 2, 2, hdr r, by omega, rfl, rfl, by omega, by simp, Hstart.out, B1.out.alloc _⟩
    case round =>
      obtain ⟨k, a, m, cap, acc, hk, rfl, rfl, hm2, hacc, hown, hb⟩ := hrel
      have Ho := Lib.hid hown
      have Hb := Lib.hid hb
      have Hacc := Lib.hid hacc
      have Hm2 := Lib.hid hm2
      obtain ⟨c1, c2, c3⟩ := hb.cells
      clear hown hb hacc hm2
      by_cases hlt : k < nN
      · have hltI : (k : Int) < (nN : Int) := by omega
        obtain ⟨b, off, v, rfl, hbw, hv, hc0⟩ := row_i64 H.out.nums k hlt
        have hc : wr.cell? ⟨b, off + k, none⟩ = some (.int .i64 v) := by
          rw [Hb.out.old.cell (p := ⟨b, off + k, none⟩) hbw]; exact hc0
        have Hv := Lib.hid hv
        have Hfit := Lib.hid (Hf.out v (List.mem_of_getElem? hv))
        have hlen := M.num_len v
        have Hlen := Lib.hid hlen
        clear hv hc0 hlen hbw
        go_wp2_with (first
          | (go_at_call 78; refine (refnumber_any v _ Hfit.out).mono ?_; rintro e w2 ⟨a2, cap2, rfl, ho2, hb2⟩; have Ho2 := Lib.hid ho2; have Hb2 := Lib.hid hb2; clear ho2 hb2)
          | (at_builtin
             refine wpList_append_u8 _ rfl (.tmp 40) (.tmp 46) rfl (w.heap.size + 1) a m cap acc rfl (own_below Ho.out Hb2.out (Nat.le_refl _)) _ _ _ (M.num v) rfl (own_row Ho2.out).1 (m + (M.num v).length) rfl (by have := Hlen.out; have := Hm2.out; omega) (by have := Hb.out.size; have := Hb2.out.size; omega) ?_
             intro a3 cap3 w3 hown3 hb3
             have Ho3 := Lib.hid hown3
             have Hb3 := Lib.hid ((Hb.out.next Hb2.out (Nat.le_refl _)).low hb3)
             clear hown3 hb3))
        go_roundw
        case rel => exact ⟨k + 1, a3, m + (M.num v).length, cap3, acc ++ M.num v, by omega, by go_num, rfl, by have := Hlen.out; have := Hm2.out; omega, by rw [Hacc.out, take_one Hv.out]; simp, Ho3.out, Hb3.out⟩
        case measure => simp [intOf]; omega
      · obtain rfl : k = nN := by omega
        have hge : (k : Int) ≤ (k : Int) := Int.le_refl _
        have Hacc1 : Hid (acc = hdr r ++ r.nums.flatMap M.num) := by
          have := Hacc.out
          rw [List.take_of_length_le (by rw [← HN.out]; exact Nat.le_refl _)] at this
          exact this
        have hm162 : m ≤ 162 := by have := Hm2.out; omega
        have Hm162 := Lib.hid hm162
        clear Hacc Hm2 hm162
        go_wp2_with fail
        go_loopw [5, 7] (fun b i wr => ∃ (j : Nat) (a : Option Addr) (m cap : Nat) (acc : List UInt8), j ≤ nT ∧ i = .int .i64 j ∧ b = .slice a m cap ∧ m ≤ 162 + 201 * j ∧ acc = hdr r ++ r.nums.flatMap M.num ++ (r.texts.take j).flatMap M.txt ∧ Own 5 wr (w.heap.size + 1) a m cap (u8s acc) ∧
            Bx w (.cells #[.int .i64 r.kind, .slice aN k cN, .slice aT nT cT] 80) wr) (fun _ i _ => nT - (intOf i).toNat)
        case atStart => exact ⟨0, a, m, cap, acc, by omega, rfl, rfl, by have := Hm162.out; omega, by rw [Hacc1.out]; simp, Ho.out, Hb.out⟩
        case round =>
          clear Ho Hb Hacc1 Hm162 c1 c2 c3
          obtain ⟨j, a, m, cap, acc, hj, rfl, rfl, hm2, hacc, hown, hb⟩ := hrel
          have Ho := Lib.hid hown
          have Hb := Lib.hid hb
          have Hacc := Lib.hid hacc
          have Hm2 := Lib.hid hm2
          obtain ⟨c1, c2, c3⟩ := hb.cells
          clear hown hb hacc hm2
          by_cases hlt : j < nT
          · have hltI : (j : Int) < (nT : Int) := by omega
            obtain ⟨b, off, t, rfl, hbw, ht, hc0⟩ := row_str H.out.texts j hlt
            have hc : wr.cell? ⟨b, off + j, none⟩ = some (.string t) := by
              rw [Hb.out.old.cell (p := ⟨b, off + j, none⟩) hbw]; exact hc0
            have Ht := Lib.hid ht
            have Hc0 := Lib.hid (And.intro hbw hc0)
            have hsz := H200.out t (List.mem_of_getElem? ht)
            have hszI : (t.size : Int) ≤ 200 := by omega
            have Hsz := Lib.hid hsz
            have Hbyte := Lib.hid (show (t.size : Int) = (((UInt8.ofNat t.size).toNat : Nat) : Int) by rw [M.toNat_ofNat (by omega)])
            clear ht hc0 hbw hsz
            go_wp2_with (first
              | (at_builtin
                 refine wpList_append_u8 _ rfl (.tmp 55) (.tmp 63) rfl (w.heap.size + 1) a m cap acc rfl (own_below Ho.out ((Below.refl _ _).alloc (Nat.le_refl _) _) (Nat.le_refl _)) _ 1 1 [UInt8.ofNat t.size] rfl (row_byte _ _ _ Hbyte.out) (m + 1) rfl (by have := Hm2.out; omega) (by have := Hb.out.size; simp; omega) ?_
                 intro a3 cap3 w3 hown3 hb3
                 have Ho3 := Lib.hid hown3
                 have Hb3 := Lib.hid ((Hb.out.alloc (.cells #[.int .u8 (t.size : Int)] 5)).low hb3)
                 obtain ⟨k1, k2, k3⟩ := Hb3.out.cells
                 have k4 : w3.cell? ⟨b, off + j, none⟩ = some (.string t) := by rw [Hb3.out.old.cell (p := ⟨b, off + j, none⟩) Hc0.out.1]; exact Hc0.out.2
                 clear hown3 hb3)
              | (at_builtin
                 refine wpList_append_text _ rfl (.tmp 65) (.tmp 70) rfl (w.heap.size + 1) a3 (m + 1) cap3 (acc ++ [UInt8.ofNat t.size]) rfl Ho3.out t rfl (m + 1 + t.size) rfl (by have := Hm2.out; have := Hsz.out; omega) Hb3.out.size ?_
                 intro a4 cap4 w4 hown4 hb4
                 have Ho4 := Lib.hid hown4
                 have Hb4 := Lib.hid (Hb3.out.low hb4)
                 clear hown4 hb4))
            go_roundw
            case rel => exact ⟨j + 1, a4, m + 1 + t.size, cap4, _, by omega, by go_num, rfl, by have := Hm2.out; have := Hsz.out; omega, by rw [Hacc.out, take_one Ht.out]; simp [M.txt], Ho4.out, Hb4.out⟩
            case measure => simp [intOf]; omega
          · obtain rfl : j = nT := by omega
            have hge2 : (j : Int) ≤ (j : Int) := Int.le_refl _
            have Hacc2 : Hid (acc = M.enc r) := by
              have := Hacc.out
              rw [List.take_of_length_le (by rw [← HT.out]; exact Nat.le_refl _)] at this
              show acc = _
              rw [this]
              simp [M.enc, hdr]
            go_wp2_with fail
            go_ret2
            have hl : m = (M.enc r).length := by
              have := (own_row Ho.out).1.1
              rw [u8s_length, Hacc2.out] at this
              exact this.symm
            exact ⟨a, cap, by rw [← hl]; rfl, by rw [← hl, ← Hacc2.out]; exact own_mono Ho.out (by omega), Hb.out.old⟩
  · have hq : ((nN : Int) == 16) = false := by rw [beq_eq_false_iff_ne]; omega
    have Hz : Hid ((nN : Int) + 16 * (nT : Int) = (M.cnt nN nT : Int)) := by unfold M.cnt; rw [if_neg h16]; show _ = _; omega
    clear h16
    go_enter Tryz.func60, Tryz.ntmps60
    go_wp2_with (go_at_call 77; refine HM.out.mono ?_; rintro e w1 ⟨rfl, hb⟩; have B1 := Lib.hid ((Bx.refl w (.cells #[.int .i64 r.kind, .slice aN nN cN, .slice aT nT cT] 80)).next hb (Nat.le_refl _)); obtain ⟨c1, c2, c3⟩ := B1.out.cells; clear hb)
    have Hstart := Lib.hid (refenc_start (w := w) B1.out.size HN.out HT.out Hm.out Hz.out)
    clear c1 c2 c3
    go_loopw [5, 6] (fun b i wr => ∃ (k : Nat) (a : Option Addr) (m cap : Nat) (acc : List UInt8), k ≤ nN ∧ i = .int .i64 k ∧ b = .slice a m cap ∧ m ≤ 2 + 10 * k ∧ acc = hdr r ++ (r.nums.take k).flatMap M.num ∧ Own 5 wr (w.heap.size + 1) a m cap (u8s acc) ∧
        Bx w (.cells #[.int .i64 r.kind, .slice aN nN cN, .slice aT nT cT] 80) wr) (fun _ i _ => nN - (intOf i).toNat)
    case atStart => exact ⟨0, _, 2, 2, hdr r, by omega, rfl, rfl, by omega, by simp, Hstart.out, B1.out.alloc _⟩
    case round =>
      obtain ⟨k, a, m, cap, acc, hk, rfl, rfl, hm2, hacc, hown, hb⟩ := hrel
      have Ho := Lib.hid hown
      have Hb := Lib.hid hb
      have Hacc := Lib.hid hacc
      have Hm2 := Lib.hid hm2
      obtain ⟨c1, c2, c3⟩ := hb.cells
      clear hown hb hacc hm2
      by_cases hlt : k < nN
      · have hltI : (k : Int) < (nN : Int) := by omega
        obtain ⟨b, off, v, rfl, hbw, hv, hc0⟩ := row_i64 H.out.nums k hlt
        have hc : wr.cell? ⟨b, off + k, none⟩ = some (.int .i64 v) := by
          rw [Hb.out.old.cell (p := ⟨b, off + k, none⟩) hbw]; exact hc0
        have Hv := Lib.hid hv
        have Hfit := Lib.hid (Hf.out v (List.mem_of_getElem? hv))
        have hlen := M.num_len v
        have Hlen := Lib.hid hlen
        clear hv hc0 hlen hbw
        go_wp2_with (first
          | (go_at_call 78; refine (refnumber_any v _ Hfit.out).mono ?_; rintro e w2 ⟨a2, cap2, rfl, ho2, hb2⟩; have Ho2 := Lib.hid ho2; have Hb2 := Lib.hid hb2; clear ho2 hb2)
          | (at_builtin
             refine wpList_append_u8 _ rfl (.tmp 40) (.tmp 46) rfl (w.heap.size + 1) a m cap acc rfl (own_below Ho.out Hb2.out (Nat.le_refl _)) _ _ _ (M.num v) rfl (own_row Ho2.out).1 (m + (M.num v).length) rfl (by have := Hlen.out; have := Hm2.out; omega) (by have := Hb.out.size; have := Hb2.out.size; omega) ?_
             intro a3 cap3 w3 hown3 hb3
             have Ho3 := Lib.hid hown3
             have Hb3 := Lib.hid ((Hb.out.next Hb2.out (Nat.le_refl _)).low hb3)
             clear hown3 hb3))
        go_roundw
        case rel => exact ⟨k + 1, a3, m + (M.num v).length, cap3, acc ++ M.num v, by omega, by go_num, rfl, by have := Hlen.out; have := Hm2.out; omega, by rw [Hacc.out, take_one Hv.out]; simp, Ho3.out, Hb3.out⟩
        case measure => simp [intOf]; omega
      · obtain rfl : k = nN := by omega
        have hge : (k : Int) ≤ (k : Int) := Int.le_refl _
        have Hacc1 : Hid (acc = hdr r ++ r.nums.flatMap M.num) := by
          have := Hacc.out
          rw [List.take_of_length_le (by rw [← HN.out]; exact Nat.le_refl _)] at this
          exact this
        have hm162 : m ≤ 162 := by have := Hm2.out; omega
        have Hm162 := Lib.hid hm162
        clear Hacc Hm2 hm162
        go_wp2_with fail
        go_loopw [5, 7] (fun b i wr => ∃ (j : Nat) (a : Option Addr) (m cap : Nat) (acc : List UInt8), j ≤ nT ∧ i = .int .i64 j ∧ b = .slice a m cap ∧ m ≤ 162 + 201 * j ∧ acc = hdr r ++ r.nums.flatMap M.num ++ (r.texts.take j).flatMap M.txt ∧ Own 5 wr (w.heap.size + 1) a m cap (u8s acc) ∧
            Bx w (.cells #[.int .i64 r.kind, .slice aN k cN, .slice aT nT cT] 80) wr) (fun _ i _ => nT - (intOf i).toNat)
        case atStart => exact ⟨0, a, m, cap, acc, by omega, rfl, rfl, by have := Hm162.out; omega, by rw [Hacc1.out]; simp, Ho.out, Hb.out⟩
        case round =>
          clear Ho Hb Hacc1 Hm162 c1 c2 c3
          obtain ⟨j, a, m, cap, acc, hj, rfl, rfl, hm2, hacc, hown, hb⟩ := hrel
          have Ho := Lib.hid hown
          have Hb := Lib.hid hb
          have Hacc := Lib.hid hacc
          have Hm2 := Lib.hid hm2
          obtain ⟨c1, c2, c3⟩ := hb.cells
          clear hown hb hacc hm2
          by_cases hlt : j < nT
          · have hltI : (j : Int) < (nT : Int) := by omega
            obtain ⟨b, off, t, rfl, hbw, ht, hc0⟩ := row_str H.out.texts j hlt
            have hc : wr.cell? ⟨b, off + j, none⟩ = some (.string t) := by
              rw [Hb.out.old.cell (p := ⟨b, off + j, none⟩) hbw]; exact hc0
            have Ht := Lib.hid ht
            have Hc0 := Lib.hid (And.intro hbw hc0)
            have hsz := H200.out t (List.mem_of_getElem? ht)
            have hszI : (t.size : Int) ≤ 200 := by omega
            have Hsz := Lib.hid hsz
            have Hbyte := Lib.hid (show (t.size : Int) = (((UInt8.ofNat t.size).toNat : Nat) : Int) by rw [M.toNat_ofNat (by omega)])
            clear ht hc0 hbw hsz
            go_wp2_with (first
              | (at_builtin
                 refine wpList_append_u8 _ rfl (.tmp 55) (.tmp 63) rfl (w.heap.size + 1) a m cap acc rfl (own_below Ho.out ((Below.refl _ _).alloc (Nat.le_refl _) _) (Nat.le_refl _)) _ 1 1 [UInt8.ofNat t.size] rfl (row_byte _ _ _ Hbyte.out) (m + 1) rfl (by have := Hm2.out; omega) (by have := Hb.out.size; simp; omega) ?_
                 intro a3 cap3 w3 hown3 hb3
                 have Ho3 := Lib.hid hown3
                 have Hb3 := Lib.hid ((Hb.out.alloc (.cells #[.int .u8 (t.size : Int)] 5)).low hb3)
                 obtain ⟨k1, k2, k3⟩ := Hb3.out.cells
                 have k4 : w3.cell? ⟨b, off + j, none⟩ = some (.string t) := by rw [Hb3.out.old.cell (p := ⟨b, off + j, none⟩) Hc0.out.1]; exact Hc0.out.2
                 clear hown3 hb3)
              | (at_builtin
                 refine wpList_append_text _ rfl (.tmp 65) (.tmp 70) rfl (w.heap.size + 1) a3 (m + 1) cap3 (acc ++ [UInt8.ofNat t.size]) rfl Ho3.out t rfl (m + 1 + t.size) rfl (by have := Hm2.out; have := Hsz.out; omega) Hb3.out.size ?_
                 intro a4 cap4 w4 hown4 hb4
                 have Ho4 := Lib.hid hown4
                 have Hb4 := Lib.hid (Hb3.out.low hb4)
                 clear hown4 hb4))
            go_roundw
            case rel => exact ⟨j + 1, a4, m + 1 + t.size, cap4, _, by omega, by go_num, rfl, by have := Hm2.out; have := Hsz.out; omega, by rw [Hacc.out, take_one Ht.out]; simp [M.txt], Ho4.out, Hb4.out⟩
            case measure => simp [intOf]; omega
          · obtain rfl : j = nT := by omega
            have hge2 : (j : Int) ≤ (j : Int) := Int.le_refl _
            have Hacc2 : Hid (acc = M.enc r) := by
              have := Hacc.out
              rw [List.take_of_length_le (by rw [← HT.out]; exact Nat.le_refl _)] at this
              show acc = _
              rw [this]
              simp [M.enc, hdr]
            go_wp2_with fail
            go_ret2
            have hl : m = (M.enc r).length := by
              have := (own_row Ho.out).1.1
              rw [u8s_length, Hacc2.out] at this
              exact this.symm
            exact ⟨a, cap, by rw [← hl]; rfl, by rw [← hl, ← Hacc2.out]; exact own_mono Ho.out (by omega), Hb.out.old⟩
end Go.Proofs.YtpoolpckabpnfaaGreat.C
namespace Go.Proofs.YtpoolpckabpnfaaGreat.C
open Go.RowKit
set_option linter.unusedVariables false
set_option linter.unusedSimpArgs false
set_option maxRecDepth 20000

/-- what is answered of the bytes l from place p on -/
def FPost (l : List UInt8) (p : Nat) (e : Ending) : Prop :=
  (∃ (n : Int) (q : Nat), M.rdN (l.drop p) = some (n, l.drop q) ∧ p ≤ q ∧ q ≤ l.length ∧ M.fits n ∧ e = .returned (.tuple #[.int .i64 n, .int .i64 (q : Int), .bool true])) ∨
  (M.rdN (l.drop p) = none ∧ e = .returned (.tuple #[.int .i64 0, .int .i64 0, .bool false]))

theorem drop_cons {l : List UInt8} {p : Nat} {c : UInt8} (h : l[p]? = some c) : l.drop p = c :: l.drop (p + 1) := by
  obtain ⟨hp, rfl⟩ := List.getElem?_eq_some_iff.1 h
  exact List.drop_eq_getElem_cons hp

theorem ref_add (U z k : Nat) (hb : U + 2 ^ (7 * k) * (z % 128) < 18446744073709551616) :
    IntKind.u64.wrap ((U : Int) + IntKind.u64.wrap ((z : Int) % 128 * ((2 ^ (7 * k) : Nat) : Int))) = ((U + 2 ^ (7 * k) * (z % 128) : Nat) : Int) := by
  have e : ((z : Int) % 128 * ((2 ^ (7 * k) : Nat) : Int)) = ((2 ^ (7 * k) * (z % 128) : Nat) : Int) := by
    rw [Int.mul_comm]; push_cast; rfl
  rw [e]
  generalize 2 ^ (7 * k) * (z % 128) = X at *
  rw [IntKind.wrap_u64, IntKind.wrap_u64]
  omega

theorem ret3_of {a b c d : Int} (h1 : a = b) (h2 : c = d) : Ending.returned (.tuple #[.int .i64 a, .int .i64 c, .bool true]) = .returned (.tuple #[.int .i64 b, .int .i64 d, .bool true]) := by rw [h1, h2]

theorem u64_half (T : Nat) (h : T < 18446744073709551616) : IntKind.u64.wrap ((T : Int) / 2) = ((T / 2 : Nat) : Int) := by
  rw [IntKind.wrap_u64]
  omega
theorem wrap64_in (x : Int) (h : -9223372036854775808 ≤ x ∧ x ≤ 9223372036854775807) : wrap64 x = x := by
  unfold wrap64
  omega
theorem zag_odd (T : Nat) (h : T < 18446744073709551616) (hp : T % 2 = 1) : wrap64 (wrap64 (-wrap64 (IntKind.u64.wrap ((T : Int) / 2))) - 1) = M.zag T := by
  have hx : T / 2 < 9223372036854775808 := by omega
  rw [u64_half T h]
  unfold M.zag
  rw [if_pos hp]
  generalize T / 2 = X at *
  rw [wrap64_in (X : Int) ⟨by omega, by omega⟩, wrap64_in (-(X : Int)) ⟨by omega, by omega⟩, wrap64_in (-(X : Int) - 1) ⟨by omega, by omega⟩]
theorem zag_even (T : Nat) (h : T < 18446744073709551616) (hp : ¬ T % 2 = 1) : wrap64 (IntKind.u64.wrap ((T : Int) / 2)) = M.zag T := by
  have hx : T / 2 < 9223372036854775808 := by omega
  rw [u64_half T h]
  unfold M.zag
  rw [if_neg hp]
  generalize T / 2 = X at *
  rw [wrap64_in (X : Int) ⟨by omega, by omega⟩]

theorem ref_part (k : Nat) (hk : k < 9) : IntKind.u64.wrap (((2 ^ (7 * k) : Nat) : Int) * 128) = ((2 ^ (7 * (k + 1)) : Nat) : Int) := by
  have h1 := pow_succ7 k
  have h2 := pow_le9 (show k + 1 ≤ 9 by omega)
  rw [h1] at h2
  rw [h1]
  generalize 2 ^ (7 * k) = X at *
  rw [IntKind.wrap_u64]
  omega

set_option maxHeartbeats 1000000 in
theorem refnum_any (w : World) (a : Option Addr) (n cap : Nat) (l : List UInt8) (p : Nat) (h : Row w a n cap (u8s l)) (hp : p ≤ n) (hn : n ≤ 65536) :
    Calls Tryz.prog 53 #[.slice a n cap, .int .i64 (p : Int)] w fun e w' => FPost l p e ∧ w = w' := by
  have H := Lib.hid h
  have hl : l.length = n := by have := h.1; rw [u8s_length] at this; exact this
  have HL := Lib.hid hl
  have hnI : (n : Int) ≤ 65536 := by omega
  clear h hl
  go_enter Tryz.func53, Tryz.ntmps53
  go_wp2_with fail
  go_loop [1, 7, 8, 9] (fun at_ u part k_ => ∃ k U : Nat, k ≤ 9 ∧ k_ = .int .i64 k ∧ at_ = .int .i64 ((p + k : Nat) : Int) ∧ p + k ≤ n ∧ u = .int .u64 (U : Int) ∧ part = .int .u64 ((2 ^ (7 * k) : Nat) : Int) ∧ U < 2 ^ (7 * k) ∧ NInv (l.drop p) (l.drop (p + k)) k U) (fun _ _ _ k_ => 10 - (intOf k_).toNat)
  case atStart => exact ⟨0, 0, by omega, rfl, rfl, by omega, rfl, rfl, by decide, ninv_start _⟩
  case round =>
    obtain ⟨k, U, hk, rfl, rfl, hpn, rfl, rfl, hU, hm⟩ := hrel
    have Hm := Lib.hid hm
    have HU := Lib.hid hU
    have Hp := Lib.hid (pow_le9 hk)
    clear hm hU
    have hk10 : (k : Int) < 10 := by omega
    have hkI : (k : Int) ≤ 9 := by omega
    have hk0 : (0 : Int) ≤ (k : Int) := by omega
    by_cases hend : p + k = n
    · have hge : (n : Int) ≤ (p : Int) + (k : Int) := by omega
      have Hr := Lib.hid (show M.rdN (l.drop p) = none from by
        have e : l.drop (p + k) = [] := List.drop_eq_nil_of_le (by rw [HL.out]; omega)
        have := Hm.out
        rw [e] at this
        exact ninv_nil this)
      clear hend
      go_wp2_with fail
      go_ret3
      exact ⟨.inr ⟨Hr.out, rfl⟩, rfl⟩
    · have hlt : (p : Int) + (k : Int) < (n : Int) := by omega
      obtain ⟨b, off, c, rfl, hbw, hc, hcell⟩ := row_u8 H.out (p + k) (by omega)
      have hm2 := Hm.out
      rw [drop_cons hc] at hm2
      have hclt := c.toNat_lt
      have Hon := Lib.hid (fun (a : k < 9) (b : ¬ c.toNat < 128) => ninv_on a b hm2)
      have Hlast := Lib.hid (fun (a : k < 9) (b : c.toNat < 128) (d : 0 < c.toNat ∨ k = 0) => ninv_last a b d hm2)
      have Hzero := Lib.hid (fun (b : c.toNat = 0) (d : k ≠ 0) => ninv_zero hk b d hm2)
      have Hnine := Lib.hid (fun (a : 9 = k) (b : c.toNat = 1) => ninv_nine (l := l.drop p) (m := l.drop (p + k + 1)) (U := U) b (a ▸ hm2))
      have Hmuch := Lib.hid (fun (a : 9 = k) (b : 1 < c.toNat) => ninv_much (l := l.drop p) (m := l.drop (p + k + 1)) (U := U) b (a ▸ hm2))
      clear hm2 hc hbw Hm
      generalize c.toNat = z at *
      have hz256 : z < 256 := hclt
      have hzI : (z : Int) < 256 := by omega
      clear hclt
      have hpk0 : (0 : Int) ≤ (p : Int) + (k : Int) := by omega
      have hP0 : (0 : Int) ≤ ((2 ^ (7 * k) : Nat) : Int) := Int.natCast_nonneg _
      have Hadd := Lib.hid (fun hb => ref_add U z k hb)
      have Hpart := Lib.hid (fun hk => ref_part k hk)
      have Hbd := Lib.hid (fun h => bound_lt (z := z % 128) HU.out h)
      generalize hPv : 2 ^ (7 * k) = P at *
      have HPv := Lib.hid hPv
      clear hPv
      by_cases h128 : z < 128
      · have hmod : (z : Int) % 128 = (z : Int) := by omega
        have hz128 : (z : Int) < 128 := by omega
        have hmodN : z % 128 = z := Nat.mod_eq_of_lt h128
        have hz0I : (0 : Int) ≤ (z : Int) := by omega
        by_cases hz0 : z = 0 ∧ k ≠ 0
        · obtain ⟨hz0, hk0'⟩ := hz0
          have Hr := Lib.hid (Hzero.out hz0 hk0')
          have hzb : ((z : Int) == 0) = true := by rw [beq_iff_eq]; omega
          have hkp : decide ((0 : Int) < (k : Int)) = true := by rw [decide_eq_true_eq]; omega
          have hkp2 : decide (0 < k) = true := by rw [decide_eq_true_eq]; omega
          have hgt : decide ((1 : Int) < (z : Int)) = false := by rw [decide_eq_false_iff_not]; omega
          clear Hon Hlast Hzero Hnine Hmuch hz0 Hadd Hpart Hbd hmodN
          go_wp2_with fail
          all_goals
            go_ret3
            exact ⟨.inr ⟨Hr.out, rfl⟩, rfl⟩
        · by_cases hk9 : k < 9 ∨ z = 1
          · have hT : U + P * z < 18446744073709551616 := by
              have h2 := Hbd.out (by omega)
              rw [hmodN] at h2
              by_cases h9 : k < 9
              · have h3 := pow_le9 (show k + 1 ≤ 9 by omega)
                omega
              · have h1 : z = 1 := by omega
                have := Hp.out
                have := HU.out
                rw [h1]
                omega
            have Hr : Hid (M.rdN (l.drop p) = some (M.zag (U + P * z), l.drop (p + k + 1))) := by
              rcases hk9 with h9 | h9
              · exact Hlast.out h9 h128 (by omega)
              · by_cases h10 : k < 9
                · exact Hlast.out h10 h128 (by omega)
                · obtain rfl : k = 9 := by omega
                  rw [← HPv.out]
                  exact Hnine.out rfl h9
            have hadd := Hadd.out (by rw [hmodN]; exact hT)
            rw [hmod, hmodN] at hadd
            have hbad : (((k : Int) == 9) = false) ∨ (((k : Int) == 9) = true ∧ decide ((1 : Int) < (z : Int)) = false) := by
              rcases hk9 with h9 | h9
              · exact .inl (by rw [beq_eq_false_iff_ne]; omega)
              · by_cases h10 : k = 9
                · exact .inr ⟨by rw [beq_iff_eq]; omega, by rw [decide_eq_false_iff_not]; omega⟩
                · exact .inl (by rw [beq_eq_false_iff_ne]; omega)
            have hzk : (((z : Int) == 0) = false) ∨ (decide (0 < k) = false ∧ decide ((0 : Int) < (k : Int)) = false) := by
              by_cases h : z = 0
              · exact .inr ⟨by rw [decide_eq_false_iff_not]; omega, by rw [decide_eq_false_iff_not]; omega⟩
              · exact .inl (by rw [beq_eq_false_iff_ne]; omega)
            generalize U + P * z = T at *
            have hw := wrap_half T hT
            have hfit := M.zag_fits hT
            have Hfit := Lib.hid hfit
            clear Hon Hlast Hzero Hnine Hmuch hz0 Hadd Hpart Hbd hmodN hk9 hfit
            by_cases hpar : T % 2 = 1
            · have hp2 : ((T : Int) % 2 == 1) = true := by rw [beq_iff_eq]; omega
              have hzg := zag_odd T hT hpar
              have Hzg := Lib.hid hzg
              clear hpar hT hzg hw
              rcases hbad with hb | ⟨hb, hb2⟩
              all_goals
                rcases hzk with hz | ⟨hz, hz2⟩
                all_goals
                  go_wp2_with fail
                  all_goals
                    go_ret3
                    exact ⟨.inl ⟨_, p + k + 1, Hr.out, by omega, by rw [HL.out]; omega, Hfit.out, ret3_of Hzg.out (by omega)⟩, rfl⟩
            · have hp2 : ((T : Int) % 2 == 1) = false := by rw [beq_eq_false_iff_ne]; omega
              have hzg := zag_even T hT hpar
              have Hzg := Lib.hid hzg
              clear hpar hT hzg hw
              rcases hbad with hb | ⟨hb, hb2⟩
              all_goals
                rcases hzk with hz | ⟨hz, hz2⟩
                all_goals
                  go_wp2_with fail
                  all_goals
                    go_ret3
                    exact ⟨.inl ⟨_, p + k + 1, Hr.out, by omega, by rw [HL.out]; omega, Hfit.out, ret3_of Hzg.out (by omega)⟩, rfl⟩
          · -- the tenth byte is too much
            obtain rfl : k = 9 := by omega
            have hgt : decide ((1 : Int) < (z : Int)) = true := by rw [decide_eq_true_eq]; omega
            have Hr := Lib.hid (Hmuch.out rfl (by omega))
            clear Hon Hlast Hzero Hnine Hmuch hz0 Hadd Hpart Hbd hmodN hk9
            go_wp2_with fail
            all_goals
              go_ret3
              exact ⟨.inr ⟨Hr.out, rfl⟩, rfl⟩
      · have hz0 : ((z : Int) == 0) = false := by rw [beq_eq_false_iff_ne]; omega
        have hz128 : (128 : Int) ≤ (z : Int) := by omega
        by_cases hk9 : k < 9
        · have hq9 : ((k : Int) == 9) = false := by rw [beq_eq_false_iff_ne]; omega
          have hbd := Hbd.out (by omega)
          have hp9 := pow_le9 (show k + 1 ≤ 9 by omega)
          have hadd := Lib.hid (Hadd.out (by omega))
          have hpart := Lib.hid (Hpart.out hk9)
          have Hn := Lib.hid (Hon.out hk9 h128)
          have Hbd2 := Lib.hid hbd
          clear Hon Hlast Hzero Hnine Hmuch Hadd Hpart Hbd hbd hp9
          go_wp2_with fail
          all_goals
            go_round
            case rel => exact ⟨k + 1, U + P * (z % 128), by omega, by go_num, by go_num, by omega, by rw [hadd.out], by rw [hpart.out], Hbd2.out, by rw [show p + (k + 1) = p + k + 1 from by omega]; exact Hn.out⟩
            case measure => simp [intOf]; omega
        · obtain rfl : k = 9 := by omega
          have hgt : decide ((1 : Int) < (z : Int)) = true := by rw [decide_eq_true_eq]; omega
          have Hr := Lib.hid (Hmuch.out rfl (by omega))
          clear Hon Hlast Hzero Hnine Hmuch Hadd Hpart Hbd hk9
          go_wp2_with fail
          all_goals
            go_ret3
            exact ⟨.inr ⟨Hr.out, rfl⟩, rfl⟩
end Go.Proofs.YtpoolpckabpnfaaGreat.C
namespace Go.Proofs.YtpoolpckabpnfaaGreat.C
open Go.RowKit
set_option linter.unusedVariables false
set_option linter.unusedSimpArgs false
set_option maxRecDepth 20000

theorem refnum_ok (w : World) (a : Option Addr) (n cap : Nat) (l : List UInt8) (p : Nat) (h : Row w a n cap (u8s l)) (hp : p ≤ n) (hn : n ≤ 65536) (v : Int) (m : List UInt8) (hv : M.rdN (l.drop p) = some (v, m)) :
    Calls Tryz.prog 53 #[.slice a n cap, .int .i64 (p : Int)] w fun e w' => ∃ q : Nat, m = l.drop q ∧ p ≤ q ∧ q ≤ l.length ∧ e = .returned (.tuple #[.int .i64 v, .int .i64 (q : Int), .bool true]) ∧ w = w' := by
  refine (refnum_any w a n cap l p h hp hn).mono ?_
  rintro e w' ⟨⟨v', q, h1, h2, h3, _, rfl⟩ | ⟨h1, _⟩, rfl⟩
  · rw [hv] at h1
    injection h1 with h1
    injection h1 with h4 h5
    subst h4
    exact ⟨q, h5, h2, h3, rfl, rfl⟩
  · rw [hv] at h1; cases h1

theorem refnum_no (w : World) (a : Option Addr) (n cap : Nat) (l : List UInt8) (p : Nat) (h : Row w a n cap (u8s l)) (hp : p ≤ n) (hn : n ≤ 65536) (hv : M.rdN (l.drop p) = none) :
    Calls Tryz.prog 53 #[.slice a n cap, .int .i64 (p : Int)] w fun e w' => e = .returned (.tuple #[.int .i64 0, .int .i64 0, .bool false]) ∧ w = w' := by
  refine (refnum_any w a n cap l p h hp hn).mono ?_
  rintro e w' ⟨⟨v', q, h1, _⟩ | ⟨h1, rfl⟩, rfl⟩
  · rw [hv] at h1; cases h1
  · exact ⟨rfl, rfl⟩

/-- how things stand at a loop's head -/
structure RQ (N : Nat) (w wr : World) (kd : Int) (a : Option Addr) (n cap : Nat) (nums : List Int) (aT : Option Addr) (nT cT : Nat) (texts : List ByteArray) : Prop where
  mov : Below N w wr
  size : N + 3 ≤ wr.heap.size
  res : Rec3 wr N 0 none 0 0 none 0 0
  zr : Rec3 wr (N + 1) 0 none 0 0 none 0 0
  own : Rec3 wr (N + 2) kd a n cap aT nT cT
  rn : Own 2 wr (N + 3) a n cap (i64s nums)
  rt : Own 9 wr (N + 3) aT nT cT (strs texts)
  apart : (Value.slice a n cap).ownBlock = Option.none ∨ (Value.slice a n cap).ownBlock ≠ (Value.slice aT nT cT).ownBlock

theorem RQ.alloc {N : Nat} {w wr : World} {kd : Int} {a : Option Addr} {n cap : Nat} {nums : List Int} {aT : Option Addr} {nT cT : Nat} {texts : List ByteArray}
    (h : RQ N w wr kd a n cap nums aT nT cT texts) (o : Obj) : RQ N w (wr.alloc o) kd a n cap nums aT nT cT texts := by
  have hb := (Below.refl wr.heap.size wr).alloc (Nat.le_refl _) o
  have hz := h.size
  exact ⟨h.mov.trans (hb.mono (by omega)), by simp; omega, rec3_below h.res hb (by omega), rec3_below h.zr hb (by omega), rec3_below h.own hb (by omega), own_below h.rn hb (Nat.le_refl _), own_below h.rt hb (Nat.le_refl _), h.apart⟩

theorem RQ.num {N : Nat} {w wr w3 : World} {kd : Int} {a a' : Option Addr} {n cap cap' : Nat} {nums : List Int} {v : Int}
    (h : RQ N w wr kd a n cap nums none 0 0 []) (ho : Own 2 w3 (N + 3) a' (n + 1) cap' (i64s (nums ++ [v]))) (hb : Below (N + 3) wr w3) :
    RQ N w (w3.setCell ⟨N + 2, 1, Option.none⟩ (.slice a' (n + 1) cap')) kd a' (n + 1) cap' (nums ++ [v]) none 0 0 [] := by
  have hz := h.size
  have hset : Below (N + 2) w3 (w3.setCell ⟨N + 2, 1, Option.none⟩ (.slice a' (n + 1) cap')) := (Below.refl _ _).setCell (p := ⟨N + 2, 1, Option.none⟩) (Nat.le_refl _) _
  obtain ⟨r1, r2, r3, r4, r5, r6⟩ := rec3_below h.own hb (by omega)
  refine ⟨(h.mov.trans (hb.mono (by omega))).trans (hset.mono (by omega)), Nat.le_trans hz (Nat.le_trans hb.size hset.size), rec3_below (rec3_below h.res hb (by omega)) hset (by omega), rec3_below (rec3_below h.zr hb (by omega)) hset (by omega), ?_, own_set ho _ (by simp), own_nil _ _ _, ?_⟩
  · refine ⟨?_, World.cell?_setCell_same _ _ _ r2, ?_, ?_, ?_, ?_⟩
    · rw [World.cell?_setCell_other _ _ _ _ (by simp)]; exact r1
    · rw [World.cell?_setCell_other _ _ _ _ (by simp)]; exact r3
    · simpa using r4
    · simpa using r5
    · simpa using r6
  · cases a' with
    | none => exact .inl rfl
    | some x => exact .inr (by simp [Value.ownBlock])

theorem RQ.text {N : Nat} {w wr w3 : World} {kd : Int} {a aT' : Option Addr} {n cap : Nat} {nums : List Int} {aT : Option Addr} {nT cT cT' : Nat} {texts : List ByteArray} {v : ByteArray}
    (h : RQ N w wr kd a n cap nums aT nT cT texts) (ho : Own 9 w3 (N + 3) aT' (nT + 1) cT' (strs (texts ++ [v]))) (hb : Below (N + 3) wr w3) (hg : wr.grownBy w3 (Value.slice aT nT cT).ownBlock)
    (hat : (Value.slice aT' (nT + 1) cT').ownBlock = (Value.slice aT nT cT).ownBlock ∨ (Value.slice aT' (nT + 1) cT').ownBlock = some wr.heap.size) :
    RQ N w (w3.setCell ⟨N + 2, 2, Option.none⟩ (.slice aT' (nT + 1) cT')) kd a n cap nums aT' (nT + 1) cT' (texts ++ [v]) := by
  have hz := h.size
  have hset : Below (N + 2) w3 (w3.setCell ⟨N + 2, 2, Option.none⟩ (.slice aT' (nT + 1) cT')) := (Below.refl _ _).setCell (p := ⟨N + 2, 2, Option.none⟩) (Nat.le_refl _) _
  obtain ⟨r1, r2, r3, r4, r5, r6⟩ := rec3_below h.own hb (by omega)
  have hn : Own 2 w3 (N + 3) a n cap (i64s nums) := ⟨h.rn.1.kept hg h.apart, h.rn.2⟩
  refine ⟨(h.mov.trans (hb.mono (by omega))).trans (hset.mono (by omega)), Nat.le_trans hz (Nat.le_trans hb.size hset.size), rec3_below (rec3_below h.res hb (by omega)) hset (by omega), rec3_below (rec3_below h.zr hb (by omega)) hset (by omega), ?_, own_set hn _ (by simp), own_set ho _ (by simp), ?_⟩
  · refine ⟨?_, ?_, World.cell?_setCell_same _ _ _ r3, ?_, ?_, ?_⟩
    · rw [World.cell?_setCell_other _ _ _ _ (by simp)]; exact r1
    · rw [World.cell?_setCell_other _ _ _ _ (by simp)]; exact r2
    · simpa using r4
    · simpa using r5
    · simpa using r6
  · rcases hat with hat | hat
    · rw [hat]; exact h.apart
    · rw [hat]
      by_cases h0 : (Value.slice a n cap).ownBlock = Option.none
      · exact .inl h0
      · refine .inr fun he => ?_
        have := (h.rn.1.lt _ he).2
        omega

theorem rq_start {w : World} (kd : Int) : RQ w.heap.size w (((w.alloc (.cells #[.int .i64 0, .slice none 0 0, .slice none 0 0] 80)).alloc (.cells #[.int .i64 0, .slice none 0 0, .slice none 0 0] 80)).alloc (.cells #[.int .i64 kd, .slice none 0 0, .slice none 0 0] 80))
    kd none 0 0 [] none 0 0 [] := by
  have b1 := (Below.refl w.heap.size w).alloc (Nat.le_refl _) (.cells #[.int .i64 0, .slice none 0 0, .slice none 0 0] 80)
  generalize hw1 : w.alloc (.cells #[.int .i64 0, .slice none 0 0, .slice none 0 0] 80) = w1 at *
  have s1 : w1.heap.size = w.heap.size + 1 := by rw [← hw1]; simp
  have b2 := (Below.refl w1.heap.size w1).alloc (Nat.le_refl _) (.cells #[.int .i64 0, .slice none 0 0, .slice none 0 0] 80)
  have n1 : Rec3 w1 w.heap.size 0 none 0 0 none 0 0 := by rw [← hw1]; exact rec3_new w 0
  have n2 := rec3_new w1 0
  generalize hw2 : w1.alloc (.cells #[.int .i64 0, .slice none 0 0, .slice none 0 0] 80) = w2 at *
  have s2 : w2.heap.size = w1.heap.size + 1 := by rw [← hw2]; simp
  have b3 := (Below.refl w2.heap.size w2).alloc (Nat.le_refl _) (.cells #[.int .i64 kd, .slice none 0 0, .slice none 0 0] 80)
  have n3 := rec3_new w2 kd
  refine ⟨(b1.trans (b2.mono (by omega))).trans (b3.mono (by omega)), by simp; omega, rec3_below (rec3_below n1 b2 (by omega)) b3 (by omega), ?_, ?_, own_nil _ _ _, own_nil _ _ _, .inl rfl⟩
  · rw [← s1]; exact rec3_below n2 b3 (by omega)
  · rw [show w.heap.size + 2 = w2.heap.size from by omega]; exact n3

theorem rq_end {N : Nat} {w wr : World} {kd : Int} {a : Option Addr} {n cap : Nat} {nums : List Int} {aT : Option Addr} {nT cT : Nat} {texts : List ByteArray}
    (h : RQ N w wr kd a n cap nums aT nT cT texts) :
    let w' := ((wr.setCell ⟨N, 0, Option.none⟩ (.int .i64 kd)).setCell ⟨N, 1, Option.none⟩ (.slice a n cap)).setCell ⟨N, 2, Option.none⟩ (.slice aT nT cT)
    Own 2 w' N a n cap (i64s nums) ∧ Own 9 w' N aT nT cT (strs texts) ∧ Below N w w' := by
  have b1 : Below N wr (((wr.setCell ⟨N, 0, Option.none⟩ (.int .i64 kd)).setCell ⟨N, 1, Option.none⟩ (.slice a n cap)).setCell ⟨N, 2, Option.none⟩ (.slice aT nT cT)) :=
    (((Below.refl N wr).setCell (p := ⟨N, 0, Option.none⟩) (Nat.le_refl _) _).setCell (p := ⟨N, 1, Option.none⟩) (Nat.le_refl _) _).setCell (p := ⟨N, 2, Option.none⟩) (Nat.le_refl _) _
  exact ⟨own_mono (own_set (own_set (own_set h.rn _ (by simp)) _ (by simp)) _ (by simp)) (by omega), own_mono (own_set (own_set (own_set h.rt _ (by simp)) _ (by simp)) _ (by simp)) (by omega), h.mov.trans b1⟩

theorem zero_end (N : Nat) {w wr : World} (h : Below N w wr) : Below N w (((wr.setCell ⟨N, 0, none⟩ (.int .i64 0)).setCell ⟨N, 1, none⟩ (.slice none 0 0)).setCell ⟨N, 2, none⟩ (.slice none 0 0)) :=
  ((h.setCell (p := ⟨N, 0, none⟩) (Nat.le_refl _) _).setCell (p := ⟨N, 1, none⟩) (Nat.le_refl _) _).setCell (p := ⟨N, 2, none⟩) (Nat.le_refl _) _

theorem wpList_append_i64 (w : World) {ops : Array Oper} {rest : List Oper} {o : Oper} {act : Act} {Q : Exit → Act → World → Prop} (hgd : o.guard = none) (s x : Operand)
    (ho : o.op = .call { callee := .builtin .append, args := #[s, x], argTypes := #[77, 77] })
    (B : Nat) (a : Option Addr) (n cap : Nat) (l : List Int) (hs : act.eval s = .slice a n cap) (hown : Own 2 w B a n cap (i64s l))
    (A : Option Addr) (m c : Nat) (y : List Int) (hx : act.eval x = .slice A m c) (hr : Row w A m c (i64s y)) (hsum : n + m ≤ 1048576) (hB : B ≤ w.heap.size)
    (h : ∀ a' cap' w', Own 2 w' B a' (n + m) cap' (i64s (l ++ y)) → Below B w w' → wpList Tryz.prog ops Q rest (act.put o.dst (.slice a' (n + m) cap')) w') : wpList Tryz.prog ops Q (o :: rest) act w := by
  refine wpList_plain hgd fun K hK => ?_
  obtain ⟨a', cap', w', hrun, h2, h3, _, _⟩ := run_append_i64 w o.type B a n cap l hown A m c y hr hsum hB
  unfold Oper.wp execOp
  simp only [ho, resolve, invoke, builtin, Sem.run_bind, Sem.run_pure, Result.andThen_ok, List.map_toArray, List.map_cons, List.map_nil, hs, hx, hrun]
  exact hK _ _ (h a' cap' w' h2 h3)

theorem row_pre {w : World} {a : Option Addr} {n cap : Nat} {vs : List Value} (h : Row w a n cap vs) (k : Nat) (hk : k ≤ n) : Row w a k cap (vs.take k) := by
  obtain ⟨h1, h2, h3, h4⟩ := h
  refine ⟨by rw [List.length_take]; omega, by omega, h3, ?_⟩
  rcases h4 with h4 | ⟨b, off, ha, hlt, hc⟩
  · exact .inl (by rw [h4]; simp)
  · by_cases h0 : k = 0
    · subst h0; exact .inl rfl
    · exact .inr ⟨b, off, ha, hlt, fun i hi => by rw [hc i (by omega), List.getElem?_take, if_pos hi]⟩

theorem run_mid (a : Option Addr) (n cap lo hi : Nat) (h1 : lo ≤ hi) (h2 : hi ≤ cap) (x y : Int) (hx : x = (lo : Int)) (hy : y = (hi : Int)) (w : World) :
    (Instr.slice 50 (.slice a n cap) (some (.int .i64 x)) (some (.int .i64 y)) none).run Tryz.prog w = .ok (.slice (adv a cap lo) (hi - lo) (cap - lo)) w := by
  subst hx hy
  rw [run_slice_lh w 50 a n cap under28 .i64 .i64 lo hi (by omega) (by omega) (by omega), size28]
  simp [Result.andThen, sliced, adv]
end Go.Proofs.YtpoolpckabpnfaaGreat.C
namespace Go.Proofs.YtpoolpckabpnfaaGreat.C
open Go.RowKit
set_option linter.unusedVariables false
set_option linter.unusedSimpArgs false
set_option maxRecDepth 20000

theorem dec_none {l : List UInt8} (h : M.rdR l = none) : M.dec l = none := by unfold M.dec; rw [h]

set_option maxHeartbeats 4000000 in
theorem refdecode_240 (w : World) (a : Option Addr) (n cap : Nat) (kd c : UInt8) (l : List UInt8) (h : Row w a n cap (u8s (kd :: c :: l))) (hn : n ≤ 65536) (h2 : 2 ≤ n) (h240 : 240 ≤ c.toNat) :
    Calls Tryz.prog 31 #[.slice a n cap] w (DPost w (kd :: c :: l)) := by
  have hl : (kd :: c :: l).length = n := by have := h.1; rw [u8s_length] at this; exact this
  have HR := Lib.hid h
  have Hn64 := Lib.hid hn
  have hnI : (n : Int) ≤ 65536 := by omega
  have B2 : Hid (Below w.heap.size w ((w.alloc (.cells #[.int .i64 0, .slice none 0 0, .slice none 0 0] 80)).alloc (.cells #[.int .i64 0, .slice none 0 0, .slice none 0 0] 80))) := ((Below.refl _ _).alloc (Nat.le_refl _) _).alloc (by simp) _
  have h2I : (2 : Int) ≤ (n : Int) := by omega
  obtain ⟨b, off, t, rfl, hb, ht, hc1⟩ := row_u8 h 1 (by omega)
  obtain rfl : c = t := by simpa using ht
  obtain ⟨b', off', t', hab, hb', ht', hc0⟩ := row_u8 h 0 (by omega)
  obtain rfl : kd = t' := by simpa using ht'
  obtain ⟨rfl, rfl⟩ : b = b' ∧ off = off' := by injection hab with hab; injection hab with h1 h2; exact ⟨h1, h2⟩
  rw [Nat.add_zero] at hc0
  have f1 := (B2.out.cell (p := ⟨b, off + 1, none⟩) hb).trans hc1
  have f0 := (B2.out.cell (p := ⟨b, off, none⟩) hb).trans hc0
  have HL := Lib.hid hl
  have hcl := c.toNat_lt
  have hkl := kd.toNat_lt
  have HKT := Lib.hid (show (240 ≤ c.toNat → M.cN c.toNat = 16 ∧ M.cT c.toNat = c.toNat - 240) ∧ (¬ 240 ≤ c.toNat → M.cN c.toNat = c.toNat % 16 ∧ M.cT c.toNat = c.toNat / 16) from by
    unfold M.cN M.cT
    exact ⟨fun h => ⟨if_pos h, if_pos h⟩, fun h => ⟨if_neg h, if_neg h⟩⟩)
  generalize hqd : kd.toNat = q at *
  have Hqd := Lib.hid hqd
  generalize hcc : c.toNat = cc at *
  have Hcc := Lib.hid hcc
  clear hqd hcc h hl ht ht' hab hb' hc0 hc1 hb h2
  have hqI : (q : Int) < 256 := by omega
  have hcI : (cc : Int) < 256 := by omega
  have hcI0 : (0 : Int) ≤ (cc : Int) := by omega
  have z1 := True.intro
  have z2 := True.intro
  have z3 := True.intro
  have r1 := True.intro
  have r2 := True.intro
  have r3 := True.intro
  have hge : (240 : Int) ≤ (cc : Int) := by omega
  obtain ⟨hK, hT⟩ := HKT.out.1 h240
  have hsub : (cc : Int) - 240 = ((cc - 240 : Nat) : Int) := by omega
  generalize cc - 240 = T at *
  by_cases hT4 : T ≤ 4
  · have hT4I : (T : Int) ≤ 4 := by omega
    have HT4 := Lib.hid hT4
    have HK : Hid (M.cN c.toNat = 16) := by show _ = _; rw [Hcc.out]; exact hK
    have HT : Hid (M.cT c.toNat = T) := by show _ = _; rw [Hcc.out]; exact hT
    clear hK hT h240 hcl hkl z1 z2 z3 r1 r2 r3
    go_enter Tryz.func31, Tryz.ntmps31
    go_wp2_with fail
    go_loopw [8, 9] (fun p_ i wr => ∃ (k p : Nat) (ns : List Int) (a1 : Option Addr) (cap1 : Nat), k ≤ 16 ∧ i = .int .i64 k ∧ p_ = .int .i64 (p : Int) ∧ p ≤ n ∧ RQ w.heap.size w wr q a1 k cap1 ns none 0 0 [] ∧ RN l ((kd :: c :: l).drop p) 16 k ns) (fun _ i _ => 16 - (intOf i).toNat)
    case atStart => exact ⟨0, 2, [], none, 0, by omega, rfl, rfl, by omega, rq_start q, rn_start l 16⟩
    case round =>
      obtain ⟨k, p, ns, a1, cap1, hk, rfl, rfl, hpn, hrq, hrn⟩ := hrel
      have Hq := Lib.hid hrq
      have Hn := Lib.hid hrn
      have HRow := Lib.hid (row_below HR.out hrq.mov (Nat.le_refl _))
      obtain ⟨o1, o2, o3, o4, o5, o6⟩ := hrq.own
      obtain ⟨z1, z2, z3, z4, z5, z6⟩ := hrq.zr
      obtain ⟨r1, r2, r3, r4, r5, r6⟩ := hrq.res
      clear hrq hrn
      have hpI : (p : Int) ≤ 65536 := by omega
      have Hpn := Lib.hid hpn
      by_cases hlt : k < 16
      · have hltI : (k : Int) < (16 : Int) := by omega
        cases hv : M.rdN ((kd :: c :: l).drop p) with
        | none =>
          have HV := Lib.hid hv
          clear hv
          go_wp2_with (go_at_call 53; refine (refnum_no _ _ _ _ (kd :: c :: l) p HRow.out Hpn.out Hn64.out HV.out).mono ?_; rintro e w' ⟨rfl, rfl⟩)
          refine bodyPost_ret (v := .tuple #[.agg #[.int .i64 0, .slice none 0 0, .slice none 0 0], .int .i64 4]) (by simp [results, Tryz.results31, go_sem, z1, z2, z3, r1, r2, r3]) rfl ?_
          first | exact ⟨zero_end _ Hq.out.mov, .inr ⟨dec_none (rdR_numsNo (HK.out ▸ rn_no hlt Hn.out HV.out)), rfl⟩⟩ | exact ⟨Hq.out.mov, .inr ⟨dec_none (rdR_numsNo (HK.out ▸ rn_no hlt Hn.out HV.out)), rfl⟩⟩
        | some vm =>
          obtain ⟨v, m'⟩ := vm
          have HV := Lib.hid hv
          clear hv
          have hk16 : k ≤ 16 := by omega
          go_wp2_with (first
            | (go_at_call 53; refine (refnum_ok _ _ _ _ (kd :: c :: l) p HRow.out Hpn.out Hn64.out v m' HV.out).mono ?_; rintro e w' ⟨p2, hm2, hp2, hp3, rfl, rfl⟩; have Hm2 := Lib.hid hm2; have Hp3 := Lib.hid hp3; have HrowN := Lib.hid (row_i64_new wr v); have Hq2 := Lib.hid (Hq.out.alloc (.cells #[.int .i64 v] 2)); clear hm2 hp2 hp3)
            | (at_builtin
               refine wpList_append_i64 _ rfl (.tmp 63) (.tmp 65) rfl (w.heap.size + 3) a1 k cap1 ns rfl Hq2.out.rn (some ⟨wr.heap.size, 0, Option.none⟩) 1 1 [v] rfl HrowN.out (by omega) Hq2.out.size ?_
               intro a4 cap4 w4 hown hbel
               have hr4 := rec3_below Hq2.out.own hbel (by omega)
               have hc4 := hr4.2.1
               have hf4 := hr4.2.2.2.2.1
               have Hq5 := Lib.hid (Hq2.out.num hown hbel)
               clear hr4 hown hbel))
          go_roundw
          case rel => exact ⟨k + 1, p2, ns ++ [v], a4, cap4, by omega, by go_num, rfl, by have := Hp3.out; rw [HL.out] at this; exact this, Hq5.out, by rw [← Hm2.out]; exact rn_on hlt Hn.out HV.out⟩
          case measure => simp [intOf]; omega
      · obtain rfl : k = 16 := by omega
        have HNs := Lib.hid (rn_end Hn.out)
        clear Hn o1 o2 o3 o4 o5 o6 z1 z2 z3 z4 z5 z6 r1 r2 r3 r4 r5 r6 HRow
        have hge : (16 : Int) ≤ (16 : Int) := Int.le_refl _
        try rw [show ((16 : Nat) : Int) = (16 : Int) from rfl]
        go_wp2_with fail
        go_loopw [8, 13] (fun p_ i wr => ∃ (j p2 : Nat) (ts : List ByteArray) (aT : Option Addr) (capT : Nat), j ≤ T ∧ i = .int .i64 j ∧ p_ = .int .i64 (p2 : Int) ∧ p2 ≤ n ∧ RQ w.heap.size w wr q a1 16 cap1 ns aT j capT ts ∧ RT ((kd :: c :: l).drop p) ((kd :: c :: l).drop p2) T j ts) (fun _ i _ => T - (intOf i).toNat)
        case atStart => exact ⟨0, p, [], none, 0, by omega, rfl, rfl, Hpn.out, Hq.out, rt_start _ T⟩
        case round =>
          clear Hq
          obtain ⟨j, p2, ts, aT, capT, hj, rfl, rfl, hpn2, hrq, hrn⟩ := hrel
          have Hq := Lib.hid hrq
          have Hn := Lib.hid hrn
          have HRow := Lib.hid (row_below HR.out hrq.mov (Nat.le_refl _))
          have hBl := Lib.hid hrq.mov
          obtain ⟨o1, o2, o3, o4, o5, o6⟩ := hrq.own
          obtain ⟨z1, z2, z3, z4, z5, z6⟩ := hrq.zr
          obtain ⟨r1, r2, r3, r4, r5, r6⟩ := hrq.res
          clear hrq hrn
          have hpI2 : (p2 : Int) ≤ 65536 := by omega
          have hp20 : (0 : Int) ≤ (p2 : Int) := by omega
          by_cases hlt : j < T
          · have hltI : (j : Int) < (T : Int) := by omega
            by_cases hat : p2 = n
            · have hd1 : decide ((n : Int) ≤ (p2 : Int)) = true := by rw [decide_eq_true_eq]; omega
              have hd1n : decide (n ≤ p2) = true := by rw [decide_eq_true_eq]; omega
              have HV : Hid (M.rdT ((kd :: c :: l).drop p2) = none) := by
                have e : (kd :: c :: l).drop p2 = [] := List.drop_eq_nil_of_le (by rw [HL.out]; omega)
                show _ = _
                rw [e]; rfl
              clear hat
              go_wp2_with fail
              refine bodyPost_ret (v := .tuple #[.agg #[.int .i64 0, .slice none 0 0, .slice none 0 0], .int .i64 4]) (by simp [results, Tryz.results31, go_sem, z1, z2, z3, r1, r2, r3]) rfl ?_
              first | exact ⟨zero_end _ Hq.out.mov, .inr ⟨dec_none (rdR_textsNo (HK.out ▸ HNs.out) (HT.out ▸ rt_no hlt Hn.out HV.out)), rfl⟩⟩ | exact ⟨Hq.out.mov, .inr ⟨dec_none (rdR_textsNo (HK.out ▸ HNs.out) (HT.out ▸ rt_no hlt Hn.out HV.out)), rfl⟩⟩
            · have hd1 : decide ((n : Int) ≤ (p2 : Int)) = false := by rw [decide_eq_false_iff_not]; omega
              have hd1n : decide (n ≤ p2) = false := by rw [decide_eq_false_iff_not]; omega
              obtain ⟨bb, of2, t, hab, hbb, ht, hct⟩ := row_u8 HRow.out p2 (by omega)
              have Hdrop := Lib.hid (drop_cons ht)
              have htl := t.toNat_lt
              have HrdT : Hid (M.rdT ((kd :: c :: l).drop p2) = if t.toNat ≤ 200 ∧ t.toNat ≤ ((kd :: c :: l).drop (p2 + 1)).length then some (⟨(((kd :: c :: l).drop (p2 + 1)).take t.toNat).toArray⟩, ((kd :: c :: l).drop (p2 + 1)).drop t.toNat) else none) := by
                show _ = _
                rw [Hdrop.out]; rfl
              have Hdl : Hid (((kd :: c :: l).drop (p2 + 1)).length = n - (p2 + 1)) := by
                show _ = _
                rw [List.length_drop, HL.out]
              generalize hz : t.toNat = z at *
              have Hz := Lib.hid hz
              clear hz ht
              have hz256 : (z : Int) < 256 := by omega
              have hz0 : (0 : Int) ≤ (z : Int) := by omega
              have ht2 : b = bb ∧ off = of2 := by injection hab with hab; injection hab with h1 h2; exact ⟨h1, h2⟩
              obtain ⟨rfl, rfl⟩ := ht2
              clear hab hbb
              have hltp : (p2 : Int) < (n : Int) := by omega
              by_cases hz200 : z ≤ 200
              · have hd2 : decide ((200 : Int) < (z : Int)) = false := by rw [decide_eq_false_iff_not]; omega
                by_cases hfit : p2 + 1 + z ≤ n
                · have hd3 : decide ((n : Int) < (p2 : Int) + 1 + (z : Int)) = false := by rw [decide_eq_false_iff_not]; omega
                  have HV : Hid (M.rdT ((kd :: c :: l).drop p2) = some (str (((kd :: c :: l).drop (p2 + 1)).take z), (kd :: c :: l).drop (p2 + 1 + z))) := by
                    show _ = _
                    rw [HrdT.out, if_pos ⟨hz200, by rw [Hdl.out]; omega⟩, List.drop_drop]
                    rfl
                  have hsl := fun w => run_mid (some ⟨b, off, none⟩) n cap (p2 + 1) (p2 + 1 + z) (by omega) (by have := HRow.out.2.1; omega) ((p2 : Int) + 1) ((p2 : Int) + 1 + (z : Int)) (by omega) (by omega) w
                  rw [show p2 + 1 + z - (p2 + 1) = z from by omega] at hsl
                  have hrowT := row_pre (row_drop HRow.out (p2 + 1) (by omega)) z (by omega)
                  rw [show (u8s (kd :: c :: l)).drop (p2 + 1) = u8s ((kd :: c :: l).drop (p2 + 1)) from (List.map_drop ..).symm, show (u8s ((kd :: c :: l).drop (p2 + 1))).take z = u8s (((kd :: c :: l).drop (p2 + 1)).take z) from (List.map_take ..).symm] at hrowT
                  generalize hadv : adv (some ⟨b, off, none⟩) cap (p2 + 1) = x4 at *
                  have Hadv := Lib.hid hadv
                  have HrowT := Lib.hid hrowT
                  have hconv := run_string_bytes (row_same HrowT.out (w' := wr.drew) rfl)
                  generalize hX : str (((kd :: c :: l).drop (p2 + 1)).take z) = X at *
                  have HX := Lib.hid hX
                  have Hq2 := Lib.hid (Hq.out.alloc (.cells #[.string X] 9))
                  have hlo := Hq2.out.own.2.2.1
                  have hw1 : IntKind.i64.wrap ((p2 : Int) + 1) = (p2 : Int) + 1 := by rw [IntKind.wrap_i64]; omega
                  have hw2 : IntKind.i64.wrap ((p2 : Int) + 1 + (z : Int)) = (p2 : Int) + 1 + (z : Int) := by rw [IntKind.wrap_i64]; omega
                  have HrowN := Lib.hid (row_str_new wr X)
                  have hj4 : j ≤ 4 := by omega
                  clear hadv hrowT hX htl hat HrdT Hdl
                  go_wp2_with fail
                  go_region_law ((first
                      | (refine step_append_str _ rfl (.tmp 106) (.tmp 116) rfl (w.heap.size + 3) aT j capT ts rfl (own_below Hq2.out.rt (Below.drew (Below.refl _ _)) (Nat.le_refl _)) (some ⟨wr.heap.size, 0, none⟩) 1 1 [X] rfl (row_same HrowN.out rfl) (by omega) Hq2.out.size ?_
                         intro a4 cap4 w4 hown hbel hgr hat
                         have hbel' : Below (w.heap.size + 3) (wr.alloc (.cells #[.string X] 9)) w4 := Below.trans (Below.drew (Below.refl _ _)) hbel
                         have hgr' : (wr.alloc (.cells #[.string X] 9)).grownBy w4 (Value.slice aT j capT).ownBlock := ⟨hgr.os, hgr.tape, hgr.output, hgr.size, hgr.block⟩
                         have hr4 := rec3_below Hq2.out.own hbel' (by omega)
                         have hc4 := hr4.2.2.1
                         have hf4 := hr4.2.2.2.2.2
                         have Hq5 := Lib.hid (Hq2.out.text hown hbel' hgr' hat)
                         clear hr4 hown hbel hgr hat hbel' hgr')))
                  all_goals
                    go_wp2_with fail
                    go_roundw
                    case rel => exact ⟨j + 1, p2 + 1 + z, ts ++ [X], a4, cap4, by omega, by go_num, by go_num, by omega, Hq5.out, rt_on hlt Hn.out HV.out⟩
                    case measure => simp [intOf]; omega
                · have hd3 : decide ((n : Int) < (p2 : Int) + 1 + (z : Int)) = true := by rw [decide_eq_true_eq]; omega
                  have HV : Hid (M.rdT ((kd :: c :: l).drop p2) = none) := by
                    show _ = _
                    rw [HrdT.out, if_neg (by rw [Hdl.out]; omega)]
                  clear htl hat HrdT Hdl
                  go_wp2_with fail
                  refine bodyPost_ret (v := .tuple #[.agg #[.int .i64 0, .slice none 0 0, .slice none 0 0], .int .i64 4]) (by simp [results, Tryz.results31, go_sem, z1, z2, z3, r1, r2, r3]) rfl ?_
                  first | exact ⟨zero_end _ Hq.out.mov, .inr ⟨dec_none (rdR_textsNo (HK.out ▸ HNs.out) (HT.out ▸ rt_no hlt Hn.out HV.out)), rfl⟩⟩ | exact ⟨Hq.out.mov, .inr ⟨dec_none (rdR_textsNo (HK.out ▸ HNs.out) (HT.out ▸ rt_no hlt Hn.out HV.out)), rfl⟩⟩
              · have hd2 : decide ((200 : Int) < (z : Int)) = true := by rw [decide_eq_true_eq]; omega
                have HV : Hid (M.rdT ((kd :: c :: l).drop p2) = none) := by
                  show _ = _
                  rw [HrdT.out, if_neg (by omega)]
                clear htl hat HrdT Hdl
                go_wp2_with fail
                refine bodyPost_ret (v := .tuple #[.agg #[.int .i64 0, .slice none 0 0, .slice none 0 0], .int .i64 4]) (by simp [results, Tryz.results31, go_sem, z1, z2, z3, r1, r2, r3]) rfl ?_
                first | exact ⟨zero_end _ Hq.out.mov, .inr ⟨dec_none (rdR_textsNo (HK.out ▸ HNs.out) (HT.out ▸ rt_no hlt Hn.out HV.out)), rfl⟩⟩ | exact ⟨Hq.out.mov, .inr ⟨dec_none (rdR_textsNo (HK.out ▸ HNs.out) (HT.out ▸ rt_no hlt Hn.out HV.out)), rfl⟩⟩
          · obtain rfl : j = T := by omega
            have HTs := Lib.hid (rt_end Hn.out)
            clear Hn
            have hge2 : (j : Int) ≤ (j : Int) := Int.le_refl _
            by_cases hend : p2 = n
            · have hd1 : (n : Int) ≤ (p2 : Int) := by omega
              have Hx : Hid ((kd :: c :: l).drop p2 = []) := List.drop_eq_nil_of_le (by rw [HL.out]; omega)
              clear hend
              go_wp2_with fail
              obtain ⟨e1, e2, e3⟩ := rq_end Hq.out
              refine bodyPost_ret (v := .tuple #[.agg #[.int .i64 (q : Int), .slice a1 16 cap1, .slice aT j capT], .int .i64 0]) (by simp [results, Tryz.results31, go_sem, r1, r2, r3]) rfl ?_
              refine ⟨e3, .inl ⟨⟨q, ns, ts⟩, _, ?_, ⟨a1, 16, cap1, aT, j, capT, rfl, e1, e2⟩, rfl⟩⟩
              have := rdR_yes (kd := kd) (by rw [HT.out]; exact HT4.out) (HK.out ▸ HNs.out) (HT.out ▸ HTs.out)
              rw [Hx.out, Hqd.out] at this
              exact dec_nil this
            · have hd1 : (p2 : Int) < (n : Int) := by omega
              obtain ⟨y, ys, hy⟩ : ∃ y ys, (kd :: c :: l).drop p2 = y :: ys := by
                cases hd : (kd :: c :: l).drop p2 with
                | nil => have := congrArg List.length hd; rw [List.length_drop, HL.out] at this; simp at this; omega
                | cons y ys => exact ⟨y, ys, rfl⟩
              have Hy := Lib.hid hy
              clear hend hy
              go_wp2_with fail
              refine bodyPost_ret (v := .tuple #[.agg #[.int .i64 0, .slice none 0 0, .slice none 0 0], .int .i64 4]) (by simp [results, Tryz.results31, go_sem, z1, z2, z3, r1, r2, r3]) rfl ?_
              first | exact ⟨zero_end _ Hq.out.mov, .inr ⟨dec_cons (by have := rdR_yes (kd := kd) (by rw [HT.out]; exact HT4.out) (HK.out ▸ HNs.out) (HT.out ▸ HTs.out); rw [Hy.out] at this; exact this), rfl⟩⟩ | exact ⟨Hq.out.mov, .inr ⟨dec_cons (by have := rdR_yes (kd := kd) (by rw [HT.out]; exact HT4.out) (HK.out ▸ HNs.out) (HT.out ▸ HTs.out); rw [Hy.out] at this; exact this), rfl⟩⟩
  · have hT4I : (4 : Int) < (T : Int) := by omega
    have Hd : Hid (M.dec (kd :: c :: l) = none) := dec_none (rdR_much (by rw [Hcc.out, hT]; exact hT4))
    clear hK hT h240 hcl hkl
    go_enter Tryz.func31, Tryz.ntmps31
    go_wp2_with fail
    refine bodyPost_ret (v := .tuple #[.agg #[.int .i64 0, .slice none 0 0, .slice none 0 0], .int .i64 4]) (by simp [results, Tryz.results31, go_sem, z1, z2, z3, r1, r2, r3]) rfl ?_
    first | exact ⟨zero_end _ B2.out, .inr ⟨Hd.out, rfl⟩⟩ | exact ⟨B2.out, .inr ⟨Hd.out, rfl⟩⟩

end Go.Proofs.YtpoolpckabpnfaaGreat.C
namespace Go.Proofs.YtpoolpckabpnfaaGreat.C
open Go.RowKit
set_option linter.unusedVariables false
set_option linter.unusedSimpArgs false
set_option maxRecDepth 20000

theorem dec_none2 {l : List UInt8} (h : M.rdR l = none) : M.dec l = none := by unfold M.dec; rw [h]

set_option maxHeartbeats 4000000 in
theorem refdecode_mod (w : World) (a : Option Addr) (n cap : Nat) (kd c : UInt8) (l : List UInt8) (h : Row w a n cap (u8s (kd :: c :: l))) (hn : n ≤ 65536) (h2 : 2 ≤ n) (h240 : ¬ 240 ≤ c.toNat) :
    Calls Tryz.prog 31 #[.slice a n cap] w (DPost w (kd :: c :: l)) := by
  have hl : (kd :: c :: l).length = n := by have := h.1; rw [u8s_length] at this; exact this
  have HR := Lib.hid h
  have Hn64 := Lib.hid hn
  have hnI : (n : Int) ≤ 65536 := by omega
  have B2 : Hid (Below w.heap.size w ((w.alloc (.cells #[.int .i64 0, .slice none 0 0, .slice none 0 0] 80)).alloc (.cells #[.int .i64 0, .slice none 0 0, .slice none 0 0] 80))) := ((Below.refl _ _).alloc (Nat.le_refl _) _).alloc (by simp) _
  have h2I : (2 : Int) ≤ (n : Int) := by omega
  obtain ⟨b, off, t, rfl, hb, ht, hc1⟩ := row_u8 h 1 (by omega)
  obtain rfl : c = t := by simpa using ht
  obtain ⟨b', off', t', hab, hb', ht', hc0⟩ := row_u8 h 0 (by omega)
  obtain rfl : kd = t' := by simpa using ht'
  obtain ⟨rfl, rfl⟩ : b = b' ∧ off = off' := by injection hab with hab; injection hab with h1 h2; exact ⟨h1, h2⟩
  rw [Nat.add_zero] at hc0
  have f1 := (B2.out.cell (p := ⟨b, off + 1, none⟩) hb).trans hc1
  have f0 := (B2.out.cell (p := ⟨b, off, none⟩) hb).trans hc0
  have HL := Lib.hid hl
  have hcl := c.toNat_lt
  have hkl := kd.toNat_lt
  have HKT := Lib.hid (show (240 ≤ c.toNat → M.cN c.toNat = 16 ∧ M.cT c.toNat = c.toNat - 240) ∧ (¬ 240 ≤ c.toNat → M.cN c.toNat = c.toNat % 16 ∧ M.cT c.toNat = c.toNat / 16) from by
    unfold M.cN M.cT
    exact ⟨fun h => ⟨if_pos h, if_pos h⟩, fun h => ⟨if_neg h, if_neg h⟩⟩)
  generalize hqd : kd.toNat = q at *
  have Hqd := Lib.hid hqd
  generalize hcc : c.toNat = cc at *
  have Hcc := Lib.hid hcc
  clear hqd hcc h hl ht ht' hab hb' hc0 hc1 hb h2
  have hqI : (q : Int) < 256 := by omega
  have hcI : (cc : Int) < 256 := by omega
  have hcI0 : (0 : Int) ≤ (cc : Int) := by omega
  have z1 := True.intro
  have z2 := True.intro
  have z3 := True.intro
  have r1 := True.intro
  have r2 := True.intro
  have r3 := True.intro
  have hge : (cc : Int) < 240 := by omega
  obtain ⟨hK, hT⟩ := HKT.out.2 h240
  have hmod : (cc : Int) % 16 = ((cc % 16 : Nat) : Int) := by omega
  have hdiv : (cc : Int) / 16 = ((cc / 16 : Nat) : Int) := by omega
  have hK16 : cc % 16 ≤ 16 := by omega
  generalize cc % 16 = KV at *
  generalize cc / 16 = T at *
  have hKI : (KV : Int) ≤ 16 := by omega
  by_cases hT4 : T ≤ 4
  · have hT4I : (T : Int) ≤ 4 := by omega
    have HT4 := Lib.hid hT4
    have HK : Hid (M.cN c.toNat = KV) := by show _ = _; rw [Hcc.out]; exact hK
    have HT : Hid (M.cT c.toNat = T) := by show _ = _; rw [Hcc.out]; exact hT
    clear hK hT h240 hcl hkl z1 z2 z3 r1 r2 r3
    go_enter Tryz.func31, Tryz.ntmps31
    go_wp2_with fail
    rw [hmod]
    go_loopw [8, 9] (fun p_ i wr => ∃ (k p : Nat) (ns : List Int) (a1 : Option Addr) (cap1 : Nat), k ≤ KV ∧ i = .int .i64 k ∧ p_ = .int .i64 (p : Int) ∧ p ≤ n ∧ RQ w.heap.size w wr q a1 k cap1 ns none 0 0 [] ∧ RN l ((kd :: c :: l).drop p) KV k ns) (fun _ i _ => KV - (intOf i).toNat)
    case atStart => exact ⟨0, 2, [], none, 0, by omega, rfl, rfl, by omega, rq_start q, rn_start l KV⟩
    case round =>
      obtain ⟨k, p, ns, a1, cap1, hk, rfl, rfl, hpn, hrq, hrn⟩ := hrel
      have Hq := Lib.hid hrq
      have Hn := Lib.hid hrn
      have HRow := Lib.hid (row_below HR.out hrq.mov (Nat.le_refl _))
      obtain ⟨o1, o2, o3, o4, o5, o6⟩ := hrq.own
      obtain ⟨z1, z2, z3, z4, z5, z6⟩ := hrq.zr
      obtain ⟨r1, r2, r3, r4, r5, r6⟩ := hrq.res
      clear hrq hrn
      have hpI : (p : Int) ≤ 65536 := by omega
      have Hpn := Lib.hid hpn
      by_cases hlt : k < KV
      · have hltI : (k : Int) < (KV : Int) := by omega
        cases hv : M.rdN ((kd :: c :: l).drop p) with
        | none =>
          have HV := Lib.hid hv
          clear hv
          go_wp2_with (go_at_call 53; refine (refnum_no _ _ _ _ (kd :: c :: l) p HRow.out Hpn.out Hn64.out HV.out).mono ?_; rintro e w' ⟨rfl, rfl⟩)
          refine bodyPost_ret (v := .tuple #[.agg #[.int .i64 0, .slice none 0 0, .slice none 0 0], .int .i64 4]) (by simp [results, Tryz.results31, go_sem, z1, z2, z3, r1, r2, r3]) rfl ?_
          first | exact ⟨zero_end _ Hq.out.mov, .inr ⟨dec_none2 (rdR_numsNo (HK.out ▸ rn_no hlt Hn.out HV.out)), rfl⟩⟩ | exact ⟨Hq.out.mov, .inr ⟨dec_none2 (rdR_numsNo (HK.out ▸ rn_no hlt Hn.out HV.out)), rfl⟩⟩
        | some vm =>
          obtain ⟨v, m'⟩ := vm
          have HV := Lib.hid hv
          clear hv
          have hk16 : k ≤ 16 := by omega
          go_wp2_with (first
            | (go_at_call 53; refine (refnum_ok _ _ _ _ (kd :: c :: l) p HRow.out Hpn.out Hn64.out v m' HV.out).mono ?_; rintro e w' ⟨p2, hm2, hp2, hp3, rfl, rfl⟩; have Hm2 := Lib.hid hm2; have Hp3 := Lib.hid hp3; have HrowN := Lib.hid (row_i64_new wr v); have Hq2 := Lib.hid (Hq.out.alloc (.cells #[.int .i64 v] 2)); clear hm2 hp2 hp3)
            | (at_builtin
               refine wpList_append_i64 _ rfl (.tmp 63) (.tmp 65) rfl (w.heap.size + 3) a1 k cap1 ns rfl Hq2.out.rn (some ⟨wr.heap.size, 0, Option.none⟩) 1 1 [v] rfl HrowN.out (by omega) Hq2.out.size ?_
               intro a4 cap4 w4 hown hbel
               have hr4 := rec3_below Hq2.out.own hbel (by omega)
               have hc4 := hr4.2.1
               have hf4 := hr4.2.2.2.2.1
               have Hq5 := Lib.hid (Hq2.out.num hown hbel)
               clear hr4 hown hbel))
          go_roundw
          case rel => exact ⟨k + 1, p2, ns ++ [v], a4, cap4, by omega, by go_num, rfl, by have := Hp3.out; rw [HL.out] at this; exact this, Hq5.out, by rw [← Hm2.out]; exact rn_on hlt Hn.out HV.out⟩
          case measure => simp [intOf]; omega
      · obtain rfl : KV = k := by omega
        have HNs := Lib.hid (rn_end Hn.out)
        clear Hn o1 o2 o3 o4 o5 o6 z1 z2 z3 z4 z5 z6 r1 r2 r3 r4 r5 r6 HRow
        have hge : (KV : Int) ≤ (KV : Int) := Int.le_refl _
        go_wp2_with fail
        go_loopw [8, 13] (fun p_ i wr => ∃ (j p2 : Nat) (ts : List ByteArray) (aT : Option Addr) (capT : Nat), j ≤ T ∧ i = .int .i64 j ∧ p_ = .int .i64 (p2 : Int) ∧ p2 ≤ n ∧ RQ w.heap.size w wr q a1 KV cap1 ns aT j capT ts ∧ RT ((kd :: c :: l).drop p) ((kd :: c :: l).drop p2) T j ts) (fun _ i _ => T - (intOf i).toNat)
        case atStart => exact ⟨0, p, [], none, 0, by omega, rfl, rfl, Hpn.out, Hq.out, rt_start _ T⟩
        case round =>
          clear Hq
          obtain ⟨j, p2, ts, aT, capT, hj, rfl, rfl, hpn2, hrq, hrn⟩ := hrel
          have Hq := Lib.hid hrq
          have Hn := Lib.hid hrn
          have HRow := Lib.hid (row_below HR.out hrq.mov (Nat.le_refl _))
          have hBl := Lib.hid hrq.mov
          obtain ⟨o1, o2, o3, o4, o5, o6⟩ := hrq.own
          obtain ⟨z1, z2, z3, z4, z5, z6⟩ := hrq.zr
          obtain ⟨r1, r2, r3, r4, r5, r6⟩ := hrq.res
          clear hrq hrn
          have hpI2 : (p2 : Int) ≤ 65536 := by omega
          have hp20 : (0 : Int) ≤ (p2 : Int) := by omega
          by_cases hlt : j < T
          · have hltI : (j : Int) < (T : Int) := by omega
            by_cases hat : p2 = n
            · have hd1 : decide ((n : Int) ≤ (p2 : Int)) = true := by rw [decide_eq_true_eq]; omega
              have hd1n : decide (n ≤ p2) = true := by rw [decide_eq_true_eq]; omega
              have HV : Hid (M.rdT ((kd :: c :: l).drop p2) = none) := by
                have e : (kd :: c :: l).drop p2 = [] := List.drop_eq_nil_of_le (by rw [HL.out]; omega)
                show _ = _
                rw [e]; rfl
              clear hat
              go_wp2_with fail
              refine bodyPost_ret (v := .tuple #[.agg #[.int .i64 0, .slice none 0 0, .slice none 0 0], .int .i64 4]) (by simp [results, Tryz.results31, go_sem, z1, z2, z3, r1, r2, r3]) rfl ?_
              first | exact ⟨zero_end _ Hq.out.mov, .inr ⟨dec_none2 (rdR_textsNo (HK.out ▸ HNs.out) (HT.out ▸ rt_no hlt Hn.out HV.out)), rfl⟩⟩ | exact ⟨Hq.out.mov, .inr ⟨dec_none2 (rdR_textsNo (HK.out ▸ HNs.out) (HT.out ▸ rt_no hlt Hn.out HV.out)), rfl⟩⟩
            · have hd1 : decide ((n : Int) ≤ (p2 : Int)) = false := by rw [decide_eq_false_iff_not]; omega
              have hd1n : decide (n ≤ p2) = false := by rw [decide_eq_false_iff_not]; omega
              obtain ⟨bb, of2, t, hab, hbb, ht, hct⟩ := row_u8 HRow.out p2 (by omega)
              have Hdrop := Lib.hid (drop_cons ht)
              have htl := t.toNat_lt
              have HrdT : Hid (M.rdT ((kd :: c :: l).drop p2) = if t.toNat ≤ 200 ∧ t.toNat ≤ ((kd :: c :: l).drop (p2 + 1)).length then some (⟨(((kd :: c :: l).drop (p2 + 1)).take t.toNat).toArray⟩, ((kd :: c :: l).drop (p2 + 1)).drop t.toNat) else none) := by
                show _ = _
                rw [Hdrop.out]; rfl
              have Hdl : Hid (((kd :: c :: l).drop (p2 + 1)).length = n - (p2 + 1)) := by
                show _ = _
                rw [List.length_drop, HL.out]
              generalize hz : t.toNat = z at *
              have Hz := Lib.hid hz
              clear hz ht
              have hz256 : (z : Int) < 256 := by omega
              have hz0 : (0 : Int) ≤ (z : Int) := by omega
              have ht2 : b = bb ∧ off = of2 := by injection hab with hab; injection hab with h1 h2; exact ⟨h1, h2⟩
              obtain ⟨rfl, rfl⟩ := ht2
              clear hab hbb
              have hltp : (p2 : Int) < (n : Int) := by omega
              by_cases hz200 : z ≤ 200
              · have hd2 : decide ((200 : Int) < (z : Int)) = false := by rw [decide_eq_false_iff_not]; omega
                by_cases hfit : p2 + 1 + z ≤ n
                · have hd3 : decide ((n : Int) < (p2 : Int) + 1 + (z : Int)) = false := by rw [decide_eq_false_iff_not]; omega
                  have HV : Hid (M.rdT ((kd :: c :: l).drop p2) = some (str (((kd :: c :: l).drop (p2 + 1)).take z), (kd :: c :: l).drop (p2 + 1 + z))) := by
                    show _ = _
                    rw [HrdT.out, if_pos ⟨hz200, by rw [Hdl.out]; omega⟩, List.drop_drop]
                    rfl
                  have hsl := fun w => run_mid (some ⟨b, off, none⟩) n cap (p2 + 1) (p2 + 1 + z) (by omega) (by have := HRow.out.2.1; omega) ((p2 : Int) + 1) ((p2 : Int) + 1 + (z : Int)) (by omega) (by omega) w
                  rw [show p2 + 1 + z - (p2 + 1) = z from by omega] at hsl
                  have hrowT := row_pre (row_drop HRow.out (p2 + 1) (by omega)) z (by omega)
                  rw [show (u8s (kd :: c :: l)).drop (p2 + 1) = u8s ((kd :: c :: l).drop (p2 + 1)) from (List.map_drop ..).symm, show (u8s ((kd :: c :: l).drop (p2 + 1))).take z = u8s (((kd :: c :: l).drop (p2 + 1)).take z) from (List.map_take ..).symm] at hrowT
                  generalize hadv : adv (some ⟨b, off, none⟩) cap (p2 + 1) = x4 at *
                  have Hadv := Lib.hid hadv
                  have HrowT := Lib.hid hrowT
                  have hconv := run_string_bytes (row_same HrowT.out (w' := wr.drew) rfl)
                  generalize hX : str (((kd :: c :: l).drop (p2 + 1)).take z) = X at *
                  have HX := Lib.hid hX
                  have Hq2 := Lib.hid (Hq.out.alloc (.cells #[.string X] 9))
                  have hlo := Hq2.out.own.2.2.1
                  have hw1 : IntKind.i64.wrap ((p2 : Int) + 1) = (p2 : Int) + 1 := by rw [IntKind.wrap_i64]; omega
                  have hw2 : IntKind.i64.wrap ((p2 : Int) + 1 + (z : Int)) = (p2 : Int) + 1 + (z : Int) := by rw [IntKind.wrap_i64]; omega
                  have HrowN := Lib.hid (row_str_new wr X)
                  have hj4 : j ≤ 4 := by omega
                  clear hadv hrowT hX htl hat HrdT Hdl
                  go_wp2_with fail
                  go_region_law ((first
                      | (refine step_append_str _ rfl (.tmp 106) (.tmp 116) rfl (w.heap.size + 3) aT j capT ts rfl (own_below Hq2.out.rt (Below.drew (Below.refl _ _)) (Nat.le_refl _)) (some ⟨wr.heap.size, 0, none⟩) 1 1 [X] rfl (row_same HrowN.out rfl) (by omega) Hq2.out.size ?_
                         intro a4 cap4 w4 hown hbel hgr hat
                         have hbel' : Below (w.heap.size + 3) (wr.alloc (.cells #[.string X] 9)) w4 := Below.trans (Below.drew (Below.refl _ _)) hbel
                         have hgr' : (wr.alloc (.cells #[.string X] 9)).grownBy w4 (Value.slice aT j capT).ownBlock := ⟨hgr.os, hgr.tape, hgr.output, hgr.size, hgr.block⟩
                         have hr4 := rec3_below Hq2.out.own hbel' (by omega)
                         have hc4 := hr4.2.2.1
                         have hf4 := hr4.2.2.2.2.2
                         have Hq5 := Lib.hid (Hq2.out.text hown hbel' hgr' hat)
                         clear hr4 hown hbel hgr hat hbel' hgr')))
                  all_goals
                    go_wp2_with fail
                    go_roundw
                    case rel => exact ⟨j + 1, p2 + 1 + z, ts ++ [X], a4, cap4, by omega, by go_num, by go_num, by omega, Hq5.out, rt_on hlt Hn.out HV.out⟩
                    case measure => simp [intOf]; omega
                · have hd3 : decide ((n : Int) < (p2 : Int) + 1 + (z : Int)) = true := by rw [decide_eq_true_eq]; omega
                  have HV : Hid (M.rdT ((kd :: c :: l).drop p2) = none) := by
                    show _ = _
                    rw [HrdT.out, if_neg (by rw [Hdl.out]; omega)]
                  clear htl hat HrdT Hdl
                  go_wp2_with fail
                  refine bodyPost_ret (v := .tuple #[.agg #[.int .i64 0, .slice none 0 0, .slice none 0 0], .int .i64 4]) (by simp [results, Tryz.results31, go_sem, z1, z2, z3, r1, r2, r3]) rfl ?_
                  first | exact ⟨zero_end _ Hq.out.mov, .inr ⟨dec_none2 (rdR_textsNo (HK.out ▸ HNs.out) (HT.out ▸ rt_no hlt Hn.out HV.out)), rfl⟩⟩ | exact ⟨Hq.out.mov, .inr ⟨dec_none2 (rdR_textsNo (HK.out ▸ HNs.out) (HT.out ▸ rt_no hlt Hn.out HV.out)), rfl⟩⟩
              · have hd2 : decide ((200 : Int) < (z : Int)) = true := by rw [decide_eq_true_eq]; omega
                have HV : Hid (M.rdT ((kd :: c :: l).drop p2) = none) := by
                  show _ = _
                  rw [HrdT.out, if_neg (by omega)]
                clear htl hat HrdT Hdl
                go_wp2_with fail
                refine bodyPost_ret (v := .tuple #[.agg #[.int .i64 0, .slice none 0 0, .slice none 0 0], .int .i64 4]) (by simp [results, Tryz.results31, go_sem, z1, z2, z3, r1, r2, r3]) rfl ?_
                first | exact ⟨zero_end _ Hq.out.mov, .inr ⟨dec_none2 (rdR_textsNo (HK.out ▸ HNs.out) (HT.out ▸ rt_no hlt Hn.out HV.out)), rfl⟩⟩ | exact ⟨Hq.out.mov, .inr ⟨dec_none2 (rdR_textsNo (HK.out ▸ HNs.out) (HT.out ▸ rt_no hlt Hn.out HV.out)), rfl⟩⟩
          · obtain rfl : j = T := by omega
            have HTs := Lib.hid (rt_end Hn.out)
            clear Hn
            have hge2 : (j : Int) ≤ (j : Int) := Int.le_refl _
            by_cases hend : p2 = n
            · have hd1 : (n : Int) ≤ (p2 : Int) := by omega
              have Hx : Hid ((kd :: c :: l).drop p2 = []) := List.drop_eq_nil_of_le (by rw [HL.out]; omega)
              clear hend
              go_wp2_with fail
              obtain ⟨e1, e2, e3⟩ := rq_end Hq.out
              refine bodyPost_ret (v := .tuple #[.agg #[.int .i64 (q : Int), .slice a1 KV cap1, .slice aT j capT], .int .i64 0]) (by simp [results, Tryz.results31, go_sem, r1, r2, r3]) rfl ?_
              refine ⟨e3, .inl ⟨⟨q, ns, ts⟩, _, ?_, ⟨a1, KV, cap1, aT, j, capT, rfl, e1, e2⟩, rfl⟩⟩
              have := rdR_yes (kd := kd) (by rw [HT.out]; exact HT4.out) (HK.out ▸ HNs.out) (HT.out ▸ HTs.out)
              rw [Hx.out, Hqd.out] at this
              exact dec_nil this
            · have hd1 : (p2 : Int) < (n : Int) := by omega
              obtain ⟨y, ys, hy⟩ : ∃ y ys, (kd :: c :: l).drop p2 = y :: ys := by
                cases hd : (kd :: c :: l).drop p2 with
                | nil => have := congrArg List.length hd; rw [List.length_drop, HL.out] at this; simp at this; omega
                | cons y ys => exact ⟨y, ys, rfl⟩
              have Hy := Lib.hid hy
              clear hend hy
              go_wp2_with fail
              refine bodyPost_ret (v := .tuple #[.agg #[.int .i64 0, .slice none 0 0, .slice none 0 0], .int .i64 4]) (by simp [results, Tryz.results31, go_sem, z1, z2, z3, r1, r2, r3]) rfl ?_
              first | exact ⟨zero_end _ Hq.out.mov, .inr ⟨dec_cons (by have := rdR_yes (kd := kd) (by rw [HT.out]; exact HT4.out) (HK.out ▸ HNs.out) (HT.out ▸ HTs.out); rw [Hy.out] at this; exact this), rfl⟩⟩ | exact ⟨Hq.out.mov, .inr ⟨dec_cons (by have := rdR_yes (kd := kd) (by rw [HT.out]; exact HT4.out) (HK.out ▸ HNs.out) (HT.out ▸ HTs.out); rw [Hy.out] at this; exact this), rfl⟩⟩
  · have hT4I : (4 : Int) < (T : Int) := by omega
    have Hd : Hid (M.dec (kd :: c :: l) = none) := dec_none2 (rdR_much (by rw [Hcc.out, hT]; exact hT4))
    clear hK hT h240 hcl hkl
    go_enter Tryz.func31, Tryz.ntmps31
    go_wp2_with fail
    refine bodyPost_ret (v := .tuple #[.agg #[.int .i64 0, .slice none 0 0, .slice none 0 0], .int .i64 4]) (by simp [results, Tryz.results31, go_sem, z1, z2, z3, r1, r2, r3]) rfl ?_
    first | exact ⟨zero_end _ B2.out, .inr ⟨Hd.out, rfl⟩⟩ | exact ⟨B2.out, .inr ⟨Hd.out, rfl⟩⟩

end Go.Proofs.YtpoolpckabpnfaaGreat.C
namespace Go.Proofs.YtpoolpckabpnfaaGreat.C
open Go.RowKit
set_option linter.unusedVariables false
set_option linter.unusedSimpArgs false
set_option maxRecDepth 20000
theorem refdecode_low (w : World) (a : Option Addr) (n cap : Nat) (l0 : List UInt8) (h : Row w a n cap (u8s l0)) (hn : n ≤ 65536) (h2 : n < 2) :
    Calls Tryz.prog 31 #[.slice a n cap] w (DPost w l0) := by
  have hl : l0.length = n := by have := h.1; rw [u8s_length] at this; exact this
  have HR := Lib.hid h
  have Hn64 := Lib.hid hn
  have hnI : (n : Int) ≤ 65536 := by omega
  have B2 : Hid (Below w.heap.size w ((w.alloc (.cells #[.int .i64 0, .slice none 0 0, .slice none 0 0] 80)).alloc (.cells #[.int .i64 0, .slice none 0 0, .slice none 0 0] 80))) := ((Below.refl _ _).alloc (Nat.le_refl _) _).alloc (by simp) _
  have h2I : (n : Int) < 2 := by omega
  have Hd : Hid (M.dec l0 = none) := by
    match l0, hl with
    | [], _ => rfl
    | [x], _ => rfl
    | x :: y :: z, hl => simp at hl; omega
  have z1 := True.intro
  have z2 := True.intro
  have z3 := True.intro
  have r1 := True.intro
  have r2 := True.intro
  have r3 := True.intro
  clear h hl h2
  go_enter Tryz.func31, Tryz.ntmps31
  go_wp2_with fail
  refine bodyPost_ret (v := .tuple #[.agg #[.int .i64 0, .slice none 0 0, .slice none 0 0], .int .i64 4]) (by simp [results, Tryz.results31, go_sem, z1, z2, z3, r1, r2, r3]) rfl ?_
  first | exact ⟨zero_end _ B2.out, .inr ⟨Hd.out, rfl⟩⟩ | exact ⟨B2.out, .inr ⟨Hd.out, rfl⟩⟩

theorem refdecode_any (w : World) (a : Option Addr) (n cap : Nat) (l0 : List UInt8) (h : Row w a n cap (u8s l0)) (hn : n ≤ 65536) :
    Calls Tryz.prog 31 #[.slice a n cap] w (DPost w l0) := by
  by_cases h2 : n < 2
  · exact refdecode_low w a n cap l0 h hn h2
  · have hl : l0.length = n := by have := h.1; rw [u8s_length] at this; exact this
    match l0, hl, h with
    | [], hl, _ => simp at hl; omega
    | [x], hl, _ => simp at hl; omega
    | kd :: c :: l, hl, h =>
      by_cases h240 : 240 ≤ c.toNat
      · exact refdecode_240 w a n cap kd c l h hn (by omega) h240
      · exact refdecode_mod w a n cap kd c l h hn (by omega) h240

end Go.Proofs.YtpoolpckabpnfaaGreat.C
