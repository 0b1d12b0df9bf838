/-
  The document's own answer for Encode: what the reference function answers. CONDITIONS: none.
-/
import Derived.Test.YtpggpgbkeafgnaaCRefe
import Derived.Test.YtpggpgbkeafgnaaCBox
namespace Go.Proofs.Ytpggpgbkeafgnaa.C
open Go.RowKit
set_option linter.unusedVariables false
set_option linter.unusedSimpArgs false
set_option maxRecDepth 20000

theorem Bx.low {w : World} {o : Obj} {w1 w2 : World} (h : Bx w o w1) (hb : Below (w.heap.size + 1) w1 w2) : Bx w o w2 := Below.trans h hb

theorem refencode_no (w : World) (r : M.Rc) (aN : Option Addr) (nN cN : Nat) (aT : Option Addr) (nT cT : Nat) (h : RecAt w r aN nN cN aT nT cT) (hm : ¬ M.May r) :
    Calls Try.prog 18 #[.agg #[.int .i64 r.kind, .slice aN nN cN, .slice aT nT cT]] w fun e w' => e = .returned (.tuple #[.slice none 0 0, .int .i64 4]) ∧ Below w.heap.size w w' := by
  have hb0 := (Below.refl w.heap.size w).alloc (Nat.le_refl _) (.cells #[.int .i64 r.kind, .slice aN nN cN, .slice aT nT cT] 39)
  have HM := Lib.hid (refmay_no _ r aN nN cN aT nT cT (h.below hb0 (Nat.le_refl _)) hm)
  have Hb0 := Lib.hid hb0
  clear h hm hb0
  go_enter Try.func18, Try.ntmps18
  go_wp2_with (go_at_call 29; refine HM.out.mono ?_; rintro e w1 ⟨rfl, hb⟩; have Hb := Lib.hid (Hb0.out.trans (hb.mono (by simp))); clear hb)
  go_ret2
  exact ⟨rfl, Hb.out⟩

theorem refenc_start {w w1 : World} {r : M.Rc} {nN nT : Nat} {z : Int} (hs : w.heap.size + 1 ≤ w1.heap.size)
    (hn : nN = r.nums.length) (ht : nT = r.texts.length) (hm : M.May r) (hz : z = (M.cnt nN nT : Int)) :
    Own 5 (w1.alloc (.cells #[.int .u8 r.kind, .int .u8 z] 5)) (w.heap.size + 1) (some ⟨w1.heap.size, 0, none⟩) 2 2 (u8s (hdr r)) := by
  subst hz
  have hu : u8s (hdr r) = [.int .u8 r.kind, .int .u8 (M.cnt nN nT : Int)] := by
    obtain ⟨h1, h2, h3, h4, h5⟩ := hm
    have hc : M.cnt r.nums.length r.texts.length < 256 := by unfold M.cnt; split <;> omega
    simp only [u8s, hdr, List.map_cons, List.map_nil, u8]
    rw [M.toNat_ofNat (n := r.kind.toNat) (by omega), M.toNat_ofNat hc, hn, ht, Int.toNat_of_nonneg h1]
  have := own_lit 5 w1 (w.heap.size + 1) (u8s (hdr r)) (by omega) (by simp [u8s, hdr])
  rw [hu] at this ⊢
  exact this

set_option maxHeartbeats 2000000 in
theorem refencode_yes (w : World) (r : M.Rc) (aN : Option Addr) (nN cN : Nat) (aT : Option Addr) (nT cT : Nat) (h : RecAt w r aN nN cN aT nT cT) (hm : M.May r) (hf : M.Fits r) :
    Calls Try.prog 18 #[.agg #[.int .i64 r.kind, .slice aN nN cN, .slice aT nT cT]] w fun e w' => ∃ a cap, e = .returned (.tuple #[.slice a (M.enc r).length cap, .int .i64 0]) ∧
      Own 5 w' w.heap.size a (M.enc r).length cap (u8s (M.enc r)) ∧ Below w.heap.size w w' := by
  have hb0 := (Below.refl w.heap.size w).alloc (Nat.le_refl _) (.cells #[.int .i64 r.kind, .slice aN nN cN, .slice aT nT cT] 39)
  have HM := Lib.hid (refmay_yes _ r aN nN cN aT nT cT (h.below hb0 (Nat.le_refl _)) hm)
  have H := Lib.hid h
  have Hm := Lib.hid hm
  have Hf := Lib.hid hf
  obtain ⟨hk1, hk2, hn16, ht4, ht200⟩ := hm
  have HnN := h.lenN
  have HnT := h.lenT
  have hn16 : nN ≤ 16 := by omega
  have ht4 : nT ≤ 4 := by omega
  have HN := Lib.hid HnN
  have HT := Lib.hid HnT
  have H200 := Lib.hid ht200
  have hnI : (nN : Int) ≤ 16 := by omega
  have htI : (nT : Int) ≤ 4 := by omega
  clear h hf hb0 ht200 HnN HnT
  by_cases h16 : nN = 16
  · have hq : ((nN : Int) == 16) = true := by rw [beq_iff_eq]; omega
    have Hz : Hid ((240 : Int) + (nT : Int) = (M.cnt nN nT : Int)) := by unfold M.cnt; rw [if_pos h16]; show _ = _; omega
    clear h16
    go_enter Try.func18, Try.ntmps18
    go_wp2_with (go_at_call 29; refine HM.out.mono ?_; rintro e w1 ⟨rfl, hb⟩; have B1 := Lib.hid ((Bx.refl w (.cells #[.int .i64 r.kind, .slice aN nN cN, .slice aT nT cT] 39)).next hb (Nat.le_refl _)); obtain ⟨c1, c2, c3⟩ := B1.out.cells; clear hb)
    have Hstart := Lib.hid (refenc_start (w := w) B1.out.size HN.out HT.out Hm.out Hz.out)
    clear c1 c2 c3
    go_loopw [5, 6] (fun b i wr => ∃ (k : Nat) (a : Option Addr) (m cap : Nat) (acc : List UInt8), k ≤ nN ∧ i = .int .i64 k ∧ b = .slice a m cap ∧ m ≤ 2 + 10 * k ∧ acc = hdr r ++ (r.nums.take k).flatMap M.num ∧ Own 5 wr (w.heap.size + 1) a m cap (u8s acc) ∧
        Bx w (.cells #[.int .i64 r.kind, .slice aN nN cN, .slice aT nT cT] 39) wr) (fun _ i _ => nN - (intOf i).toNat)
    case atStart => exact ⟨0, _, 2, 2, hdr r, by omega, rfl, rfl, by omega, by simp, Hstart.out, B1.out.alloc _⟩
    case round =>
      obtain ⟨k, a, m, cap, acc, hk, rfl, rfl, hm2, hacc, hown, hb⟩ := hrel
      have Ho := Lib.hid hown
      have Hb := Lib.hid hb
      have Hacc := Lib.hid hacc
      have Hm2 := Lib.hid hm2
      obtain ⟨c1, c2, c3⟩ := hb.cells
      clear hown hb hacc hm2
      by_cases hlt : k < nN
      · have hltI : (k : Int) < (nN : Int) := by omega
        obtain ⟨b, off, v, rfl, hbw, hv, hc0⟩ := row_i64 H.out.nums k hlt
        have hc : wr.cell? ⟨b, off + k, none⟩ = some (.int .i64 v) := by
          rw [Hb.out.old.cell (p := ⟨b, off + k, none⟩) hbw]; exact hc0
        have Hv := Lib.hid hv
        have Hfit := Lib.hid (Hf.out v (List.mem_of_getElem? hv))
        have hlen := M.num_len v
        have Hlen := Lib.hid hlen
        clear hv hc0 hlen hbw
        go_wp2_with (first
          | (go_at_call 30; refine (refnumber_any v _ Hfit.out).mono ?_; rintro e w2 ⟨a2, cap2, rfl, ho2, hb2⟩; have Ho2 := Lib.hid ho2; have Hb2 := Lib.hid hb2; clear ho2 hb2)
          | (at_builtin
             refine wpList_append_u8 _ rfl (.tmp 40) (.tmp 46) rfl (w.heap.size + 1) a m cap acc rfl (own_below Ho.out Hb2.out (Nat.le_refl _)) _ _ _ (M.num v) rfl (own_row Ho2.out).1 (m + (M.num v).length) rfl (by have := Hlen.out; have := Hm2.out; omega) (by have := Hb.out.size; have := Hb2.out.size; omega) ?_
             intro a3 cap3 w3 hown3 hb3
             have Ho3 := Lib.hid hown3
             have Hb3 := Lib.hid ((Hb.out.next Hb2.out (Nat.le_refl _)).low hb3)
             clear hown3 hb3))
        go_roundw
        case rel => exact ⟨k + 1, a3, m + (M.num v).length, cap3, acc ++ M.num v, by omega, by go_num, rfl, by have := Hlen.out; have := Hm2.out; omega, by rw [Hacc.out, take_one Hv.out]; simp, Ho3.out, Hb3.out⟩
        case measure => simp [intOf]; omega
      · obtain rfl : k = nN := by omega
        have hge : (k : Int) ≤ (k : Int) := Int.le_refl _
        have Hacc1 : Hid (acc = hdr r ++ r.nums.flatMap M.num) := by
          have := Hacc.out
          rw [List.take_of_length_le (by rw [← HN.out]; exact Nat.le_refl _)] at this
          exact this
        have hm162 : m ≤ 162 := by have := Hm2.out; omega
        have Hm162 := Lib.hid hm162
        clear Hacc Hm2 hm162
        go_wp2_with fail
        go_loopw [5, 7] (fun b i wr => ∃ (j : Nat) (a : Option Addr) (m cap : Nat) (acc : List UInt8), j ≤ nT ∧ i = .int .i64 j ∧ b = .slice a m cap ∧ m ≤ 162 + 201 * j ∧ acc = hdr r ++ r.nums.flatMap M.num ++ (r.texts.take j).flatMap M.txt ∧ Own 5 wr (w.heap.size + 1) a m cap (u8s acc) ∧
            Bx w (.cells #[.int .i64 r.kind, .slice aN k cN, .slice aT nT cT] 39) wr) (fun _ i _ => nT - (intOf i).toNat)
        case atStart => exact ⟨0, a, m, cap, acc, by omega, rfl, rfl, by have := Hm162.out; omega, by rw [Hacc1.out]; simp, Ho.out, Hb.out⟩
        case round =>
          clear Ho Hb Hacc1 Hm162 c1 c2 c3
          obtain ⟨j, a, m, cap, acc, hj, rfl, rfl, hm2, hacc, hown, hb⟩ := hrel
          have Ho := Lib.hid hown
          have Hb := Lib.hid hb
          have Hacc := Lib.hid hacc
          have Hm2 := Lib.hid hm2
          obtain ⟨c1, c2, c3⟩ := hb.cells
          clear hown hb hacc hm2
          by_cases hlt : j < nT
          · have hltI : (j : Int) < (nT : Int) := by omega
            obtain ⟨b, off, t, rfl, hbw, ht, hc0⟩ := row_str H.out.texts j hlt
            have hc : wr.cell? ⟨b, off + j, none⟩ = some (.string t) := by
              rw [Hb.out.old.cell (p := ⟨b, off + j, none⟩) hbw]; exact hc0
            have Ht := Lib.hid ht
            have Hc0 := Lib.hid (And.intro hbw hc0)
            have hsz := H200.out t (List.mem_of_getElem? ht)
            have hszI : (t.size : Int) ≤ 200 := by omega
            have Hsz := Lib.hid hsz
            have Hbyte := Lib.hid (show (t.size : Int) = (((UInt8.ofNat t.size).toNat : Nat) : Int) by rw [M.toNat_ofNat (by omega)])
            clear ht hc0 hbw hsz
            go_wp2_with (first
              | (at_builtin
                 refine wpList_append_u8 _ rfl (.tmp 55) (.tmp 63) rfl (w.heap.size + 1) a m cap acc rfl (own_below Ho.out ((Below.refl _ _).alloc (Nat.le_refl _) _) (Nat.le_refl _)) _ 1 1 [UInt8.ofNat t.size] rfl (row_byte _ _ _ Hbyte.out) (m + 1) rfl (by have := Hm2.out; omega) (by have := Hb.out.size; simp; omega) ?_
                 intro a3 cap3 w3 hown3 hb3
                 have Ho3 := Lib.hid hown3
                 have Hb3 := Lib.hid ((Hb.out.alloc (.cells #[.int .u8 (t.size : Int)] 5)).low hb3)
                 obtain ⟨k1, k2, k3⟩ := Hb3.out.cells
                 have k4 : w3.cell? ⟨b, off + j, none⟩ = some (.string t) := by rw [Hb3.out.old.cell (p := ⟨b, off + j, none⟩) Hc0.out.1]; exact Hc0.out.2
                 clear hown3 hb3)
              | (at_builtin
                 refine wpList_append_text _ rfl (.tmp 65) (.tmp 70) rfl (w.heap.size + 1) a3 (m + 1) cap3 (acc ++ [UInt8.ofNat t.size]) rfl Ho3.out t rfl (m + 1 + t.size) rfl (by have := Hm2.out; have := Hsz.out; omega) Hb3.out.size ?_
                 intro a4 cap4 w4 hown4 hb4
                 have Ho4 := Lib.hid hown4
                 have Hb4 := Lib.hid (Hb3.out.low hb4)
                 clear hown4 hb4))
            go_roundw
            case rel => exact ⟨j + 1, a4, m + 1 + t.size, cap4, _, by omega, by go_num, rfl, by have := Hm2.out; have := Hsz.out; omega, by rw [Hacc.out, take_one Ht.out]; simp [M.txt], Ho4.out, Hb4.out⟩
            case measure => simp [intOf]; omega
          · obtain rfl : j = nT := by omega
            have hge2 : (j : Int) ≤ (j : Int) := Int.le_refl _
            have Hacc2 : Hid (acc = M.enc r) := by
              have := Hacc.out
              rw [List.take_of_length_le (by rw [← HT.out]; exact Nat.le_refl _)] at this
              show acc = _
              rw [this]
              simp [M.enc, hdr]
            go_wp2_with fail
            go_ret2
            have hl : m = (M.enc r).length := by
              have := (own_row Ho.out).1.1
              rw [u8s_length, Hacc2.out] at this
              exact this.symm
            exact ⟨a, cap, by rw [← hl]; rfl, by rw [← hl, ← Hacc2.out]; exact own_mono Ho.out (by omega), Hb.out.old⟩
  · have hq : ((nN : Int) == 16) = false := by rw [beq_eq_false_iff_ne]; omega
    have Hz : Hid ((nN : Int) + 16 * (nT : Int) = (M.cnt nN nT : Int)) := by unfold M.cnt; rw [if_neg h16]; show _ = _; omega
    clear h16
    go_enter Try.func18, Try.ntmps18
    go_wp2_with (go_at_call 29; refine HM.out.mono ?_; rintro e w1 ⟨rfl, hb⟩; have B1 := Lib.hid ((Bx.refl w (.cells #[.int .i64 r.kind, .slice aN nN cN, .slice aT nT cT] 39)).next hb (Nat.le_refl _)); obtain ⟨c1, c2, c3⟩ := B1.out.cells; clear hb)
    have Hstart := Lib.hid (refenc_start (w := w) B1.out.size HN.out HT.out Hm.out Hz.out)
    clear c1 c2 c3
    go_loopw [5, 6] (fun b i wr => ∃ (k : Nat) (a : Option Addr) (m cap : Nat) (acc : List UInt8), k ≤ nN ∧ i = .int .i64 k ∧ b = .slice a m cap ∧ m ≤ 2 + 10 * k ∧ acc = hdr r ++ (r.nums.take k).flatMap M.num ∧ Own 5 wr (w.heap.size + 1) a m cap (u8s acc) ∧
        Bx w (.cells #[.int .i64 r.kind, .slice aN nN cN, .slice aT nT cT] 39) wr) (fun _ i _ => nN - (intOf i).toNat)
    case atStart => exact ⟨0, _, 2, 2, hdr r, by omega, rfl, rfl, by omega, by simp, Hstart.out, B1.out.alloc _⟩
    case round =>
      obtain ⟨k, a, m, cap, acc, hk, rfl, rfl, hm2, hacc, hown, hb⟩ := hrel
      have Ho := Lib.hid hown
      have Hb := Lib.hid hb
      have Hacc := Lib.hid hacc
      have Hm2 := Lib.hid hm2
      obtain ⟨c1, c2, c3⟩ := hb.cells
      clear hown hb hacc hm2
      by_cases hlt : k < nN
      · have hltI : (k : Int) < (nN : Int) := by omega
        obtain ⟨b, off, v, rfl, hbw, hv, hc0⟩ := row_i64 H.out.nums k hlt
        have hc : wr.cell? ⟨b, off + k, none⟩ = some (.int .i64 v) := by
          rw [Hb.out.old.cell (p := ⟨b, off + k, none⟩) hbw]; exact hc0
        have Hv := Lib.hid hv
        have Hfit := Lib.hid (Hf.out v (List.mem_of_getElem? hv))
        have hlen := M.num_len v
        have Hlen := Lib.hid hlen
        clear hv hc0 hlen hbw
        go_wp2_with (first
          | (go_at_call 30; refine (refnumber_any v _ Hfit.out).mono ?_; rintro e w2 ⟨a2, cap2, rfl, ho2, hb2⟩; have Ho2 := Lib.hid ho2; have Hb2 := Lib.hid hb2; clear ho2 hb2)
          | (at_builtin
             refine wpList_append_u8 _ rfl (.tmp 40) (.tmp 46) rfl (w.heap.size + 1) a m cap acc rfl (own_below Ho.out Hb2.out (Nat.le_refl _)) _ _ _ (M.num v) rfl (own_row Ho2.out).1 (m + (M.num v).length) rfl (by have := Hlen.out; have := Hm2.out; omega) (by have := Hb.out.size; have := Hb2.out.size; omega) ?_
             intro a3 cap3 w3 hown3 hb3
             have Ho3 := Lib.hid hown3
             have Hb3 := Lib.hid ((Hb.out.next Hb2.out (Nat.le_refl _)).low hb3)
             clear hown3 hb3))
        go_roundw
        case rel => exact ⟨k + 1, a3, m + (M.num v).length, cap3, acc ++ M.num v, by omega, by go_num, rfl, by have := Hlen.out; have := Hm2.out; omega, by rw [Hacc.out, take_one Hv.out]; simp, Ho3.out, Hb3.out⟩
        case measure => simp [intOf]; omega
      · obtain rfl : k = nN := by omega
        have hge : (k : Int) ≤ (k : Int) := Int.le_refl _
        have Hacc1 : Hid (acc = hdr r ++ r.nums.flatMap M.num) := by
          have := Hacc.out
          rw [List.take_of_length_le (by rw [← HN.out]; exact Nat.le_refl _)] at this
          exact this
        have hm162 : m ≤ 162 := by have := Hm2.out; omega
        have Hm162 := Lib.hid hm162
        clear Hacc Hm2 hm162
        go_wp2_with fail
        go_loopw [5, 7] (fun b i wr => ∃ (j : Nat) (a : Option Addr) (m cap : Nat) (acc : List UInt8), j ≤ nT ∧ i = .int .i64 j ∧ b = .slice a m cap ∧ m ≤ 162 + 201 * j ∧ acc = hdr r ++ r.nums.flatMap M.num ++ (r.texts.take j).flatMap M.txt ∧ Own 5 wr (w.heap.size + 1) a m cap (u8s acc) ∧
            Bx w (.cells #[.int .i64 r.kind, .slice aN k cN, .slice aT nT cT] 39) wr) (fun _ i _ => nT - (intOf i).toNat)
        case atStart => exact ⟨0, a, m, cap, acc, by omega, rfl, rfl, by have := Hm162.out; omega, by rw [Hacc1.out]; simp, Ho.out, Hb.out⟩
        case round =>
          clear Ho Hb Hacc1 Hm162 c1 c2 c3
          obtain ⟨j, a, m, cap, acc, hj, rfl, rfl, hm2, hacc, hown, hb⟩ := hrel
          have Ho := Lib.hid hown
          have Hb := Lib.hid hb
          have Hacc := Lib.hid hacc
          have Hm2 := Lib.hid hm2
          obtain ⟨c1, c2, c3⟩ := hb.cells
          clear hown hb hacc hm2
          by_cases hlt : j < nT
          · have hltI : (j : Int) < (nT : Int) := by omega
            obtain ⟨b, off, t, rfl, hbw, ht, hc0⟩ := row_str H.out.texts j hlt
            have hc : wr.cell? ⟨b, off + j, none⟩ = some (.string t) := by
              rw [Hb.out.old.cell (p := ⟨b, off + j, none⟩) hbw]; exact hc0
            have Ht := Lib.hid ht
            have Hc0 := Lib.hid (And.intro hbw hc0)
            have hsz := H200.out t (List.mem_of_getElem? ht)
            have hszI : (t.size : Int) ≤ 200 := by omega
            have Hsz := Lib.hid hsz
            have Hbyte := Lib.hid (show (t.size : Int) = (((UInt8.ofNat t.size).toNat : Nat) : Int) by rw [M.toNat_ofNat (by omega)])
            clear ht hc0 hbw hsz
            go_wp2_with (first
              | (at_builtin
                 refine wpList_append_u8 _ rfl (.tmp 55) (.tmp 63) rfl (w.heap.size + 1) a m cap acc rfl (own_below Ho.out ((Below.refl _ _).alloc (Nat.le_refl _) _) (Nat.le_refl _)) _ 1 1 [UInt8.ofNat t.size] rfl (row_byte _ _ _ Hbyte.out) (m + 1) rfl (by have := Hm2.out; omega) (by have := Hb.out.size; simp; omega) ?_
                 intro a3 cap3 w3 hown3 hb3
                 have Ho3 := Lib.hid hown3
                 have Hb3 := Lib.hid ((Hb.out.alloc (.cells #[.int .u8 (t.size : Int)] 5)).low hb3)
                 obtain ⟨k1, k2, k3⟩ := Hb3.out.cells
                 have k4 : w3.cell? ⟨b, off + j, none⟩ = some (.string t) := by rw [Hb3.out.old.cell (p := ⟨b, off + j, none⟩) Hc0.out.1]; exact Hc0.out.2
                 clear hown3 hb3)
              | (at_builtin
                 refine wpList_append_text _ rfl (.tmp 65) (.tmp 70) rfl (w.heap.size + 1) a3 (m + 1) cap3 (acc ++ [UInt8.ofNat t.size]) rfl Ho3.out t rfl (m + 1 + t.size) rfl (by have := Hm2.out; have := Hsz.out; omega) Hb3.out.size ?_
                 intro a4 cap4 w4 hown4 hb4
                 have Ho4 := Lib.hid hown4
                 have Hb4 := Lib.hid (Hb3.out.low hb4)
                 clear hown4 hb4))
            go_roundw
            case rel => exact ⟨j + 1, a4, m + 1 + t.size, cap4, _, by omega, by go_num, rfl, by have := Hm2.out; have := Hsz.out; omega, by rw [Hacc.out, take_one Ht.out]; simp [M.txt], Ho4.out, Hb4.out⟩
            case measure => simp [intOf]; omega
          · obtain rfl : j = nT := by omega
            have hge2 : (j : Int) ≤ (j : Int) := Int.le_refl _
            have Hacc2 : Hid (acc = M.enc r) := by
              have := Hacc.out
              rw [List.take_of_length_le (by rw [← HT.out]; exact Nat.le_refl _)] at this
              show acc = _
              rw [this]
              simp [M.enc, hdr]
            go_wp2_with fail
            go_ret2
            have hl : m = (M.enc r).length := by
              have := (own_row Ho.out).1.1
              rw [u8s_length, Hacc2.out] at this
              exact this.symm
            exact ⟨a, cap, by rw [← hl]; rfl, by rw [← hl, ← Hacc2.out]; exact own_mono Ho.out (by omega), Hb.out.old⟩
end Go.Proofs.Ytpggpgbkeafgnaa.C
