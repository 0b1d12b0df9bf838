/-
  Encode and Size answer a record's bytes and how many they are, or the error, where it may not be. CONDITIONS: none (any record).
-/
import Derived.Test.YtpoolpckabpnfaaGreatCNumb
namespace Go.Proofs.YtpoolpckabpnfaaGreat.C
open Go.RowKit
set_option linter.unusedVariables false
set_option linter.unusedSimpArgs false
set_option maxRecDepth 20000

theorem wpList_append_text (w : World) {ops : Array Oper} {rest : List Oper} {o : Oper} {act : Act} {Q : Exit → Act → World → Prop} (hgd : o.guard = none) (s x : Operand)
    (ho : o.op = .call { callee := .builtin .append, args := #[s, x], argTypes := #[50, 9] })
    (B : Nat) (a : Option Addr) (n cap : Nat) (l : List UInt8) (hs : act.eval s = .slice a n cap) (hown : Own 5 w B a n cap (u8s l))
    (t : ByteArray) (hx : act.eval x = .string t) (k : Nat) (hk : n + t.size = k) (hsum : k ≤ 1048576) (hB : B ≤ w.heap.size)
    (h : ∀ a' cap' w', Own 5 w' B a' k cap' (u8s (l ++ t.data.toList)) → Below B w w' → wpList Tryz.prog ops Q rest (act.put o.dst (.slice a' k cap')) w') : wpList Tryz.prog ops Q (o :: rest) act w := by
  subst hk
  obtain ⟨i0, hi0, hz0, hz1, hz2⟩ := info_parts u8_info
  obtain ⟨g1, g2, g3⟩ := hown
  refine Lib.wpList_append_own_string w hgd s x 50 9 ho B 5 i0 Tryz.underlying50 Tryz.underlying9 hi0 hz0 hz1 hz2 _ n (u8s l) hs g1 t hx (by simp only [maxLen]; omega) (by omega) hB ?_
  intro v' w' h5 h6 h7
  obtain ⟨a', cap', rfl⟩ : ∃ a' cap', v' = .slice a' (n + t.size) cap' := by
    rcases h5.2 with ⟨rfl, h0⟩ | ⟨g, c', cur, rfl, _⟩
    · exact ⟨none, 0, by rw [h0]⟩
    · exact ⟨_, _, rfl⟩
  refine h a' cap' w' ⟨by rw [u8s_append]; exact h5, ?_, by omega⟩ ((Below.refl _ _).grown h6 hB fun k hk => (g1.lt k hk).1)
  rw [u8s_length] at g2 ⊢
  rw [List.length_append, g2, M.size_list]

theorem encode_no (w : World) (r : M.Rc) (aN : Option Addr) (nN cN : Nat) (aT : Option Addr) (nT cT : Nat) (h : RecAt w r aN nN cN aT nT cT) (hm : ¬ M.May r) :
    Calls Tryz.prog 89 #[.agg #[.int .i64 r.kind, .slice aN nN cN, .slice aT nT cT]] w fun e w' => e = .returned (.tuple #[.slice none 0 0, .int .i64 4]) ∧ Below w.heap.size w w' := by
  have hb0 := (Below.refl w.heap.size w).alloc (Nat.le_refl _) (.cells #[.int .i64 r.kind, .slice aN nN cN, .slice aT nT cT] 80)
  have HM := Lib.hid (may_no _ r aN nN cN aT nT cT (h.below hb0 (Nat.le_refl _)) hm)
  have Hb0 := Lib.hid hb0
  clear h hm hb0
  go_enter Tryz.func89, Tryz.ntmps89
  go_wp2_with (go_at_call 101; refine HM.out.mono ?_; rintro e w1 ⟨rfl, hb⟩; have Hb := Lib.hid (Hb0.out.trans (hb.mono (by simp))); clear hb)
  go_ret2
  exact ⟨rfl, Hb.out⟩

/-- the first two bytes -/
def hdr (r : M.Rc) : List UInt8 := [UInt8.ofNat r.kind.toNat, UInt8.ofNat (M.cnt r.nums.length r.texts.length)]

theorem enc_start {w w1 : World} {r : M.Rc} {aN : Option Addr} {nN cN : Nat} {aT : Option Addr} {nT cT : Nat}
    (hb : Below (w.alloc (.cells #[.int .i64 r.kind, .slice aN nN cN, .slice aT nT cT] 80)).heap.size (w.alloc (.cells #[.int .i64 r.kind, .slice aN nN cN, .slice aT nT cT] 80)) w1)
    (hn : nN = r.nums.length) (ht : nT = r.texts.length) (hm : M.May r) :
    Own 5 ((w1.alloc (.cells #[.int .u8 r.kind, .int .u8 (M.cnt nN nT : Int)] 5)).drew) (w.heap.size + 1) (some ⟨w1.heap.size, 0, none⟩) 2 2 (u8s (hdr r)) := by
  have hs := hb.size
  simp at hs
  have hu : u8s (hdr r) = [.int .u8 r.kind, .int .u8 (M.cnt nN nT : Int)] := by
    obtain ⟨h1, h2, h3, h4, h5⟩ := hm
    have hc : M.cnt r.nums.length r.texts.length < 256 := by unfold M.cnt; split <;> omega
    simp only [u8s, hdr, List.map_cons, List.map_nil, u8]
    rw [M.toNat_ofNat (n := r.kind.toNat) (by omega), M.toNat_ofNat hc, hn, ht, Int.toNat_of_nonneg h1]
  have := own_lit 5 w1 (w.heap.size + 1) (u8s (hdr r)) (by omega) (by simp [u8s, hdr])
  rw [hu] at this ⊢
  exact this

set_option maxHeartbeats 2000000 in
theorem encode_yes (w : World) (r : M.Rc) (aN : Option Addr) (nN cN : Nat) (aT : Option Addr) (nT cT : Nat) (h : RecAt w r aN nN cN aT nT cT) (hm : M.May r) (hf : M.Fits r) :
    Calls Tryz.prog 89 #[.agg #[.int .i64 r.kind, .slice aN nN cN, .slice aT nT cT]] w fun e w' => ∃ a cap, e = .returned (.tuple #[.slice a (M.enc r).length cap, .int .i64 0]) ∧
      Own 5 w' w.heap.size a (M.enc r).length cap (u8s (M.enc r)) ∧ Below w.heap.size w w' := by
  have hb0 := (Below.refl w.heap.size w).alloc (Nat.le_refl _) (.cells #[.int .i64 r.kind, .slice aN nN cN, .slice aT nT cT] 80)
  have HM := Lib.hid (may_yes _ r aN nN cN aT nT cT (h.below hb0 (Nat.le_refl _)) hm)
  have Hb0 := Lib.hid hb0
  have H := Lib.hid h
  have Hm := Lib.hid hm
  have Hf := Lib.hid hf
  obtain ⟨hk1, hk2, hn16, ht4, ht200⟩ := hm
  have HnN := h.lenN
  have HnT := h.lenT
  have hn16 : nN ≤ 16 := by omega
  have ht4 : nT ≤ 4 := by omega
  have HN := Lib.hid HnN
  have HT := Lib.hid HnT
  have H200 := Lib.hid ht200
  clear h hf hb0 ht200 HnN HnT
  have hw8 : IntKind.u8.wrap r.kind = r.kind := by simp [IntKind.wrap, IntKind.bits, IntKind.signed]; omega
  go_enter Tryz.func89, Tryz.ntmps89
  go_wp2_with (go_at_call 101; refine HM.out.mono ?_; rintro e w1 ⟨rfl, hb⟩; have Hb := Lib.hid hb; clear hb)
  obtain ⟨c1, c2, c3⟩ : w1.cell? ⟨w.heap.size, 0, none⟩ = some (.int .i64 r.kind) ∧ w1.cell? ⟨w.heap.size, 1, none⟩ = some (.slice aN nN cN) ∧ w1.cell? ⟨w.heap.size, 2, none⟩ = some (.slice aT nT cT) := by
    refine ⟨?_, ?_, ?_⟩ <;> (rw [Hb.out.cell (by simp)]; rw [World.cell?_alloc_mark]; rfl)
  go_region_held3 (fun w' => w'.cell? ⟨w.heap.size, 0, none⟩ = some (.int .i64 r.kind) ∧ w'.cell? ⟨w.heap.size, 1, none⟩ = some (.slice aN nN cN) ∧ w'.cell? ⟨w.heap.size, 2, none⟩ = some (.slice aT nT cT)) (go_keep)
    ((go_at_call 102; refine (count_any _ nN nT hn16 ht4).mono ?_; rintro e w2 ⟨rfl, rfl⟩))
  go_wp2_with fail
  have Hstart := Lib.hid (enc_start (r := r) Hb.out HN.out HT.out Hm.out)
  have HB1 : Hid (Below (w.heap.size + 1) (w.alloc (.cells #[.int .i64 r.kind, .slice aN nN cN, .slice aT nT cT] 80)) w1) := by
    have := Hb.out
    rw [show (w.alloc (.cells #[.int .i64 r.kind, .slice aN nN cN, .slice aT nT cT] 80)).heap.size = w.heap.size + 1 from by simp] at this
    exact this
  have hnI : (nN : Int) ≤ 16 := by omega
  have htI : (nT : Int) ≤ 4 := by omega
  clear c1 c2 c3 hw8 hn16 ht4 hk1 hk2 Hb
  go_loopw [4, 26] (fun b i wr => ∃ (k : Nat) (a : Option Addr) (m cap : Nat) (acc : List UInt8), k ≤ nN ∧ i = .int .i64 k ∧ b = .slice a m cap ∧ m ≤ 2 + 10 * k ∧ acc = hdr r ++ (r.nums.take k).flatMap M.num ∧ Own 5 wr (w.heap.size + 1) a m cap (u8s acc) ∧
      Below (w.heap.size + 1) (w.alloc (.cells #[.int .i64 r.kind, .slice aN nN cN, .slice aT nT cT] 80)) wr) (fun _ i _ => nN - (intOf i).toNat)
  case atStart => exact ⟨0, _, 2, 2, hdr r, by omega, rfl, rfl, by omega, by simp, Hstart.out, HB1.out.trans (((Below.refl _ w1).alloc (by have := HB1.out.size; simp at this; omega) _).drew)⟩
  case round =>
    obtain ⟨k, a, m, cap, acc, hk, rfl, rfl, hm2, hacc, hown, hb⟩ := hrel
    have Ho := Lib.hid hown
    have Hb := Lib.hid hb
    have Hacc := Lib.hid hacc
    have Hm2 := Lib.hid hm2
    clear hown hb hacc hm2
    by_cases hlt : k < nN
    · have hltI : (k : Int) < (nN : Int) := by omega
      obtain ⟨b, off, v, rfl, hbw, hv, hc0⟩ := row_i64 H.out.nums k hlt
      have hc : wr.cell? ⟨b, off + k, none⟩ = some (.int .i64 v) := by
        rw [Hb.out.cell (p := ⟨b, off + k, none⟩) (by simp; omega), Hb0.out.cell (p := ⟨b, off + k, none⟩) hbw]; exact hc0
      have Hv := Lib.hid hv
      have Hfit := Lib.hid (Hf.out v (List.mem_of_getElem? hv))
      have hlen := M.num_len v
      have Hlen := Lib.hid hlen
      clear hv hc0 hlen hbw
      go_wp2_with (first
        | (go_at_call 103; refine (number2_any v _ Hfit.out).mono ?_; rintro e w2 ⟨a2, cap2, rfl, ho2, hb2⟩; have Ho2 := Lib.hid ho2; have Hb2 := Lib.hid hb2; clear ho2 hb2)
        | (at_builtin
           refine wpList_append_u8 _ rfl (.tmp 30) (.tmp 32) rfl (w.heap.size + 1) a m cap acc rfl (own_below Ho.out Hb2.out (Nat.le_refl _)) _ _ _ (M.num v) rfl (own_row Ho2.out).1 (m + (M.num v).length) rfl (by have := Hlen.out; have := Hm2.out; omega) (by have := Hb.out.size; have := Hb2.out.size; simp at *; omega) ?_
           intro a3 cap3 w3 hown3 hb3
           have Ho3 := Lib.hid hown3
           have Hb3 := Lib.hid ((Hb.out.trans (Hb2.out.mono (by have := Hb.out.size; simp at this; omega))).trans hb3)
           clear hown3 hb3))
      go_roundw
      case rel => exact ⟨k + 1, a3, m + (M.num v).length, cap3, acc ++ M.num v, by omega, by go_num, rfl, by have := Hlen.out; have := Hm2.out; omega, by rw [Hacc.out, take_one Hv.out]; simp, Ho3.out, Hb3.out⟩
      case measure => simp [intOf]; omega
    · obtain rfl : k = nN := by omega
      have hge : (k : Int) ≤ (k : Int) := Int.le_refl _
      have Hacc1 : Hid (acc = hdr r ++ r.nums.flatMap M.num) := by
        have := Hacc.out
        rw [List.take_of_length_le (by rw [← HN.out]; exact Nat.le_refl _)] at this
        exact this
      have hm162 : m ≤ 162 := by have := Hm2.out; omega
      have Hm162 := Lib.hid hm162
      obtain ⟨c1, c2, c3⟩ : wr.cell? ⟨w.heap.size, 0, none⟩ = some (.int .i64 r.kind) ∧ wr.cell? ⟨w.heap.size, 1, none⟩ = some (.slice aN k cN) ∧ wr.cell? ⟨w.heap.size, 2, none⟩ = some (.slice aT nT cT) := by
        refine ⟨?_, ?_, ?_⟩ <;> (rw [Hb.out.cell (by simp)]; rw [World.cell?_alloc_mark]; rfl)
      clear Hacc Hm2 hm162
      go_wp2_with fail
      go_loopw [4, 38] (fun b i wr => ∃ (j : Nat) (a : Option Addr) (m cap : Nat) (acc : List UInt8), j ≤ nT ∧ i = .int .i64 j ∧ b = .slice a m cap ∧ m ≤ 162 + 201 * j ∧ acc = hdr r ++ r.nums.flatMap M.num ++ (r.texts.take j).flatMap M.txt ∧ Own 5 wr (w.heap.size + 1) a m cap (u8s acc) ∧
          Below (w.heap.size + 1) (w.alloc (.cells #[.int .i64 r.kind, .slice aN k cN, .slice aT nT cT] 80)) wr) (fun _ i _ => nT - (intOf i).toNat)
      case atStart => exact ⟨0, a, m, cap, acc, by omega, rfl, rfl, by have := Hm162.out; omega, by rw [Hacc1.out]; simp, Ho.out, Hb.out⟩
      case round =>
        clear Ho Hb Hacc1 Hm162 c1 c2 c3
        obtain ⟨j, a, m, cap, acc, hj, rfl, rfl, hm2, hacc, hown, hb⟩ := hrel
        have Ho := Lib.hid hown
        have Hb := Lib.hid hb
        have Hacc := Lib.hid hacc
        have Hm2 := Lib.hid hm2
        clear hown hb hacc hm2
        by_cases hlt : j < nT
        · have hltI : (j : Int) < (nT : Int) := by omega
          obtain ⟨b, off, t, rfl, hbw, ht, hc0⟩ := row_str H.out.texts j hlt
          have hc : wr.cell? ⟨b, off + j, none⟩ = some (.string t) := by
            rw [Hb.out.cell (p := ⟨b, off + j, none⟩) (by simp; omega), Hb0.out.cell (p := ⟨b, off + j, none⟩) hbw]; exact hc0
          have Ht := Lib.hid ht
          have hsz := H200.out t (List.mem_of_getElem? ht)
          have hszI : (t.size : Int) ≤ 200 := by omega
          have Hsz := Lib.hid hsz
          have Hbyte := Lib.hid (show (t.size : Int) = (((UInt8.ofNat t.size).toNat : Nat) : Int) by rw [M.toNat_ofNat (by omega)])
          clear ht hc0 hbw hsz
          go_wp2_with (first
            | (at_builtin
               refine wpList_append_u8 _ rfl (.tmp 42) (.tmp 46) rfl (w.heap.size + 1) a m cap acc rfl (own_below Ho.out ((Below.refl _ _).alloc (Nat.le_refl _) _) (Nat.le_refl _)) _ 1 1 [UInt8.ofNat t.size] rfl (row_byte _ _ _ Hbyte.out) (m + 1) rfl (by have := Hm2.out; omega) (by have := Hb.out.size; simp at *; omega) ?_
               intro a3 cap3 w3 hown3 hb3
               have Ho3 := Lib.hid hown3
               have Hb3 := Lib.hid ((Hb.out.alloc (by have := Hb.out.size; simp at this; omega) (.cells #[.int .u8 (t.size : Int)] 5)).trans hb3)
               clear hown3 hb3)
            | (at_builtin
               refine wpList_append_text _ rfl (.tmp 48) (.tmp 49) rfl (w.heap.size + 1) a3 (m + 1) cap3 (acc ++ [UInt8.ofNat t.size]) rfl Ho3.out t rfl (m + 1 + t.size) rfl (by have := Hm2.out; have := Hsz.out; omega) (by have := Hb3.out.size; simp at *; omega) ?_
               intro a4 cap4 w4 hown4 hb4
               have Ho4 := Lib.hid hown4
               have Hb4 := Lib.hid (Hb3.out.trans hb4)
               clear hown4 hb4))
          go_roundw
          case rel => exact ⟨j + 1, a4, m + 1 + t.size, cap4, _, by omega, by go_num, rfl, by have := Hm2.out; have := Hsz.out; omega, by rw [Hacc.out, take_one Ht.out]; simp [M.txt], Ho4.out, Hb4.out⟩
          case measure => simp [intOf]; omega
        · obtain rfl : j = nT := by omega
          have hge2 : (j : Int) ≤ (j : Int) := Int.le_refl _
          have Hacc2 : Hid (acc = M.enc r) := by
            have := Hacc.out
            rw [List.take_of_length_le (by rw [← HT.out]; exact Nat.le_refl _)] at this
            show acc = _
            rw [this]
            simp [M.enc, hdr]
          go_wp2_with fail
          go_ret2
          have hl : m = (M.enc r).length := by
            have := (own_row Ho.out).1.1
            rw [u8s_length, Hacc2.out] at this
            exact this.symm
          exact ⟨a, cap, by rw [← hl]; rfl, by rw [← hl, ← Hacc2.out]; exact own_mono Ho.out (by omega), Hb0.out.trans (Hb.out.mono (by omega))⟩

end Go.Proofs.YtpoolpckabpnfaaGreat.C
