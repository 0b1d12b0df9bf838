/-
  Quote answers as the document says. CONDITIONS: the text is short; the library's two tables lie as its text lays them.
-/
import Derived.Test.YtaldkdiijflmdaaDoorPlain
namespace Go.Proofs.YtaldkdiijflmdaaDoor
open Go.RowKit
set_option linter.unusedVariables false
set_option linter.unusedSimpArgs false
set_option maxRecDepth 20000

theorem tabs_size {w : World} (h : Lib.Utf8Tabs 0 1 w) : 2 ≤ w.heap.size := by
  have := World.block_lt_of_cell? w _ (h.2 0 (by omega)).1
  simp only at this
  omega

theorem tabs_below {w w' : World} {N : Nat} (h : Lib.Utf8Tabs 0 1 w) (hb : Below N w w') (hN : 2 ≤ N) : Lib.Utf8Tabs 0 1 w' := by
  refine ⟨fun c hc => ?_, fun i hi => ⟨?_, ?_⟩⟩
  · rw [hb.cell (p := ⟨0, c, none⟩) (by show 0 < N; omega)]; exact h.1 c hc
  · rw [hb.cell (p := ⟨1, 2 * i, none⟩) (by show 1 < N; omega)]; exact (h.2 i hi).1
  · rw [hb.cell (p := ⟨1, 2 * i + 1, none⟩) (by show 1 < N; omega)]; exact (h.2 i hi).2

theorem extract_list (s : ByteArray) (i j : Nat) : (s.extract i j).data.toList = (s.data.toList.drop i).take (j - i) := by
  rw [ByteArray.data_extract, Array.toList_extract, List.extract_eq_take_drop]

theorem decode_rest (s : ByteArray) (pos : Nat) (h : pos < s.size) : Lib.decodeGo (s.extract pos s.size) = Utf8.decode s pos := by
  unfold Lib.decodeGo
  rw [if_neg (by rw [ByteArray.size_extract]; omega), decode_drop, decode_drop, extract_list, List.drop_zero, List.take_of_length_le (by rw [List.length_drop, ← Lib.size_eq]; exact Nat.le_refl _)]

theorem pcs_at (s : ByteArray) (pos : Nat) (h : pos < s.size) :
    M.pcs (s.data.toList.drop pos) = ((Utf8.decode s pos).1, (s.data.toList.drop pos).take (Utf8.decode s pos).2) :: M.pcs (s.data.toList.drop (pos + (Utf8.decode s pos).2)) := by
  have hne : s.data.toList.drop pos ≠ [] := by
    intro e
    have := congrArg List.length e
    rw [List.length_drop, ← Lib.size_eq] at this
    simp at this
    omega
  rw [decode_drop, M.pcs_step _ hne, List.drop_drop]

theorem pcs_end (s : ByteArray) : M.pcs (s.data.toList.drop s.size) = [] := by
  rw [Lib.size_eq, List.drop_length]; rfl

theorem Own.iterAt {e : TypeId} {w : World} {B : Nat} {a : Option Addr} {n cap : Nat} {vs : List Value} (h : Own e w B a n cap vs) {k : Nat} {s : ByteArray} {pos : Nat} (hk : w.heap[k]? = some (.stringIter s pos)) (p : Nat) : Own e (w.iterAt k s p) B a n cap vs := by
  obtain ⟨h1, h2⟩ := h
  refine ⟨⟨h1.1, ?_⟩, h2⟩
  rcases h1.2 with h' | ⟨g, c, cur, hv, hg, hh, r⟩
  · exact .inl h'
  · refine .inr ⟨g, c, cur, hv, hg, ?_, r⟩
    rw [Lib.iterAt_other w k g s p (fun e => ?_)]
    · exact hh
    · subst e
      rw [hh] at hk
      cases hk

def QPost (w : World) (l : List UInt8) (e : Ending) (w' : World) : Prop := e = .returned (.string (str (M.quote l))) ∧ Below w.heap.size w w'

theorem str_data (s : ByteArray) : str s.data.toList = s := by cases s; simp [str]

/-- what is known at the loop's head -/
structure QInv (s : ByteArray) (w wr : World) (pos : Nat) (acc : List UInt8) (a : Option Addr) (n c : Nat) : Prop where
  le : pos ≤ s.size
  it : wr.heap[w.heap.size + 1]? = some (Obj.stringIter s pos)
  own : Own 5 wr w.heap.size a n c (u8s acc)
  bl : Below w.heap.size w wr
  len : n ≤ 1 + 16 * pos
  eq : acc ++ (M.pcs (s.data.toList.drop pos)).flatMap M.esc1 = 34 :: (M.pcs s.data.toList).flatMap M.esc1

theorem qinv_start (s : ByteArray) (w : World) : QInv s w ((w.alloc (.cells #[.int .u8 34] 5)).iter s 0) 0 [34] (some ⟨w.heap.size, 0, none⟩) 1 1 := by
  refine ⟨by omega, ?_, ?_, ((Below.refl _ w).alloc (Nat.le_refl _) _).alloc (by simp) _, by omega, by rw [List.drop_zero]; rfl⟩
  · have := World.iter_heap (w.alloc (.cells #[.int .u8 34] 5)) s 0
    simpa using this
  · exact own_below (own_lit 5 w w.heap.size (u8s [34]) (Nat.le_refl _) (by decide)) ((Below.refl _ (w.alloc (.cells #[.int .u8 34] 5))).alloc (Nat.le_refl _) _) (Nat.le_refl _)

theorem append_u8_at (w : World) (N : Nat) (a : Option Addr) (n cap : Nat) (l : List UInt8) (hown : Own 5 w N a n cap (u8s l)) (A : Option Addr) (m c : Nat) (x : List UInt8) (hr : Row w A m c (u8s x)) (hsum : n + m ≤ 1048576) (hB : N ≤ w.heap.size) :
    ∃ v w', (Builtin.append_ #[33, 33] 33 #[.slice a n cap, .slice A m c]).run Tryd.prog w = .ok v w' ∧ ∃ a' cap', v = .slice a' (n + m) cap' ∧ Own 5 w' N a' (n + m) cap' (u8s (l ++ x)) ∧ Kp N w w' := by
  obtain ⟨a', cap', w', h1, h2, h3, h4, h5⟩ := run_append_u8 w 33 N a n cap l hown A m c x hr hsum hB
  exact ⟨_, w', h1, a', cap', rfl, h2, Kp.grown hown h4 hB⟩

theorem QInv.on {s : ByteArray} {w wr w1 : World} {pos : Nat} {acc x : List UInt8} {a a' : Option Addr} {m m' c c' r k : Nat} (h : QInv s w wr pos acc a m c)
    (hpc : M.pcs (s.data.toList.drop pos) = (r, (s.data.toList.drop pos).take k) :: M.pcs (s.data.toList.drop (pos + k)))
    (hx : M.esc1 (r, (s.data.toList.drop pos).take k) = x) (hle : pos + k ≤ s.size) (hk1 : 1 ≤ k)
    (hit : w1.heap[w.heap.size + 1]? = some (Obj.stringIter s (pos + k))) (hown : Own 5 w1 w.heap.size a' m' c' (u8s (acc ++ x))) (hbl : Below w.heap.size w w1) (hm : m' ≤ m + 16) : QInv s w w1 (pos + k) (acc ++ x) a' m' c' := by
  refine ⟨hle, hit, hown, hbl, ?_, ?_⟩
  · have := h.len
    omega
  · rw [← h.eq, hpc, List.flatMap_cons, hx, List.append_assoc]

theorem quote_any (s : ByteArray) (w : World) (hT : Lib.Utf8Tabs 0 1 w) (hs : s.size ≤ 20000) : Calls Tryd.prog 12 #[.string s] w (QPost w s.data.toList) := by
  have HP := Lib.hid (plainW_any s w)
  have HT := Lib.hid hT
  have HS := Lib.hid hs
  have hI : (s.size : Int) ≤ 20000 := by omega
  clear hT hs
  cases hp : M.plainW s.data.toList with
  | true =>
    have HPl := Lib.hid hp
    rw [hp] at HP
    have HE : Hid (str (M.quote s.data.toList) = s) := by
      have : M.quote s.data.toList = s.data.toList := by unfold M.quote; rw [hp]; rfl
      rw [this]
      exact Lib.hid (str_data s)
    clear hp
    go_enter Tryd.func12, Tryd.ntmps12
    go_wp2_with (go_at_call 15; refine HP.out.mono ?_; rintro e w1 ⟨rfl, hb⟩; have HB := Lib.hid hb; clear hb)
    go_ret
    exact ⟨congrArg (fun x => Ending.returned (Value.string x)) HE.out.symm, HB.out⟩
  | false =>
    have HPl := Lib.hid hp
    rw [hp] at HP
    clear hp
    go_enter Tryd.func12, Tryd.ntmps12
    go_wp2_with (go_at_call 15; refine HP.out.mono ?_; rintro e w1 ⟨rfl, hb⟩; have HB := Lib.hid hb; clear hb)
    go_loopw [3] (fun b wr => ∃ (pos : Nat) (acc : List UInt8) (a : Option Addr) (n c : Nat), b = .slice a n c ∧ QInv s w1 wr pos acc a n c) (fun _ wr => s.size - wr.iterPos (w1.heap.size + 1))
    case atStart => exact ⟨0, [34], _, 1, 1, rfl, qinv_start s w1⟩
    case round =>
      obtain ⟨pos, acc, a, n, c, rfl, hv⟩ := hrel
      have HV := Lib.hid hv
      clear hv
      by_cases hp : pos < s.size
      · have hra := runes_at s pos hp
        have hpc := pcs_at s pos hp
        have hdr := decode_rest s pos hp
        have hnx : ∀ ty, (Instr.next (.pointer (some ⟨w1.heap.size + 1, 0, none⟩)) true ty).run Tryd.prog wr = _ := fun ty => Lib.run_next_any_at wr (w1.heap.size + 1) s pos ty HV.out.it hp
        have hIt := Lib.iterAt_heap wr (w1.heap.size + 1) s pos (pos + (Utf8.decode s pos).2) HV.out.it
        have hpiece : M.Piece ((Utf8.decode s pos).1, (s.data.toList.drop pos).take (Utf8.decode s pos).2) := M.pcs_piece _ (s.data.toList.drop pos) (Nat.le_refl _) _ (by rw [hpc]; exact List.mem_cons_self)
        have hpone := M.piece_one (s.data.toList.drop pos) _ (Nat.le_refl _) ((Utf8.decode s pos).1, (s.data.toList.drop pos).take (Utf8.decode s pos).2) (by rw [hpc]; exact List.mem_cons_self)
        have HPp := Lib.hid hp
        clear hp
        obtain ⟨r, hr⟩ : ∃ r, (Utf8.decode s pos).1 = r := ⟨_, rfl⟩
        obtain ⟨k, hk⟩ : ∃ k, (Utf8.decode s pos).2 = k := ⟨_, rfl⟩
        rw [hr, hk] at hra hpc hpiece hpone
        rw [hk] at hIt
        have hdr1 : (Lib.decodeGo (s.extract pos s.size)).1 = r := by rw [hdr]; exact hr
        have hdr2 : (Lib.decodeGo (s.extract pos s.size)).2 = k := by rw [hdr]; exact hk
        simp only [hr, hk] at hnx
        clear hdr hr hk
        have HRA := Lib.hid hra
        have HPC := Lib.hid hpc
        have HPi := Lib.hid hpiece
        have HPo := Lib.hid hpone
        have HIt := Lib.hid hIt
        have HD1 := Lib.hid hdr1
        have HD2 := Lib.hid hdr2
        clear hra hpc hpiece hpone hIt hdr1 hdr2
        have HBx := Lib.hid (Lib.below_iterAt HV.out.bl (k := w1.heap.size + 1) (by omega) s (pos + k))
        have HOx := Lib.hid (HV.out.own.iterAt HV.out.it (pos + k))
        generalize hwx : wr.iterAt (w1.heap.size + 1) s (pos + k) = wx at *
        clear hwx
        have HN : Hid (w1.heap.size ≤ wx.heap.size) := HBx.out.size
        have Hnn : Hid (n + 1000 ≤ 1000000) := by have := HV.out.len; have := HS.out; have := HV.out.le; show n + 1000 ≤ 1000000; omega
        have measure : ∀ wz : World, Kp w1.heap.size wx wz → s.size - wz.iterPos (w1.heap.size + 1) < s.size - wr.iterPos (w1.heap.size + 1) := by
          intro wz hz
          simp only [World.iterPos, hz.it _ _ _ HIt.out, HV.out.it]
          have := HRA.out.2.2.2.1
          have := HPp.out
          omega
        have HMs := Lib.hid measure
        clear measure
        have hi1 : (0 : Int) ≤ (pos : Int) := by omega
        have hi2 : (pos : Int) + (k : Int) ≤ (s.size : Int) := by have := HRA.out.2.2.2.2; omega
        have hi3 : (0 : Int) ≤ (k : Int) := by omega
        have hi4 : (pos : Int) ≤ (s.size : Int) := by omega
        by_cases h1 : r = 34
        · subst h1
          have HX : Hid (M.esc1 (34, (s.data.toList.drop pos).take k) = [92, 34]) := Lib.hid rfl
          have HA := Lib.hid (append_u8_at (wx.alloc (.cells #[.int .u8 92, .int .u8 34] 5)) w1.heap.size a n c acc (own_below HOx.out ((Below.refl _ wx).alloc (Nat.le_refl _) _) (Nat.le_refl _)) (some ⟨wx.heap.size, 0, none⟩) 2 2 [92, 34] (row_lit4 _ _ _ rfl 2 rfl (by omega)) (by have := Hnn.out; omega) (by have := HN.out; simp; omega))
          go_wp2_with (at_builtin; refine wpList_append_run _ rfl (.tmp 40) (.tmp 43) 33 33 rfl HA.out ?_; rintro v w3 ⟨a', c', rfl, ho, hk⟩; have HO3 := Lib.hid ho; have HK3 := Lib.hid ((Kp.alloc w1.heap.size wx HN.out _).trans hk); clear ho hk)
          go_roundw
          case rel => exact ⟨pos + k, _, a', n + 2, c', rfl, HV.out.on HPC.out HX.out HRA.out.2.2.2.2 HRA.out.2.2.2.1 (HK3.out.it _ _ _ HIt.out) HO3.out (HBx.out.trans HK3.out.bl) (by omega)⟩
          case measure => exact HMs.out _ HK3.out
        · by_cases h2 : r = 92
          · subst h2
            have HX : Hid (M.esc1 (92, (s.data.toList.drop pos).take k) = [92, 92]) := Lib.hid rfl
            have HA := Lib.hid (append_u8_at (wx.alloc (.cells #[.int .u8 92, .int .u8 92] 5)) w1.heap.size a n c acc (own_below HOx.out ((Below.refl _ wx).alloc (Nat.le_refl _) _) (Nat.le_refl _)) (some ⟨wx.heap.size, 0, none⟩) 2 2 [92, 92] (row_lit4 _ _ _ rfl 2 rfl (by omega)) (by have := Hnn.out; omega) (by have := HN.out; simp; omega))
            go_wp2_with (at_builtin; refine wpList_append_run _ rfl (.tmp 40) (.tmp 43) 33 33 rfl HA.out ?_; rintro v w3 ⟨a', c', rfl, ho, hk⟩; have HO3 := Lib.hid ho; have HK3 := Lib.hid ((Kp.alloc w1.heap.size wx HN.out _).trans hk); clear ho hk)
            go_roundw
            case rel => exact ⟨pos + k, _, a', n + 2, c', rfl, HV.out.on HPC.out HX.out HRA.out.2.2.2.2 HRA.out.2.2.2.1 (HK3.out.it _ _ _ HIt.out) HO3.out (HBx.out.trans HK3.out.bl) (by omega)⟩
            case measure => exact HMs.out _ HK3.out
          · have d1 : ((r : Int) == 34) = false := int_neq (k := 34) h1
            have d2 : ((r : Int) == 92) = false := int_neq (k := 92) h2
            cases hs : M.shownB r with
            | true =>
              have C := Lib.hid (shown_yes r wx hs)
              have HX : Hid (M.esc1 (r, (s.data.toList.drop pos).take k) = Lib.encodeRune (r : Int)) := by
                unfold M.esc1
                rw [if_neg (by simp only; omega), if_pos hs]
                exact Lib.hid rfl
              have D := Lib.hid (rune_any wx w1.heap.size a n c acc r HRA.out.2.1 HOx.out (by have := Hnn.out; omega) HN.out)
              have HLe : Hid ((Lib.encodeRune (r : Int)).length ≤ 4) := by have := Lib.runeCells_le (r : Int); rw [Lib.runeCells_length] at this; exact Lib.hid this.2
              clear hs h1 h2
              go_wp2_with (first
                | (go_at_call 17; refine C.out.mono ?_; rintro e w' ⟨rfl, rfl⟩)
                | (go_at_call 18; refine D.out.mono ?_; rintro e w3 ⟨a', c', rfl, ho, hg⟩; have HO3 := Lib.hid ho; have HK3 := Lib.hid (Kp.grown HOx.out hg HN.out); clear ho hg))
              go_roundw
              case rel => exact ⟨pos + k, _, a', _, c', rfl, HV.out.on HPC.out HX.out HRA.out.2.2.2.2 HRA.out.2.2.2.1 (HK3.out.it _ _ _ HIt.out) HO3.out (HBx.out.trans HK3.out.bl) (by have := HLe.out; omega)⟩
              case measure => exact HMs.out _ HK3.out
            | false =>
              have C := Lib.hid (shown_no r wx hs)
              have HX : Hid (M.esc1 (r, (s.data.toList.drop pos).take k) = M.hexs ((s.extract pos (pos + k)).data.toList)) := by
                unfold M.esc1
                rw [if_neg (by simp only; omega), if_neg (by rw [hs]; simp), extract_list]
                rw [show pos + k - pos = k from by omega]
                exact Lib.hid rfl
              have HT1 := Lib.hid (tabs_below (tabs_below HT.out HB.out (tabs_size HT.out)) HBx.out (Nat.le_trans (tabs_size HT.out) HB.out.size))
              have HDc := Lib.hid (Tryd.utf8_DecodeRuneInString (s.extract pos s.size) wx HT1.out)
              rw [HD1.out, HD2.out] at HDc
              have HEx := Lib.hid (fun (wy : World) (hb : Below wx.heap.size wx wy) => escape_any wy w1.heap.size a n c acc (s.extract pos (pos + k)) (own_below HOx.out hb (Nat.le_refl _)) (Nat.le_trans HN.out hb.size)
                (by have := Hnn.out; have := HPi.out.bytes; have h3 : (s.extract pos (pos + k)).size = k := by rw [ByteArray.size_extract]; have := HRA.out.2.2.2.2; omega
                    rw [h3]; have h4 := HPi.out.bytes.2; rw [List.length_take, List.length_drop, ← Lib.size_eq] at h4; have := HRA.out.2.2.2.2; omega))
              have HK4 : Hid (k ≤ 4) := by have h4 := HPi.out.bytes.2; rw [List.length_take, List.length_drop, ← Lib.size_eq] at h4; have := HRA.out.2.2.2.2; show k ≤ 4; omega
              have hsl : ∀ W : World, (Instr.slice 9 (.string s) (some (.int .i64 (pos : Int))) (some (.int .i64 ((pos : Int) + (k : Int)))) none).run Tryd.prog W = .ok (.string (s.extract pos (pos + k))) W := by
                intro W
                have := run_slice_string (P := Tryd.prog) W 9 s .i64 .i64 (pos : Int) ((pos : Int) + (k : Int)) Tryd.underlying9 (by omega) (by omega) (by omega)
                rw [this, show ((pos : Int) + (k : Int)).toNat = pos + k from by omega, Int.toNat_natCast]
              clear hs h1 h2
              go_wp2_with (first
                | (go_at_call 17; refine C.out.mono ?_; rintro e w' ⟨rfl, rfl⟩)
                | (go_at_call 19; refine HDc.out.mono ?_; rintro e w2 ⟨rfl, hb⟩; have HB2 := Lib.hid hb; have HB2i := Lib.hid (hb.block (w1.heap.size + 1) (Array.getElem?_eq_some_iff.1 HIt.out).1); clear hb)
                | (go_at_call 20; refine (HEx.out _ HB2.out).mono ?_; rintro e w3 ⟨a', n', c', rfl, ho, hk⟩; have HO3 := Lib.hid ho; have HK3 := Lib.hid hk; clear ho hk))
              go_roundw
              case rel =>
                have hm : n' ≤ n + 16 := by
                  have e1 := HO3.out.2.1
                  have e2 := HOx.out.2.1
                  have e3 := M.esc1_ge _ HPi.out HPo.out
                  rw [HX.out] at e3
                  rw [u8s_length, List.length_append, ← u8s_length acc, e2] at e1
                  omega
                exact ⟨pos + k, _, a', n', c', rfl, HV.out.on HPC.out HX.out HRA.out.2.2.2.2 HRA.out.2.2.2.1 (HK3.out.it _ _ _ (HB2i.out.trans HIt.out)) HO3.out ((HBx.out.trans (HB2.out.mono HN.out)).trans HK3.out.bl) hm⟩
              case measure => exact HMs.out _ ⟨(HB2.out.mono HN.out).trans HK3.out.bl, fun i t p hi => HK3.out.it i t p ((HB2.out.block i (Array.getElem?_eq_some_iff.1 hi).1).trans hi)⟩
      · obtain rfl : pos = s.size := by have := HV.out.le; omega
        have hnx : ∀ ty, (Instr.next (.pointer (some ⟨w1.heap.size + 1, 0, none⟩)) true ty).run Tryd.prog wr = _ := fun ty => Lib.run_next_end_at wr (w1.heap.size + 1) s s.size ty HV.out.it hp
        clear hp
        have HE : Hid (str (M.quote s.data.toList) = str (acc ++ [34])) := by
          have e := HV.out.eq
          rw [pcs_end, List.flatMap_nil, List.append_nil] at e
          have : M.quote s.data.toList = acc ++ [34] := by
            unfold M.quote
            rw [HPl.out, e]
            rfl
          rw [this]
          exact Lib.hid rfl
        have HN : Hid (w1.heap.size ≤ wr.heap.size) := HV.out.bl.size
        have Hnn : Hid (n + 1 ≤ 1048576) := by have := HV.out.len; have := HS.out; show n + 1 ≤ 1048576; omega
        have HA := Lib.hid (append_u8_at (wr.alloc (.cells #[.int .u8 34] 5)) w1.heap.size a n c acc (own_below HV.out.own ((Below.refl _ wr).alloc (Nat.le_refl _) _) (Nat.le_refl _)) (some ⟨wr.heap.size, 0, none⟩) 1 1 [34] (row_lit4 _ _ _ rfl 1 rfl (by omega)) Hnn.out (by have := HN.out; simp; omega))
        have HK := Lib.hid (Kp.alloc w1.heap.size wr HN.out (.cells #[.int .u8 34] 5))
        go_wp2_with (at_builtin; refine wpList_append_run _ rfl (.tmp 51) (.tmp 52) 33 33 rfl HA.out ?_; rintro v w3 ⟨a', c', rfl, ho, hk⟩; have hcv := run_string_bytes (own_row ho).1; have HK3 := Lib.hid (HK.out.trans hk); clear ho hk)
        go_ret
        exact ⟨congrArg (fun x => Ending.returned (Value.string x)) HE.out.symm, (HB.out.trans (HV.out.bl.mono HB.out.size)).trans (HK3.out.bl.mono HB.out.size)⟩
end Go.Proofs.YtaldkdiijflmdaaDoor
