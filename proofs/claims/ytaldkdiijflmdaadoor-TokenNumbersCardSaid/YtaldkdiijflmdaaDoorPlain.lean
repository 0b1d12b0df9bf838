/-
  Plain answers as the document says; a text's bytes are escaped by their digits. CONDITIONS: for the second, the row is the caller's own, and short.
-/
import Derived.Test.YtaldkdiijflmdaaDoorWords
namespace Go.Proofs.YtaldkdiijflmdaaDoor
open Go.RowKit
set_option linter.unusedVariables false
set_option linter.unusedSimpArgs false
set_option maxRecDepth 20000

theorem empty_yes {s : ByteArray} (h : s.data.toList = []) : s.toList = [] ∧ s.toList.isEmpty = true := by
  have e : s.toList = s.data.toList := Lib.toList_data s
  exact ⟨e.trans h, by rw [e, h]; rfl⟩
theorem empty_no {s : ByteArray} (h : s.data.toList ≠ []) : (s.toList == []) = false ∧ (!s.toList.isEmpty) = true ∧ s.toList.isEmpty = false := by
  have e : s.toList = s.data.toList := Lib.toList_data s
  rw [e]
  cases hl : s.data.toList with
  | nil => exact absurd hl h
  | cons c l => exact ⟨rfl, rfl, rfl⟩

theorem plainW_any (s : ByteArray) (w : World) : Calls Tryd.prog 15 #[.string s] w fun e w' => e = .returned (.bool (M.plainW s.data.toList)) ∧ Below w.heap.size w w' := by
  go_enter Tryd.func15, Tryd.ntmps15
  go_wp2_with fail
  go_loopw [] (fun wr => ∃ pos : Nat, pos ≤ s.size ∧ wr.heap[w.heap.size]? = some (.stringIter s pos) ∧ Below w.heap.size w wr ∧ (M.runes s.data.toList).all M.plainB = (M.runes (s.data.toList.drop pos)).all M.plainB) (fun wr => s.size - wr.iterPos w.heap.size)
  case atStart =>
    refine ⟨0, by omega, ?_, (Below.refl _ w).alloc (Nat.le_refl _) _, by rw [List.drop_zero]⟩
    exact World.iter_heap w s 0
  case round =>
    obtain ⟨pos, hle, hit, hb, heq⟩ := hrel
    have Hle := Lib.hid hle
    have Hb := Lib.hid hb
    have Heq := Lib.hid heq
    have Hit := Lib.hid hit
    clear hle hb heq
    by_cases hp : pos < s.size
    · have hra := runes_at s pos hp
      have hnx : ∀ ty, (Instr.next (.pointer (some ⟨w.heap.size, 0, none⟩)) true ty).run Tryd.prog wr = _ := fun ty => Lib.run_next_any_at wr w.heap.size s pos ty hit hp
      have hI := Lib.iterAt_heap wr w.heap.size s pos (pos + (Utf8.decode s pos).2) hit
      have HP := Lib.hid hp
      clear hp hit
      generalize (Utf8.decode s pos).1 = r at *
      generalize (Utf8.decode s pos).2 = n at *
      have HRA := Lib.hid hra
      clear hra
      have HB := Lib.hid (Lib.below_iterAt Hb.out (k := w.heap.size) (Nat.le_refl _) s (pos + n))
      have HI := Lib.hid hI
      clear hI
      cases hpl : M.plainB r with
      | true =>
        have C := Lib.hid (plain_yes r (wr.iterAt w.heap.size s (pos + n)) hpl)
        have HE : Hid ((M.runes s.data.toList).all M.plainB = (M.runes (s.data.toList.drop (pos + n))).all M.plainB) := by
          have e := Heq.out
          rw [HRA.out.1, List.all_cons, hpl, Bool.true_and] at e
          exact Lib.hid e
        clear hpl
        go_wp2_with (go_at_call 22; refine C.out.mono ?_; rintro e w' ⟨rfl, rfl⟩)
        go_roundw
        case rel => exact ⟨pos + n, HRA.out.2.2.2.2, HI.out, HB.out, HE.out⟩
        case measure =>
          simp only [World.iterPos, HI.out, Hit.out]
          have := HRA.out.2.2.2.1
          have := HP.out
          omega
      | false =>
        have C := Lib.hid (plain_no r (wr.iterAt w.heap.size s (pos + n)) hpl)
        have HE : Hid (M.plainW s.data.toList = false) := by
          have e := Heq.out
          rw [HRA.out.1, List.all_cons, hpl, Bool.false_and] at e
          exact Lib.hid (by unfold M.plainW; rw [e, Bool.and_false])
        clear hpl
        go_wp2_with (go_at_call 22; refine C.out.mono ?_; rintro e w' ⟨rfl, rfl⟩)
        go_ret
        exact ⟨ret_bool HE.out.symm, HB.out⟩
    · obtain rfl : pos = s.size := by have := Hle.out; omega
      have hnx : ∀ ty, (Instr.next (.pointer (some ⟨w.heap.size, 0, none⟩)) true ty).run Tryd.prog wr = _ := fun ty => Lib.run_next_end_at wr w.heap.size s s.size ty hit hp
      have e := Heq.out
      rw [runes_end, List.all_nil] at e
      by_cases h0 : s.data.toList = []
      · have HE := Lib.hid (show M.plainW s.data.toList = false from by unfold M.plainW; rw [h0]; rfl)
        obtain ⟨g1, g2⟩ := empty_yes h0
        have g3 : (!s.toList.isEmpty) = false := by rw [g2]; rfl
        clear hp e h0 hit
        go_wp2_with fail
        go_ret
        exact ⟨ret_bool HE.out.symm, Hb.out⟩
      · have HE := Lib.hid (show M.plainW s.data.toList = true from by unfold M.plainW; rw [e]; simp [h0])
        obtain ⟨g1, g2, g3⟩ := empty_no h0
        clear hp e h0 hit
        go_wp2_with fail
        go_ret
        exact ⟨ret_bool HE.out.symm, Hb.out⟩

/-- nothing below N has changed, and no string that is gone through has moved -/
structure Kp (N : Nat) (w w' : World) : Prop where
  bl : Below N w w'
  it : ∀ (k : Nat) (s : ByteArray) (pos : Nat), w.heap[k]? = some (Obj.stringIter s pos) → w'.heap[k]? = some (Obj.stringIter s pos)

theorem Kp.refl (N : Nat) (w : World) : Kp N w w := ⟨Below.refl _ _, fun _ _ _ h => h⟩
theorem Kp.trans {N : Nat} {a b c : World} (h : Kp N a b) (k : Kp N b c) : Kp N a c := ⟨h.bl.trans k.bl, fun i s p hi => k.it i s p (h.it i s p hi)⟩
theorem Kp.alloc (N : Nat) (w : World) (hN : N ≤ w.heap.size) (o : Obj) : Kp N w (w.alloc o) :=
  ⟨(Below.refl _ _).alloc hN o, fun k s p hk => (Below.heap_alloc w o k (Array.getElem?_eq_some_iff.1 hk).1).trans hk⟩
theorem Kp.drew {N : Nat} {a b : World} (h : Kp N a b) : Kp N a b.drew := ⟨h.bl.drew, h.it⟩
theorem Kp.of_drew {N : Nat} {a b : World} (h : Kp N a.drew b) : Kp N a b := ⟨⟨h.bl.os, h.bl.tape, h.bl.output, h.bl.size, h.bl.block⟩, h.it⟩
theorem Kp.grown {e : TypeId} {N : Nat} {w w' : World} {a : Option Addr} {n cap : Nat} {vs : List Value} (h : Own e w N a n cap vs) (hg : w.grownBy w' (Value.slice a n cap).ownBlock) (hN : N ≤ w.heap.size) : Kp N w w' := by
  refine ⟨⟨hg.os, hg.tape, hg.output, hg.size, fun k hk => hg.block k (by omega) (fun e => ?_)⟩, fun k s p hk => (hg.block k (Array.getElem?_eq_some_iff.1 hk).1 (fun e => ?_)).trans hk⟩
  · have := (own_lt h k e.symm).1
    omega
  · rcases h.1.2 with ⟨hv, _⟩ | ⟨g, c, cur, hv, hB, hh, _⟩
    · rw [hv] at e; cases e
    · rw [hv] at e
      simp only [Value.ownBlock] at e
      injection e with e
      subst e
      rw [hh] at hk
      cases hk

theorem hex_at (n : Nat) (h : n < 16) (H : n < hexs.size) : hexs[n]'H = M.hexd n := by
  have : ∀ k : Fin 16, hexs[k.val]'(by have := k.isLt; exact this) = M.hexd k.val := by decide +kernel
  exact this ⟨n, h⟩

theorem own_drew {e : TypeId} {w : World} {B : Nat} {a : Option Addr} {n cap : Nat} {vs : List Value} (h : Own e w B a n cap vs) : Own e w.drew B a n cap vs := h

theorem take_next (t : ByteArray) (k : Nat) (h : k < t.size) : t.data.toList.take (k + 1) = t.data.toList.take k ++ [t[k]'h] := by
  rw [List.take_succ_eq_append_getElem (by rw [← Lib.size_eq]; exact h)]
  rfl

theorem row_lit4 (w : World) (l : List UInt8) (cs : Array Value) (h : cs.toList = u8s l) (n : Nat) (hn : l.length = n) (hm : n ≤ 1000) : Row (w.alloc (.cells cs 5)) (some ⟨w.heap.size, 0, none⟩) n n (u8s l) := by
  subst hn
  refine ⟨u8s_length l, by omega, by simp only [maxLen]; omega, .inr ⟨w.heap.size, 0, rfl, by simp, fun i hi => ?_⟩⟩
  rw [World.cell?_alloc_mark, Nat.zero_add, ← h, Array.getElem?_toList]

theorem escape_any (w : World) (N : Nat) (a : Option Addr) (n cap : Nat) (l : List UInt8) (t : ByteArray) (h : Own 5 w N a n cap (u8s l)) (hN : N ≤ w.heap.size) (hn : n + 4 * t.size ≤ 1000000) :
    Calls Tryd.prog 20 #[.slice a n cap, .string t] w fun e w' => ∃ a' n' c', e = .returned (.slice a' n' c') ∧ Own 5 w' N a' n' c' (u8s (l ++ M.hexs t.data.toList)) ∧ Kp N w w' := by
  have HO := Lib.hid h
  have HN := Lib.hid hN
  have Hn := Lib.hid hn
  have hsz : (t.size : Int) ≤ 1000000 := by omega
  clear h hN hn
  go_enter Tryd.func20, Tryd.ntmps20
  go_wp2_with fail
  go_loopw [0, 8] (fun b i wr => ∃ (k : Nat) (a' : Option Addr) (n' c' : Nat), k ≤ t.size ∧ i = .int .i64 (k : Int) ∧ b = .slice a' n' c' ∧ Own 5 wr N a' n' c' (u8s (l ++ M.hexs (t.data.toList.take k))) ∧ Kp N w wr ∧ n' = n + 4 * k) (fun _ i _ => t.size - (intOf i).toNat)
  case atStart => exact ⟨0, a, n, cap, by omega, rfl, rfl, by simpa [M.hexs] using HO.out, Kp.refl _ _, by omega⟩
  case round =>
    obtain ⟨k, a', n', c', hk, rfl, rfl, ho, hkp, hn'⟩ := hrel
    have HOk := Lib.hid ho
    have HK := Lib.hid hkp
    have Hn' := Lib.hid hn'
    clear ho hkp hn'
    by_cases hlt : k < t.size
    · have hI1 : (0 : Int) ≤ (k : Int) := by omega
      have hI2 : (k : Int) < (t.size : Int) := by omega
      have hx : ∃ x, t[k]'hlt = x := ⟨_, rfl⟩
      obtain ⟨x, hx⟩ := hx
      have hx8 := x.toNat_lt
      obtain ⟨p, hp⟩ : ∃ p, x.toNat / 16 = p := ⟨_, rfl⟩
      obtain ⟨q, hq⟩ : ∃ q, x.toNat % 16 = q := ⟨_, rfl⟩
      have p1 : (x.toNat : Int) / 16 = (p : Int) := by omega
      have q1 : (x.toNat : Int) % 16 = (q : Int) := by omega
      have q6 : (x.toNat : Int).tmod 16 = (q : Int) := by rw [Int.tmod_eq_emod_of_nonneg (by omega)]; exact q1
      have p6 : (x.toNat : Int).tdiv 16 = (p : Int) := by rw [Int.tdiv_eq_ediv_of_nonneg (by omega)]; exact p1
      have p3 : (0 : Int) ≤ (p : Int) := by omega
      have q3 : (0 : Int) ≤ (q : Int) := by omega
      have p4 : (p : Int) < 16 := by omega
      have q4 : (q : Int) < 16 := by omega
      have p2 : IntKind.u8.wrap (p : Int) = (p : Int) := by rw [IntKind.wrap_u8]; omega
      have q2 : IntKind.u8.wrap (q : Int) = (q : Int) := by rw [IntKind.wrap_u8]; omega
      have pl : p < 16 := by omega
      have ql : q < 16 := by omega
      have p5 : (⟨#[48, 49, 50, 51, 52, 53, 54, 55, 56, 57, 97, 98, 99, 100, 101, 102]⟩ : ByteArray)[p]'(by exact pl) = M.hexd p := hex_at p pl _
      have q5 : (⟨#[48, 49, 50, 51, 52, 53, 54, 55, 56, 57, 97, 98, 99, 100, 101, 102]⟩ : ByteArray)[q]'(by exact ql) = M.hexd q := hex_at q ql _
      have HX : Hid (M.hex1 x = [92, 120, M.hexd p, M.hexd q]) := by subst hp hq; exact Lib.hid rfl
      have HXx := Lib.hid hx
      have HOa := Lib.hid (fun o => own_below HOk.out ((Below.refl _ wr).alloc (Nat.le_refl _) o) (Nat.le_refl _))
      have HNa : Hid (∀ o : Obj, N ≤ (wr.alloc o).heap.size) := fun o => by have := HN.out; have := HK.out.bl.size; simp; omega
      have Hsum : Hid (n' + 4 ≤ 1048576) := by have := Hn.out; have := Hn'.out; show n' + 4 ≤ 1048576; omega
      have HRow : Hid (Row (wr.alloc (.cells #[.int .u8 92, .int .u8 120, .int .u8 ((M.hexd p).toNat : Int), .int .u8 ((M.hexd q).toNat : Int)] 5)) (some ⟨wr.heap.size, 0, none⟩) 4 4 (u8s [92, 120, M.hexd p, M.hexd q])) := row_lit4 _ _ _ rfl 4 rfl (by omega)
      clear hp hq hx8
      go_wp2_with fail
      go_region_law ((refine step_append_u8 _ rfl (.tmp 11) (.tmp 22) rfl N a' n' c' _ rfl (HOa.out _) _ 4 4 [92, 120, M.hexd p, M.hexd q] rfl (HRow.out) Hsum.out (HNa.out _) ?_
                      intro a4 cap4 w4 hown hgr
                      have HO4 := Lib.hid hown
                      have HG4 := Lib.hid hgr
                      clear hown hgr))
      all_goals
        have HK4 : Hid (Kp N w w4) := (HK.out.trans (Kp.alloc N wr (by have := HN.out; have := HK.out.bl.size; omega) _)).trans (Kp.grown (own_drew (HOa.out _)) HG4.out (HNa.out _)).of_drew
        go_wp2_with fail
        go_roundw
        case rel =>
          refine ⟨k + 1, a4, n' + 4, cap4, by omega, by go_num, rfl, ?_, HK4.out, by have := Hn'.out; omega⟩
          have e : M.hexs (t.data.toList.take (k + 1)) = M.hexs (t.data.toList.take k) ++ [92, 120, M.hexd p, M.hexd q] := by
            rw [take_next t k hlt, HXx.out]
            simp only [M.hexs, List.flatMap_append, List.flatMap_cons, List.flatMap_nil, List.append_nil]
            rw [HX.out]
          rw [e, ← List.append_assoc]
          exact HO4.out
        case measure => simp [intOf]; omega
    · obtain rfl : k = t.size := by omega
      have HOk2 : Hid (Own 5 wr N a' n' c' (u8s (l ++ M.hexs t.data.toList))) := by
        have := HOk.out
        rw [List.take_of_length_le (by rw [← Lib.size_eq]; exact Nat.le_refl _)] at this
        exact Lib.hid this
      go_wp2_with fail
      go_ret
      exact ⟨a', n', c', rfl, HOk2.out, HK.out⟩
end Go.Proofs.YtaldkdiijflmdaaDoor
