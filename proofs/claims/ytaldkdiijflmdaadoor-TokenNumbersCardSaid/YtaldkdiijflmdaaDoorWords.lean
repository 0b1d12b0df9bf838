/-
  A line's words are as the document says. CONDITIONS: none.
-/
import Derived.Test.YtaldkdiijflmdaaDoorStep
namespace Go.Proofs.YtaldkdiijflmdaaDoor
open Go.RowKit
set_option linter.unusedVariables false
set_option linter.unusedSimpArgs false
set_option maxRecDepth 20000

theorem get_drop (s : ByteArray) (pos k : Nat) : s.get! (pos + k) = (s.data.toList.drop pos).getD k 0 := by
  rw [List.getD_eq_getElem?_getD, List.getElem?_drop]
  by_cases h : pos + k < s.size
  · rw [List.getElem?_eq_getElem (by rw [← Lib.size_eq]; exact h)]
    cases s with
    | mk d => exact getElem!_pos d _ h
  · rw [List.getElem?_eq_none (by rw [← Lib.size_eq]; omega)]
    cases s with
    | mk d => exact getElem!_neg d _ h

theorem decode_drop (s : ByteArray) (pos : Nat) : Utf8.decode s pos = Lib.decodeL (s.data.toList.drop pos) := by
  rw [Lib.decode_at, Lib.decodeL_N]
  have h0 := get_drop s pos 0
  have h1 := get_drop s pos 1
  have h2 := get_drop s pos 2
  have h3 := get_drop s pos 3
  rw [Nat.add_zero] at h0
  rw [h0, h1, h2, h3, List.length_drop, ← Lib.size_eq]

/-- a text's next rune -/
theorem runes_at (s : ByteArray) (pos : Nat) (h : pos < s.size) :
    M.runes (s.data.toList.drop pos) = (Utf8.decode s pos).1 :: M.runes (s.data.toList.drop (pos + (Utf8.decode s pos).2)) ∧
    (Utf8.decode s pos).1 ≤ 1114111 ∧ ((Utf8.decode s pos).1 < 55296 ∨ 57343 < (Utf8.decode s pos).1) ∧ 1 ≤ (Utf8.decode s pos).2 ∧ pos + (Utf8.decode s pos).2 ≤ s.size := by
  have hl : (s.data.toList.drop pos).length = s.size - pos := by rw [List.length_drop, ← Lib.size_eq]
  have hne : s.data.toList.drop pos ≠ [] := by
    intro e
    have := congrArg List.length e
    rw [hl] at this
    simp at this
    omega
  have hp := M.decodeL_piece _ hne
  have hw := Lib.decodeL_width (s.data.toList.drop pos)
  have hle := Lib.decodeL_le _ hne
  rw [decode_drop]
  refine ⟨?_, hp.rune, hp.valid, hw, by omega⟩
  rw [M.runes_step _ hne, List.drop_drop]

theorem runes_end (s : ByteArray) : M.runes (s.data.toList.drop s.size) = [] := by
  rw [Lib.size_eq, List.drop_length]; rfl

theorem step_err {r : Nat} {s : M.St} {c : Int} (h : M.step r s = .error c) : c = 4 ∨ c = 5 := by
  unfold M.step at h
  have hE : M.endS r s = .error c → c = 4 ∨ c = 5 := by
    intro h; unfold M.endS at h; split at h
    · cases h
    · injection h with h; exact .inl h.symm
  split at h
  · unfold M.beginS at h
    split at h
    · cases h
    · split at h
      · injection h with h; exact .inl h.symm
      · split at h
        · injection h with h; exact .inr h.symm
        · split at h <;> cases h
  · split at h
    · unfold M.plainS at h
      split at h
      · cases h
      · exact hE h
    · split at h
      · unfold M.quotedS at h
        split at h
        · cases h
        · split at h
          · cases h
          · split at h
            · cases h
            · injection h with h; exact .inl h.symm
      · split at h
        · unfold M.escapedS at h
          split at h
          · cases h
          · split at h
            · cases h
            · injection h with h; exact .inl h.symm
        · split at h
          · unfold M.digitS at h
            split at h
            · injection h with h; exact .inl h.symm
            · split at h <;> cases h
          · exact hE h

theorem Rd.other {w w' : World} {R N : Nat} {s : M.St} {aw : Option Addr} {nw cw : Nat} {ad : Option Addr} {nd cd : Nat} (h : Rd w R N s aw nw cw ad nd cd) {I : Nat} (hI : I < N) (hIR : I ≠ R)
    (hk : ∀ k, k ≠ I → w'.heap[k]? = w.heap[k]?) (hsz : w.heap.size ≤ w'.heap.size) : Rd w' R N s aw nw cw ad nd cd := by
  have hR := hk R (Ne.symm hIR)
  have own : ∀ {e : TypeId} {a : Option Addr} {n cap : Nat} {vs : List Value}, Own e w N a n cap vs → Own e w' N a n cap vs := by
    intro e a n cap vs h
    obtain ⟨h1, h2⟩ := h
    refine ⟨⟨h1.1, ?_⟩, h2⟩
    rcases h1.2 with h' | ⟨g, c, cur, hv, hg, hh, r⟩
    · exact .inl h'
    · exact .inr ⟨g, c, cur, hv, hg, by rw [hk g (by omega)]; exact hh, r⟩
  exact ⟨(cell_of hR 0).trans h.c0, (cell_of hR 1).trans h.c1, (cell_of hR 2).trans h.c2, (cell_of hR 3).trans h.c3, (frozen_of hR 0).trans h.f0, (frozen_of hR 1).trans h.f1, (frozen_of hR 2).trans h.f2, (frozen_of hR 3).trans h.f3,
    own h.rw, own h.rd, h.hR, Nat.le_trans h.hN hsz⟩

theorem Reads.iterAt {w : World} {R N : Nat} {s : M.St} (h : Reads w R N s) {I : Nat} (hI : I < N) (hIR : I ≠ R) (t : ByteArray) (p : Nat) : Reads (w.iterAt I t p) R N s := by
  obtain ⟨aw, nw, cw, ad, nd, cd, h⟩ := h
  exact ⟨aw, nw, cw, ad, nd, cd, h.other hI hIR (fun k hk => Lib.iterAt_other w I k t p hk) (by rw [Lib.iterAt_size]; exact Nat.le_refl _)⟩

theorem reads_new (w : World) (t : ByteArray) : Reads ((w.alloc (.cells #[.int .i64 0, .slice none 0 0, .slice none 0 0, .int .u8 0] 46)).iter t 0) w.heap.size (w.heap.size + 2) M.st0 := by
  have hk : ((w.alloc (.cells #[.int .i64 0, .slice none 0 0, .slice none 0 0, .int .u8 0] 46)).iter t 0).heap[w.heap.size]? = some (.cells #[.int .i64 0, .slice none 0 0, .slice none 0 0, .int .u8 0] 46 (0, 0)) := by
    show ((w.alloc (.cells #[.int .i64 0, .slice none 0 0, .slice none 0 0, .int .u8 0] 46)).alloc (.stringIter t 0)).heap[w.heap.size]? = _
    rw [Below.heap_alloc _ _ _ (by simp)]
    simp [World.alloc, -World.alloc_eq]
  have hsz : w.heap.size + 2 ≤ ((w.alloc (.cells #[.int .i64 0, .slice none 0 0, .slice none 0 0, .int .u8 0] 46)).iter t 0).heap.size := by
    show w.heap.size + 2 ≤ ((w.alloc (.cells #[.int .i64 0, .slice none 0 0, .slice none 0 0, .int .u8 0] 46)).alloc (.stringIter t 0)).heap.size
    simp
  refine ⟨none, 0, 0, none, 0, 0, ?_, ?_, ?_, ?_, ?_, ?_, ?_, ?_, own_nil 9 _ _, own_nil 5 _ _, by omega, hsz⟩
  all_goals simp [World.cell?, World.frozen?, hk, M.st0, -World.alloc_eq]

theorem words_end {st : M.St} {c : Int} (h : M.step 32 st = .error c) : M.fin (.ok st) = .error 4 := by simp [M.fin, h, M.FORM]
theorem words_in {st s' : M.St} (h : M.step 32 st = .ok s') (h0 : s'.at_ ≠ 0) : M.fin (.ok st) = .error 4 := by simp [M.fin, h, h0, M.FORM]
theorem words_yes {st s' : M.St} (h : M.step 32 st = .ok s') (h0 : s'.at_ = 0) : M.fin (.ok st) = .ok s'.ws := by simp [M.fin, h, h0]

theorem own_mono' {e : TypeId} {w : World} {B B' : Nat} {a : Option Addr} {n cap : Nat} {vs : List Value} (h : Own e w B a n cap vs) (hB : B' ≤ B) : Own e w B' a n cap vs := own_mono h hB

/-- what is known at the loop's head -/
structure WInv (s : ByteArray) (w wr : World) (pos : Nat) (st : M.St) : Prop where
  le : pos ≤ s.size
  it : wr.heap[w.heap.size + 1]? = some (.stringIter s pos)
  rd : Reads wr w.heap.size (w.heap.size + 2) st
  ok : M.Ok st
  bl : Below w.heap.size w wr
  wd : st.wd.length ≤ 4 * pos
  eq : M.fin (M.go (M.runes s.data.toList) M.st0) = M.fin (M.go (M.runes (s.data.toList.drop pos)) st)

theorem winv_start (s : ByteArray) (w : World) : WInv s w ((w.alloc (.cells #[.int .i64 0, .slice none 0 0, .slice none 0 0, .int .u8 0] 46)).iter s 0) 0 M.st0 := by
  refine ⟨by omega, ?_, reads_new w s, M.ok0, ?_, by simp [M.st0], by rw [List.drop_zero]⟩
  · have := World.iter_heap (w.alloc (.cells #[.int .i64 0, .slice none 0 0, .slice none 0 0, .int .u8 0] 46)) s 0
    simpa using this
  · exact ((Below.refl _ w).alloc (Nat.le_refl _) _).alloc (by simp) _

def WPost (w : World) (l : List UInt8) (e : Ending) (w' : World) : Prop :=
  match M.words l with
  | .ok ws => ∃ a n c, e = .returned (.tuple #[.slice a n c, .int .i64 0]) ∧ Own 9 w' w.heap.size a n c (strs (ws.map str)) ∧ Below w.heap.size w w'
  | .error k => e = .returned (.tuple #[.slice none 0 0, .int .i64 k]) ∧ Below w.heap.size w w'

theorem wpost_ok {w : World} {l : List UInt8} {ws : List (List UInt8)} (h : M.words l = .ok ws) {w' : World} {a : Option Addr} {n c : Nat} (ho : Own 9 w' w.heap.size a n c (strs (ws.map str))) (hb : Below w.heap.size w w') :
    WPost w l (.returned (.tuple #[.slice a n c, .int .i64 0])) w' := by unfold WPost; rw [h]; exact ⟨a, n, c, rfl, ho, hb⟩
theorem wpost_no {w : World} {l : List UInt8} {k : Int} (h : M.words l = .error k) {w' : World} (hb : Below w.heap.size w w') :
    WPost w l (.returned (.tuple #[.slice none 0 0, .int .i64 k])) w' := by unfold WPost; rw [h]; exact ⟨rfl, hb⟩

theorem words_any (s : ByteArray) (w : World) : Calls Tryd.prog 13 #[.string s] w (WPost w s.data.toList) := by
  by_cases hlen : s.size ≤ 400
  · have hI : (s.size : Int) ≤ 400 := by omega
    have HW : Hid (M.words s.data.toList = M.fin (M.go (M.runes s.data.toList) M.st0)) := by
      unfold M.words
      rw [if_neg (by rw [← Lib.size_eq]; omega)]
      exact Lib.hid rfl
    have HL := Lib.hid hlen
    clear hlen
    go_enter Tryd.func13, Tryd.ntmps13
    go_wp2_with fail
    go_loopw [] (fun wr => ∃ (pos : Nat) (st : M.St), WInv s w wr pos st) (fun wr => s.size - wr.iterPos (w.heap.size + 1))
    case atStart => exact ⟨0, M.st0, winv_start s w⟩
    case round =>
      obtain ⟨pos, st, hv⟩ := hrel
      have HV := Lib.hid hv
      clear hv
      by_cases hp : pos < s.size
      · have hra := runes_at s pos hp
        have hnx : ∀ ty, (Instr.next (.pointer (some ⟨w.heap.size + 1, 0, none⟩)) true ty).run Tryd.prog wr = _ := fun ty => Lib.run_next_any_at wr (w.heap.size + 1) s pos ty HV.out.it hp
        have hIt := Lib.iterAt_heap wr (w.heap.size + 1) s pos (pos + (Utf8.decode s pos).2) HV.out.it
        have HP := Lib.hid hp
        clear hp
        generalize (Utf8.decode s pos).1 = r at *
        generalize (Utf8.decode s pos).2 = n at *
        have HRA := Lib.hid hra
        clear hra
        have HR := Lib.hid (HV.out.rd.iterAt (I := w.heap.size + 1) (by omega) (by omega) s (pos + n))
        have HB := Lib.hid (Lib.below_iterAt HV.out.bl (k := w.heap.size + 1) (by omega) s (pos + n))
        have HIt := Lib.hid hIt
        clear hIt
        have c0 : (wr.iterAt (w.heap.size + 1) s (pos + n)).cell? ⟨w.heap.size, 0, none⟩ = some (.int .i64 (st.at_ : Int)) := by obtain ⟨_, _, _, _, _, _, h⟩ := HR.out; exact h.c0
        have HWd : Hid (st.wd.length ≤ 100000) := by have := HV.out.wd; have := HV.out.le; have := HL.out; show st.wd.length ≤ 100000; omega
        have HO := Lib.hid HV.out.ok
        by_cases hbr : r = 35 ∧ st.at_ = 0
        · obtain ⟨rfl, h0⟩ := hbr
          have HF : Hid (M.fin (M.go (M.runes s.data.toList) M.st0) = M.fin (.ok st)) := by
            have e := HV.out.eq
            rw [HRA.out.1] at e
            simp only [M.go, h0, and_self, if_true] at e
            exact Lib.hid e
          rw [h0] at c0
          clear h0
          generalize hwx : wr.iterAt (w.heap.size + 1) s (pos + n) = wx at *
          clear hwx
          cases hst : M.step 32 st with
          | error c =>
            have hc := step_err hst
            have C := step_any wx w.heap.size (w.heap.size + 2) st 32 (by omega) (by omega) HR.out HO.out HWd.out
            rw [hst] at C
            have HC := Lib.hid C
            have HE := Lib.hid (HW.out.trans (HF.out.trans (words_end hst)))
            have hc0 : ((c : Int) != 0) = true := by rcases hc with rfl | rfl <;> rfl
            clear C hc hst
            go_wp2_with (go_at_call 21; refine HC.out.mono ?_; rintro e w2 ⟨rfl, hm⟩; have HM := Lib.hid (hm.to_below (Nat.le_add_right _ 2)); clear hm)
            go_ret2
            exact wpost_no HE.out (HB.out.trans HM.out)
          | ok s' =>
            have C := step_any wx w.heap.size (w.heap.size + 2) st 32 (by omega) (by omega) HR.out HO.out HWd.out
            rw [hst] at C
            have HC := Lib.hid C
            by_cases h0 : s'.at_ = 0
            · have HE := Lib.hid (HW.out.trans (HF.out.trans (words_yes hst h0)))
              have H0 := Lib.hid h0
              clear C hst h0
              go_wp2_with (go_at_call 21; refine HC.out.mono ?_; rintro e w2 ⟨rfl, ⟨aw, nw, cw, ad, nd, cd, h⟩, hm⟩; have HM := Lib.hid (hm.to_below (Nat.le_add_right _ 2)); have c0 := h.c0; rw [H0.out] at c0; have c1 := h.c1; have HD := Lib.hid h; clear hm h)
              go_ret2
              exact wpost_ok HE.out (own_mono HD.out.rw (by omega)) (HB.out.trans HM.out)
            · have HE := Lib.hid (HW.out.trans (HF.out.trans (words_in hst h0)))
              have h00 : ((s'.at_ : Int) != 0) = true := int_ne (k := 0) h0
              clear C hst h0
              go_wp2_with (go_at_call 21; refine HC.out.mono ?_; rintro e w2 ⟨rfl, ⟨aw, nw, cw, ad, nd, cd, h⟩, hm⟩; have HM := Lib.hid (hm.to_below (Nat.le_add_right _ 2)); have c0 := h.c0; clear hm h)
              go_ret2
              exact wpost_no HE.out (HB.out.trans HM.out)

        · have hgo : ∀ x, M.go (r :: x) st = (match M.step r st with | .ok s' => M.go x s' | .error e => .error e) := fun x => by simp only [M.go, if_neg hbr]; cases M.step r st <;> rfl
          have C := step_any (wr.iterAt (w.heap.size + 1) s (pos + n)) w.heap.size (w.heap.size + 2) st r HRA.out.2.1 HRA.out.2.2.1 HR.out HO.out HWd.out
          have tests : Hid ((((r : Int) == 35) = false) ∨ (((r : Int) == 35) = true ∧ ((st.at_ : Int) == 0) = false)) := by
            by_cases h35 : r = 35
            · right
              subst h35
              exact ⟨rfl, int_neq (k := 0) (fun e => hbr ⟨rfl, e⟩)⟩
            · left
              exact int_neq (k := 35) h35
          have Hgo := Lib.hid hgo
          clear hbr hgo
          cases hst : M.step r st with
          | error c =>
            have hc := step_err hst
            rw [hst] at C
            have HC := Lib.hid C
            have HE : Hid (M.words s.data.toList = .error c) := by
              have e := HV.out.eq
              rw [HRA.out.1, Hgo.out, hst] at e
              exact Lib.hid (HW.out.trans e)
            have hc0 : ((c : Int) != 0) = true := by rcases hc with rfl | rfl <;> rfl
            clear C hc hst
            rcases tests.out with t1 | ⟨t1, t2⟩
            all_goals
              clear tests
              go_wp2_with (go_at_call 21; refine HC.out.mono ?_; rintro e w2 ⟨rfl, hm⟩; have HM := Lib.hid (hm.to_below (Nat.le_add_right _ 2)); clear hm)
              go_ret2
              exact wpost_no HE.out (HB.out.trans HM.out)
          | ok s' =>
            rw [hst] at C
            have HC := Lib.hid C
            have HS := Lib.hid (M.step_ok HO.out hst)
            have HE : Hid (M.fin (M.go (M.runes s.data.toList) M.st0) = M.fin (M.go (M.runes (s.data.toList.drop (pos + n))) s')) := by
              have e := HV.out.eq
              rw [HRA.out.1, Hgo.out, hst] at e
              exact Lib.hid e
            clear C hst
            rcases tests.out with t1 | ⟨t1, t2⟩
            all_goals
              clear tests
              go_wp2_with (go_at_call 21; refine HC.out.mono ?_; rintro e w2 ⟨rfl, hr2, hm⟩; have HM := Lib.hid hm; have HR2 := Lib.hid hr2; clear hm hr2)
              go_roundw
              case rel =>
                have hb := HM.out.block (w.heap.size + 1) (by omega) (by omega)
                refine ⟨pos + n, s', HRA.out.2.2.2.2, hb.trans HIt.out, HR2.out, HS.out.1, HB.out.trans (HM.out.to_below (Nat.le_add_right _ 2)), ?_, HE.out⟩
                have := HS.out.2
                have := HV.out.wd
                have := HRA.out.2.2.2.1
                omega
              case measure =>
                have hb := HM.out.block (w.heap.size + 1) (by omega) (by omega)
                simp only [World.iterPos, hb.trans HIt.out, HV.out.it]
                have := HRA.out.2.2.2.1
                have := HP.out
                omega
      · obtain rfl : pos = s.size := by have := HV.out.le; omega
        have hnx : ∀ ty, (Instr.next (.pointer (some ⟨w.heap.size + 1, 0, none⟩)) true ty).run Tryd.prog wr = _ := fun ty => Lib.run_next_end_at wr (w.heap.size + 1) s s.size ty HV.out.it hp
        clear hp
        have HF : Hid (M.fin (M.go (M.runes s.data.toList) M.st0) = M.fin (.ok st)) := by
          have e := HV.out.eq
          rw [runes_end] at e
          exact Lib.hid e
        have HR := Lib.hid HV.out.rd
        have HO := Lib.hid HV.out.ok
        have HB := Lib.hid HV.out.bl
        have HWd : Hid (st.wd.length ≤ 100000) := by have := HV.out.wd; have := HL.out; show st.wd.length ≤ 100000; omega
        clear HV
        cases hst : M.step 32 st with
        | error c =>
          have hc := step_err hst
          have C := step_any wr w.heap.size (w.heap.size + 2) st 32 (by omega) (by omega) HR.out HO.out HWd.out
          rw [hst] at C
          have HC := Lib.hid C
          have HE := Lib.hid (HW.out.trans (HF.out.trans (words_end hst)))
          have hc0 : ((c : Int) != 0) = true := by rcases hc with rfl | rfl <;> rfl
          clear C hc hst
          go_wp2_with (go_at_call 21; refine HC.out.mono ?_; rintro e w2 ⟨rfl, hm⟩; have HM := Lib.hid (hm.to_below (Nat.le_add_right _ 2)); clear hm)
          go_ret2
          exact wpost_no HE.out (HB.out.trans HM.out)
        | ok s' =>
          have C := step_any wr w.heap.size (w.heap.size + 2) st 32 (by omega) (by omega) HR.out HO.out HWd.out
          rw [hst] at C
          have HC := Lib.hid C
          by_cases h0 : s'.at_ = 0
          · have HE := Lib.hid (HW.out.trans (HF.out.trans (words_yes hst h0)))
            have H0 := Lib.hid h0
            clear C hst h0
            go_wp2_with (go_at_call 21; refine HC.out.mono ?_; rintro e w2 ⟨rfl, ⟨aw, nw, cw, ad, nd, cd, h⟩, hm⟩; have HM := Lib.hid (hm.to_below (Nat.le_add_right _ 2)); have c0 := h.c0; rw [H0.out] at c0; have c1 := h.c1; have HD := Lib.hid h; clear hm h)
            go_ret2
            exact wpost_ok HE.out (own_mono HD.out.rw (by omega)) (HB.out.trans HM.out)
          · have HE := Lib.hid (HW.out.trans (HF.out.trans (words_in hst h0)))
            have h00 : ((s'.at_ : Int) != 0) = true := int_ne (k := 0) h0
            clear C hst h0
            go_wp2_with (go_at_call 21; refine HC.out.mono ?_; rintro e w2 ⟨rfl, ⟨aw, nw, cw, ad, nd, cd, h⟩, hm⟩; have HM := Lib.hid (hm.to_below (Nat.le_add_right _ 2)); have c0 := h.c0; clear hm h)
            go_ret2
            exact wpost_no HE.out (HB.out.trans HM.out)
  · have HE : Hid (M.words s.data.toList = .error 5) := by
      unfold M.words
      rw [if_pos (by rw [← Lib.size_eq]; omega)]
      exact Lib.hid rfl
    have hI : (400 : Int) < (s.size : Int) := by omega
    clear hlen
    go_enter Tryd.func13, Tryd.ntmps13
    go_wp2_with fail
    go_ret2
    exact wpost_no HE.out (Below.refl _ _)
end Go.Proofs.YtaldkdiijflmdaaDoor
