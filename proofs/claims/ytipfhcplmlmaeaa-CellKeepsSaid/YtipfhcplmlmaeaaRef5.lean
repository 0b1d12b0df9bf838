/-
  What 'clash' tells of two rows of two sectors.
-/
import Derived.Test.YtipfhcplmlmaeaaRef4
import Derived.Test.YtipfhcplmlmaeaaCel6
import Derived.Laws.IdiomStrings
namespace Go.Proofs.Ytipfhcplmlmaeaa
open Go.RowKit
set_option linter.unusedVariables false
set_option linter.unusedSimpArgs false
set_option maxRecDepth 20000

theorem str_size (l : List UInt8) : (str l).size = l.length := by
  show l.toArray.size = _
  simp
theorem str_ne {a b : ByteArray} (h : a ≠ b) : (a.toList == b.toList) = false := by
  rw [Bool.eq_false_iff]
  intro he
  have := eq_of_beq he
  rw [ByteArray.toList_eq, ByteArray.toList_eq] at this
  exact h (ByteArray.ext (Array.ext' this))
theorem str_inj {l m : List UInt8} (h : str l = str m) : l = m := by
  have := congrArg (fun b : ByteArray => b.data.toList) h
  simpa [str] using this

/-- a string as new bytes -/
theorem conv_str (w : World) (l : List UInt8) (hl : l.length ≤ 1000) :
    ∃ cap w', (convert 9 23 (.string (str l))).run Try.prog w = .ok (.slice (some ⟨w.heap.size, 0, none⟩) l.length cap) w' ∧ Row w' (some ⟨w.heap.size, 0, none⟩) l.length cap (u8s l) ∧ Below w.heap.size w w' := by
  have hr := run_bytes_of_string (P := Try.prog) w 9 23 5 (str l) Try.underlying9 Try.underlying23 Try.underlying5
  rw [str_size] at hr
  refine ⟨_, _, hr, ⟨by rw [u8s_length], grownCap_ge _ _ _ _, grownCap_le_maxLen _ _ _ _ (by simp only [maxLen]; omega), .inr ⟨w.heap.size, 0, rfl, ?_, fun i hi => ?_⟩⟩, ?_⟩
  · show w.drew.heap.size < _
    simp
  · rw [Nat.zero_add]
    have h1 := World.cell?_alloc_mark w.drew (bytesRow (str l) (grownCap w l.length 0 5)) 5 ((bytesRow (str l) (grownCap w l.length 0 5)).size, (bytesRow (str l) (grownCap w l.length 0 5)).size + 1) i
    refine h1.trans ?_
    rw [bytesRow_at (str l) _ i (by show i < l.toArray.size; simpa using hi)]
    simp [u8s, u8, str, hi]
  · exact ((Below.refl w.heap.size w).drew).alloc (Nat.le_refl _) _
theorem strs2_cells {w : World} {g : Nat} {s t : ByteArray} (h : Row w (some ⟨g, 0, none⟩) 2 2 (strs2 s t)) : w.cell? ⟨g, 0, none⟩ = some (.string s) ∧ w.cell? ⟨g, 1, none⟩ = some (.string t) ∧ g < w.heap.size := by
  obtain ⟨_, _, _, h0 | ⟨b, off, e, hlt, hc⟩⟩ := h
  · simp [strs2] at h0
  · injection e with e
    injection e with e1 e2 _
    subst e1 e2
    exact ⟨(hc 0 (by omega)).trans rfl, (hc 1 (by omega)).trans rfl, hlt⟩
theorem str_extract (n : List UInt8) (k : Nat) (h : k ≤ n.length) : (str n).extract 0 k = str (n.take k) := by
  apply ByteArray.ext
  apply Array.ext'
  simp [str, ByteArray.data_extract, List.extract_eq_take_drop]

/-- is a sector a right slot that is neither what was there, nor what was written? -/
def tst (n p l : List UInt8) : Bool := decide (0 < (M.rdP n).1 ∧ n ≠ p ∧ n.take l.length ≠ l)

set_option maxHeartbeats 4000000 in
theorem clash_any (w : World) (G1 G2 : Nat) (n0 n1 p0 p1 : List UInt8) (h1 : Row w (some ⟨G1, 0, none⟩) 2 2 (strs2 (str n0) (str n1))) (h2 : Row w (some ⟨G2, 0, none⟩) 2 2 (strs2 (str p0) (str p1)))
    (aW : Option Addr) (cW : Nat) (l : List UInt8) (hw : Row w aW l.length cW (u8s l)) (hn : n0.length = 144 ∧ n1.length = 144 ∧ l.length ≤ 144) :
    Calls Try.prog 20 #[.slice (some ⟨G1, 0, none⟩) 2 2, .slice (some ⟨G2, 0, none⟩) 2 2, .slice aW l.length cW] w fun e w' => e = .returned (.bool (tst n0 p0 l || tst n1 p1 l)) ∧ Below w.heap.size w w' := by
  have H1 := Lib.hid (strs2_cells h1)
  have H2 := Lib.hid (strs2_cells h2)
  have HW := Lib.hid hw
  have HLn := Lib.hid hn
  have Hlt : Hid (G1 < w.heap.size ∧ G2 < w.heap.size) := Lib.hid ⟨H1.out.2.2, H2.out.2.2⟩
  have hl144 : (l.length : Int) ≤ 144 := by omega
  clear h1 h2 hw hn
  go_enter Try.func20, Try.ntmps20
  go_wp2_with fail
  go_loopw [12] (fun i wr => Below w.heap.size w wr ∧ ((i = .int .i64 0 ∧ True) ∨ (i = .int .i64 1 ∧ tst n0 p0 l = false) ∨ (i = .int .i64 2 ∧ tst n0 p0 l = false ∧ tst n1 p1 l = false))) (fun i _ => 2 - (RowKit.intOf i).toNat)
  case atStart => exact ⟨Below.refl _ _, .inl ⟨rfl, trivial⟩⟩
  case round =>
    obtain ⟨hbr, hi⟩ := hrel
    have HBr := Lib.hid hbr
    clear hbr
    rcases hi with ⟨rfl, _⟩ | ⟨rfl, hf0⟩ | ⟨rfl, hf0, hf1⟩
    · have hz0 := True.intro
      have hsz : (str n0).size = 144 := by rw [str_size]; exact HLn.out.1
      obtain ⟨capC, w1, hrun, hrow, hb1⟩ := conv_str wr n0 (by have := HLn.out.1; omega)
      have HB1 := Lib.hid (HBr.out.trans (hb1.mono HBr.out.size))
      have HRr := Lib.hid (refread_any w1 wr.heap.size 0 n0.length capC n0 hrow (by have := HLn.out.1; omega) (by have := HLn.out.1; omega))
      have c1 := (HBr.out.cell (p := ⟨G1, 0, none⟩) Hlt.out.1).trans H1.out.1
      clear hrow hb1
      generalize hge : (M.rdP n0).1 = ge at *
      have HGe := Lib.hid hge
      generalize (M.rdP n0).2 = te at *
      clear hge
      go_wp2_with (go_at_call 35; refine HRr.out.mono ?_; rintro e w2 ⟨rfl, hb2⟩
                   have HB2 := Lib.hid (HB1.out.trans (hb2.mono HB1.out.size))
                   clear hb2)
      have d1 := (HB2.out.cell (p := ⟨G1, 0, none⟩) Hlt.out.1).trans H1.out.1
      have d2 := (HB2.out.cell (p := ⟨G2, 0, none⟩) Hlt.out.2).trans H2.out.1
      have kcv : ∀ m, (convert 23 9 (.slice aW l.length cW)).run Try.prog (w2.drewN m) = .ok (.string (str l)) (w2.drewN m) := fun m => conv_row (row_drewN (row_below HW.out HB2.out (Nat.le_refl _)) m)
      have hx : (str n0).extract 0 l.length = str (n0.take l.length) := str_extract _ _ (by have := HLn.out.1; omega)
      clear c1
      by_cases y1 : 0 < ge
      · by_cases y2 : n0 = p0
        · have e2 : ((str n0).toList == (str p0).toList) = true := by rw [y2]; simp
          have hF : tst n0 p0 l = false := by unfold tst; exact decide_eq_false fun h => h.2.1 y2
          clear y2
          go_quiet (fail)
          go_wp2_with fail
          go_roundw
          case rel => exact ⟨HB2.out.trans (below_drewN _ _ _), .inr (.inl ⟨rfl, hF⟩)⟩
          case measure => simp [RowKit.intOf]
        · have e2 : ((str n0).toList == (str p0).toList) = false := str_ne fun e => y2 (str_inj e)
          by_cases y3 : n0.take l.length = l
          · have e3 : ((str (n0.take l.length)).toList == (str l).toList) = true := by rw [y3]; simp
            have hF : tst n0 p0 l = false := by unfold tst; exact decide_eq_false fun h => h.2.2 y3
            clear y2 y3
            go_quiet (fail)
            go_wp2_with fail
            go_roundw
            case rel => exact ⟨HB2.out.trans (below_drewN _ _ _), .inr (.inl ⟨rfl, hF⟩)⟩
            case measure => simp [RowKit.intOf]
          · have e3 : ((str (n0.take l.length)).toList == (str l).toList) = false := str_ne fun e => y3 (str_inj e)
            have hF : tst n0 p0 l = true := by unfold tst; exact decide_eq_true ⟨by rw [HGe.out]; exact y1, y2, y3⟩
            clear y2 y3
            go_quiet (fail)
            go_wp2_with fail
            go_ret
            exact ⟨by rw [hF, Bool.true_or]; rfl, HB2.out.trans (below_drewN _ _ _)⟩
      · have hF : tst n0 p0 l = false := by unfold tst; exact decide_eq_false fun h => y1 (by rw [← HGe.out]; exact h.1)
        have y1' : decide ((0 : Int) < ge) = false := decide_eq_false y1
        clear y1
        go_quiet (fail)
        go_wp2_with fail
        go_roundw
        case rel => exact ⟨HB2.out.trans (below_drewN _ _ _), .inr (.inl ⟨rfl, hF⟩)⟩
        case measure => simp [RowKit.intOf]
    · have hF0 := Lib.hid hf0
      clear hf0
      have hsz : (str n1).size = 144 := by rw [str_size]; exact HLn.out.2.1
      obtain ⟨capC, w1, hrun, hrow, hb1⟩ := conv_str wr n1 (by have := HLn.out.2.1; omega)
      have HB1 := Lib.hid (HBr.out.trans (hb1.mono HBr.out.size))
      have HRr := Lib.hid (refread_any w1 wr.heap.size 0 n1.length capC n1 hrow (by have := HLn.out.2.1; omega) (by have := HLn.out.2.1; omega))
      have c1 := (HBr.out.cell (p := ⟨G1, 1, none⟩) Hlt.out.1).trans H1.out.2.1
      clear hrow hb1
      generalize hge : (M.rdP n1).1 = ge at *
      have HGe := Lib.hid hge
      generalize (M.rdP n1).2 = te at *
      clear hge
      go_wp2_with (go_at_call 35; refine HRr.out.mono ?_; rintro e w2 ⟨rfl, hb2⟩
                   have HB2 := Lib.hid (HB1.out.trans (hb2.mono HB1.out.size))
                   clear hb2)
      have d1 := (HB2.out.cell (p := ⟨G1, 1, none⟩) Hlt.out.1).trans H1.out.2.1
      have d2 := (HB2.out.cell (p := ⟨G2, 1, none⟩) Hlt.out.2).trans H2.out.2.1
      have kcv : ∀ m, (convert 23 9 (.slice aW l.length cW)).run Try.prog (w2.drewN m) = .ok (.string (str l)) (w2.drewN m) := fun m => conv_row (row_drewN (row_below HW.out HB2.out (Nat.le_refl _)) m)
      have hx : (str n1).extract 0 l.length = str (n1.take l.length) := str_extract _ _ (by have := HLn.out.2.1; omega)
      clear c1
      by_cases y1 : 0 < ge
      · by_cases y2 : n1 = p1
        · have e2 : ((str n1).toList == (str p1).toList) = true := by rw [y2]; simp
          have hF : tst n1 p1 l = false := by unfold tst; exact decide_eq_false fun h => h.2.1 y2
          clear y2
          go_quiet (fail)
          go_wp2_with fail
          go_roundw
          case rel => exact ⟨HB2.out.trans (below_drewN _ _ _), .inr (.inr ⟨rfl, ⟨hF0.out, hF⟩⟩)⟩
          case measure => simp [RowKit.intOf]
        · have e2 : ((str n1).toList == (str p1).toList) = false := str_ne fun e => y2 (str_inj e)
          by_cases y3 : n1.take l.length = l
          · have e3 : ((str (n1.take l.length)).toList == (str l).toList) = true := by rw [y3]; simp
            have hF : tst n1 p1 l = false := by unfold tst; exact decide_eq_false fun h => h.2.2 y3
            clear y2 y3
            go_quiet (fail)
            go_wp2_with fail
            go_roundw
            case rel => exact ⟨HB2.out.trans (below_drewN _ _ _), .inr (.inr ⟨rfl, ⟨hF0.out, hF⟩⟩)⟩
            case measure => simp [RowKit.intOf]
          · have e3 : ((str (n1.take l.length)).toList == (str l).toList) = false := str_ne fun e => y3 (str_inj e)
            have hF : tst n1 p1 l = true := by unfold tst; exact decide_eq_true ⟨by rw [HGe.out]; exact y1, y2, y3⟩
            clear y2 y3
            go_quiet (fail)
            go_wp2_with fail
            go_ret
            exact ⟨by rw [hF, Bool.or_true]; rfl, HB2.out.trans (below_drewN _ _ _)⟩
      · have hF : tst n1 p1 l = false := by unfold tst; exact decide_eq_false fun h => y1 (by rw [← HGe.out]; exact h.1)
        have y1' : decide ((0 : Int) < ge) = false := decide_eq_false y1
        clear y1
        go_quiet (fail)
        go_wp2_with fail
        go_roundw
        case rel => exact ⟨HB2.out.trans (below_drewN _ _ _), .inr (.inr ⟨rfl, ⟨hF0.out, hF⟩⟩)⟩
        case measure => simp [RowKit.intOf]
    · go_wp2_with fail
      go_ret
      exact ⟨by rw [hf0, hf1]; rfl, HBr.out⟩
end Go.Proofs.Ytipfhcplmlmaeaa
