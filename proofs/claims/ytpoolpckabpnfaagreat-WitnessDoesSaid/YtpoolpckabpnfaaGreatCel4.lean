/-
  A cell in memory; what Get and Gen tell, and what Open makes.
-/
import Derived.Test.YtpoolpckabpnfaaGreatCel3
import Derived.Test.YtpoolpckabpnfaaGreatSMore
namespace Go.Proofs.YtpoolpckabpnfaaGreat
open Go.RowKit
set_option linter.unusedVariables false
set_option linter.unusedSimpArgs false
set_option maxRecDepth 20000

variable {dB sB mB n : Nat} {d : M.Dv}

/-- a cell in memory: its own block -/
structure CellAt (w : World) (cB dB a b : Nat) (c : M.Cl) : Prop where
  p0 : w.cell? ⟨cB, 0, none⟩ = some (.pointer (some ⟨dB, 0, none⟩))
  p1 : w.cell? ⟨cB, 1, none⟩ = some (.int .i64 (a : Int))
  p2 : w.cell? ⟨cB, 2, none⟩ = some (.int .i64 (b : Int))
  p3 : w.cell? ⟨cB, 3, none⟩ = some (.int .i64 (c.o : Int))
  p4 : w.cell? ⟨cB, 4, none⟩ = some (.int .i64 c.gen)
  p5 : w.cell? ⟨cB, 5, none⟩ = some (.string c.text)
  fz : ∀ o, w.frozen? ⟨cB, o, none⟩ = false

theorem CellAt.lt {w : World} {cB dB a b : Nat} {c : M.Cl} (h : CellAt w cB dB a b c) : cB < w.heap.size := World.block_lt_of_cell? w _ h.p0
theorem CellAt.of_block {w w' : World} {cB dB a b : Nat} {c : M.Cl} (h : CellAt w cB dB a b c) (hb : w'.heap[cB]? = w.heap[cB]?) : CellAt w' cB dB a b c where
  p0 := by rw [World.cell?_of_block (w := w) (a := ⟨cB, 0, none⟩) hb]; exact h.p0
  p1 := by rw [World.cell?_of_block (w := w) (a := ⟨cB, 1, none⟩) hb]; exact h.p1
  p2 := by rw [World.cell?_of_block (w := w) (a := ⟨cB, 2, none⟩) hb]; exact h.p2
  p3 := by rw [World.cell?_of_block (w := w) (a := ⟨cB, 3, none⟩) hb]; exact h.p3
  p4 := by rw [World.cell?_of_block (w := w) (a := ⟨cB, 4, none⟩) hb]; exact h.p4
  p5 := by rw [World.cell?_of_block (w := w) (a := ⟨cB, 5, none⟩) hb]; exact h.p5
  fz := fun o => by rw [World.frozen?_of_block (w := w) (a := ⟨cB, o, none⟩) hb]; exact h.fz o
theorem CellAt.but {w w' : World} {cB dB a b : Nat} {c : M.Cl} (h : CellAt w cB dB a b c) {l : List Nat} (hb : But l w w') (hn : cB ∉ l) : CellAt w' cB dB a b c := h.of_block (hb.block _ h.lt hn)
theorem CellAt.below {w w' : World} {cB dB a b B : Nat} {c : M.Cl} (h : CellAt w cB dB a b c) (hb : Below B w w') (hB : cB < B) : CellAt w' cB dB a b c := h.of_block (hb.block _ hB)

theorem cell_new (w : World) (dB a b : Nat) : CellAt (w.alloc (.cells #[.pointer (some ⟨dB, 0, none⟩), .int .i64 (a : Int), .int .i64 (b : Int), .int .i64 0, .int .i64 0, .string ⟨#[]⟩] 111)) w.heap.size dB a b M.none0 where
  p0 := by rw [World.cell?_alloc_mark]; rfl
  p1 := by rw [World.cell?_alloc_mark]; rfl
  p2 := by rw [World.cell?_alloc_mark]; rfl
  p3 := by rw [World.cell?_alloc_mark]; rfl
  p4 := by rw [World.cell?_alloc_mark]; rfl
  p5 := by rw [World.cell?_alloc_mark]; rfl
  fz := fun o => World.frozen?_alloc_at _ _ _ _ rfl

/-- the three last parts turned -/
theorem CellAt.set {w : World} {cB dB a b : Nat} {c : M.Cl} (h : CellAt w cB dB a b c) (o : Nat) (g : Int) (t : ByteArray) :
    CellAt (((w.setCell ⟨cB, 4, none⟩ (.int .i64 g)).setCell ⟨cB, 5, none⟩ (.string t)).setCell ⟨cB, 3, none⟩ (.int .i64 (o : Int))) cB dB a b ⟨o, g, t⟩ where
  p0 := by rw [World.cell?_setCell_other _ _ _ _ (by simp), World.cell?_setCell_other _ _ _ _ (by simp), World.cell?_setCell_other _ _ _ _ (by simp)]; exact h.p0
  p1 := by rw [World.cell?_setCell_other _ _ _ _ (by simp), World.cell?_setCell_other _ _ _ _ (by simp), World.cell?_setCell_other _ _ _ _ (by simp)]; exact h.p1
  p2 := by rw [World.cell?_setCell_other _ _ _ _ (by simp), World.cell?_setCell_other _ _ _ _ (by simp), World.cell?_setCell_other _ _ _ _ (by simp)]; exact h.p2
  p3 := World.cell?_setCell_same _ _ _ (show _ = some (Value.int .i64 (c.o : Int)) by rw [World.cell?_setCell_other _ _ _ _ (by simp), World.cell?_setCell_other _ _ _ _ (by simp)]; exact h.p3)
  p4 := by
    rw [World.cell?_setCell_other _ _ _ _ (by simp), World.cell?_setCell_other _ _ _ _ (by simp)]
    exact World.cell?_setCell_same _ _ _ h.p4
  p5 := by
    rw [World.cell?_setCell_other _ _ _ _ (by simp)]
    exact World.cell?_setCell_same _ _ _ (show _ = some (Value.string c.text) by rw [World.cell?_setCell_other _ _ _ _ (by simp)]; exact h.p5)
  fz := fun o => by rw [World.frozen?_setCell, World.frozen?_setCell, World.frozen?_setCell]; exact h.fz o

theorem get_any (w : World) {cB a b : Nat} {c : M.Cl} (h : CellAt w cB dB a b c) : Calls Tryz.prog 66 #[.pointer (some ⟨cB, 0, none⟩)] w fun e w' => e = .returned (.string c.text) ∧ w = w' := by
  have h5 := h.p5
  clear h
  go_enter Tryz.func66, Tryz.ntmps66
  go_wp2
  go_ret
  exact ⟨rfl, rfl⟩

theorem has_yes (w : World) (h : DevAt w dB sB mB n d) (i : Nat) (hi : i < n) :
    Calls Tryz.prog 50 #[.pointer (some ⟨dB, 0, none⟩), .int .i64 (i : Int)] w fun e w' => e = .returned (.bool true) ∧ w = w' := by
  have HS := Lib.hid (sectors_any w h)
  have hlt : (i : Int) < (n : Int) := by omega
  have h0 : (0 : Int) ≤ (i : Int) := by omega
  clear h hi
  go_enter Tryz.func50, Tryz.ntmps50
  go_wp2_with (go_at_call 68; refine HS.out.mono ?_; rintro e w' ⟨rfl, rfl⟩)
  go_ret
  exact ⟨rfl, rfl⟩

theorem step1_is (i : Nat) (l : List UInt8) (c : M.Cl) (h : 0 ≤ c.gen) : M.step1 i (M.rdS l) c = if c.gen < (M.rdP l).1 then ⟨1 - i, (M.rdP l).1, (M.rdP l).2⟩ else c := by
  unfold M.rdP
  cases hl : M.rdS l with
  | none => simp [M.step1]; omega
  | some x => obtain ⟨g, t⟩ := x; rfl

theorem open_same (w : World) (p : Addr) (a : Int) :
    Calls Tryz.prog 28 #[.pointer (some p), .int .i64 a, .int .i64 a] w fun e w' => e = .returned (.tuple #[.pointer none, .int .i64 1]) ∧ w = w' := by
  go_enter Tryz.func28, Tryz.ntmps28
  go_wp2
  go_ret2
  exact ⟨rfl, rfl⟩

set_option maxHeartbeats 2000000 in
theorem open_yes (w : World) (h : DevAt w dB sB mB n d) (hdead : d.dead = false) (a b : Nat) (hab : a ≠ b) (ha : a < n) (hb : b < n) :
    Calls Tryz.prog 28 #[.pointer (some ⟨dB, 0, none⟩), .int .i64 (a : Int), .int .i64 (b : Int)] w fun e w' => ∃ cB, e = .returned (.tuple #[.pointer (some ⟨cB, 0, none⟩), .int .i64 0]) ∧ w.heap.size ≤ cB ∧
      CellAt w' cB dB a b (M.found (M.rdS (M.seen d a)) (M.rdS (M.seen d b))) ∧ Below w.heap.size w w' := by
  have HD := Lib.hid h
  have HA := Lib.hid (has_yes w h a ha)
  have HB := Lib.hid (has_yes w h b hb)
  have hne : ((a : Int) == (b : Int)) = false := by rw [beq_eq_false_iff_ne]; omega
  have HR : Hid (∀ i, i < n → M.reach n d (i : Int) = 0) := Lib.hid fun i hi => by
    unfold M.reach; rw [hdead, if_neg (by simp), if_neg (by omega)]
  have HL := Lib.hid (And.intro ha hb)
  have HC := Lib.hid (cell_new w dB a b)
  have ix0 : ∀ w, (Instr.index 109 (.agg #[.int .i64 (a : Int), .int .i64 (b : Int)]) (.int .i64 0)).run Tryz.prog w = .ok (.int .i64 (a : Int)) w := fun _ => by kernel_rfl
  have ix1 : ∀ w, (Instr.index 109 (.agg #[.int .i64 (a : Int), .int .i64 (b : Int)]) (.int .i64 1)).run Tryz.prog w = .ok (.int .i64 (b : Int)) w := fun _ => by kernel_rfl
  clear h hdead hab ha hb
  go_enter Tryz.func28, Tryz.ntmps28
  go_wp2_with (go_at_call 50; first | (with_reducible refine HA.out.mono ?_; rintro e w' ⟨rfl, rfl⟩) | (with_reducible refine HB.out.mono ?_; rintro e w' ⟨rfl, rfl⟩))
  have HC0 : Hid (CellAt (w.alloc (.cells #[.pointer (some ⟨dB, 0, none⟩), .int .i64 (a : Int), .int .i64 (b : Int), .int .i64 0, .int .i64 0, .string ⟨#[]⟩] 111)) w.heap.size dB a b M.none0) := HC
  have HB0 : Hid (Below w.heap.size w (w.alloc (.cells #[.pointer (some ⟨dB, 0, none⟩), .int .i64 (a : Int), .int .i64 (b : Int), .int .i64 0, .int .i64 0, .string ⟨#[]⟩] 111))) := Lib.hid ((Below.refl _ w).alloc (Nat.le_refl _) _)
  clear HA HB HC
  go_loopw [44] (fun i wr => ∃ c : M.Cl, Below w.heap.size w wr ∧ CellAt wr w.heap.size dB a b c ∧ 0 ≤ c.gen ∧ ((i = .int .i64 0 ∧ c = M.none0) ∨ (i = .int .i64 1 ∧ c = M.step1 0 (M.rdS (M.seen d a)) M.none0) ∨ (i = .int .i64 2 ∧ c = M.found (M.rdS (M.seen d a)) (M.rdS (M.seen d b))))) (fun i _ => 2 - (intOf i).toNat)
  case atStart => exact ⟨_, HB0.out, HC0.out, by simp [M.none0], .inl ⟨rfl, rfl⟩⟩
  case round =>
    obtain ⟨c, hbw, hcw, hg0, hi⟩ := hrel
    have HBw := Lib.hid hbw
    have HCw := Lib.hid hcw
    have HDw := Lib.hid (HD.out.but ((But.refl [] w).below hbw (Nat.le_refl _)) (by simp) (by simp) (by simp))
    have Hg0 := Lib.hid hg0
    clear hbw hcw HB0 HC0 hg0
    rcases hi with ⟨rfl, hc⟩ | ⟨rfl, hc⟩ | ⟨rfl, hc⟩
    · have Hc := Lib.hid hc
      clear hc
      have HRd := Lib.hid (read_yes _ HDw.out a (HR.out a HL.out.1))
      go_wp2_with fail
      refine HRd.out.mono ?_
      rintro e w1 ⟨bR, rfl, hbR, hltR, hrg, _, hb1⟩
      have HB1 := Lib.hid (HBw.out.trans (hb1.mono HBw.out.size))
      have HC1 := Lib.hid (HCw.out.below hb1 HCw.out.lt)
      have HRr := Lib.hid (read_any w1 bR 0 144 144 (M.seen d a) (by
        have := row_range (cap := 144) hrg hltR (by rw [u8s_length, seen_len HDw.out.wf]; omega) (by simp [maxLen])
        rwa [u8s_length, seen_len HDw.out.wf] at this) (by omega) (by omega))
      have Hst := Lib.hid (step1_is 0 (M.seen d a) c Hg0.out)
      clear hbR hltR hrg hb1
      generalize hPe : (M.rdP (M.seen d a)).1 = pg at *
      generalize hPt : (M.rdP (M.seen d a)).2 = pt at *
      have HP := Lib.hid (And.intro hPe hPt)
      clear hPe hPt
      go_wp2_with fail
      refine HRr.out.mono ?_
      rintro e w2 ⟨rfl, hb2⟩
      have HB2 := Lib.hid (HB1.out.trans (hb2.mono HB1.out.size))
      have HC2 := Lib.hid (HC1.out.below hb2 HC1.out.lt)
      clear hb2
      have m4 := HC2.out.p4
      by_cases hgt : c.gen < pg
      · have m3 := HC2.out.p3
        have m5 := HC2.out.p5
        have f3 := HC2.out.fz 3
        have f4 := HC2.out.fz 4
        have f5 := HC2.out.fz 5
        have HC3 := Lib.hid (HC2.out.set (1 - 0) pg pt)
        rw [if_pos hgt] at Hst
        have Hgt := Lib.hid hgt
        go_wp2_with fail
        go_roundw
        case rel =>
          refine ⟨⟨1 - 0, pg, pt⟩, ((HB2.out.setCell (by simp) _).setCell (by simp) _).setCell (by simp) _, HC3.out, by have := Hgt.out; have := Hg0.out; simp only; omega, .inr (.inl ⟨rfl, by rw [← Hc.out]; exact Hst.out.symm⟩)⟩
        case measure => simp [intOf]
      · have hle : pg ≤ c.gen := by omega
        rw [if_neg hgt] at Hst
        clear hgt
        go_wp2_with fail
        go_roundw
        case rel => exact ⟨c, HB2.out, HC2.out, Hg0.out, .inr (.inl ⟨rfl, by rw [← Hc.out]; exact Hst.out.symm⟩)⟩
        case measure => simp [intOf]
    · have Hc := Lib.hid hc
      clear hc
      have HRd := Lib.hid (read_yes _ HDw.out b (HR.out b HL.out.2))
      go_wp2_with fail
      refine HRd.out.mono ?_
      rintro e w1 ⟨bR, rfl, hbR, hltR, hrg, _, hb1⟩
      have HB1 := Lib.hid (HBw.out.trans (hb1.mono HBw.out.size))
      have HC1 := Lib.hid (HCw.out.below hb1 HCw.out.lt)
      have HRr := Lib.hid (read_any w1 bR 0 144 144 (M.seen d b) (by
        have := row_range (cap := 144) hrg hltR (by rw [u8s_length, seen_len HDw.out.wf]; omega) (by simp [maxLen])
        rwa [u8s_length, seen_len HDw.out.wf] at this) (by omega) (by omega))
      have Hst := Lib.hid (step1_is 1 (M.seen d b) c Hg0.out)
      clear hbR hltR hrg hb1
      generalize hPe : (M.rdP (M.seen d b)).1 = pg at *
      generalize hPt : (M.rdP (M.seen d b)).2 = pt at *
      have HP := Lib.hid (And.intro hPe hPt)
      clear hPe hPt
      go_wp2_with fail
      refine HRr.out.mono ?_
      rintro e w2 ⟨rfl, hb2⟩
      have HB2 := Lib.hid (HB1.out.trans (hb2.mono HB1.out.size))
      have HC2 := Lib.hid (HC1.out.below hb2 HC1.out.lt)
      clear hb2
      have m4 := HC2.out.p4
      by_cases hgt : c.gen < pg
      · have m3 := HC2.out.p3
        have m5 := HC2.out.p5
        have f3 := HC2.out.fz 3
        have f4 := HC2.out.fz 4
        have f5 := HC2.out.fz 5
        have HC3 := Lib.hid (HC2.out.set (1 - 1) pg pt)
        rw [if_pos hgt] at Hst
        have Hgt := Lib.hid hgt
        go_wp2_with fail
        go_roundw
        case rel =>
          refine ⟨⟨1 - 1, pg, pt⟩, ((HB2.out.setCell (by simp) _).setCell (by simp) _).setCell (by simp) _, HC3.out, by have := Hgt.out; have := Hg0.out; simp only; omega, .inr (.inr ⟨rfl, by unfold M.found; rw [← Hc.out]; exact Hst.out.symm⟩)⟩
        case measure => simp [intOf]
      · have hle : pg ≤ c.gen := by omega
        rw [if_neg hgt] at Hst
        clear hgt
        go_wp2_with fail
        go_roundw
        case rel => exact ⟨c, HB2.out, HC2.out, Hg0.out, .inr (.inr ⟨rfl, by unfold M.found; rw [← Hc.out]; exact Hst.out.symm⟩)⟩
        case measure => simp [intOf]
    · have HF := Lib.hid hc
      clear hc
      go_wp2_with fail
      go_ret2
      exact ⟨w.heap.size, rfl, Nat.le_refl _, by rw [← HF.out]; exact HCw.out, HBw.out⟩
end Go.Proofs.YtpoolpckabpnfaaGreat
