/-
  The document's own answer for the message that bytes are.
-/
import Derived.Test.YtpggpgbkeafgnaaMlRefE
import Derived.Test.YtpggpgbkeafgnaaCRefd
namespace Go.Proofs.Ytpggpgbkeafgnaa.Ml
open Go.RowKit
open C (Row Own i64s strs u8s row_below own_below RecAt str)
set_option linter.unusedVariables false
set_option linter.unusedSimpArgs false
set_option maxRecDepth 20000

theorem rdec_ok (w : World) (a : Option Addr) (n cap : Nat) (l : List UInt8) (r : C.M.Rc) (h : Row w a n cap (u8s l)) (hn : n ≤ 65536) (hd : C.M.dec l = some r) :
    Calls Try.prog 22 #[.slice a n cap] w fun e w' => ∃ aN nN cN aT nT cT, e = .returned (.tuple #[.agg #[.int .i64 r.kind, .slice aN nN cN, .slice aT nT cT], .int .i64 0]) ∧ RecAt w' r aN nN cN aT nT cT ∧ Below w.heap.size w w' := by
  refine (C.refdecode_any w a n cap l h hn).mono ?_
  rintro e w' ⟨hb, ⟨r', v, h1, ⟨aN, nN, cN, aT, nT, cT, rfl, h2, h3⟩, rfl⟩ | ⟨h1, _⟩⟩
  · rw [hd] at h1
    injection h1 with h1
    subst h1
    exact ⟨aN, nN, cN, aT, nT, cT, rfl, ⟨(C.own_row h2).1, (C.own_row h3).1⟩, hb⟩
  · rw [hd] at h1; cases h1
theorem rdec_no (w : World) (a : Option Addr) (n cap : Nat) (l : List UInt8) (h : Row w a n cap (u8s l)) (hn : n ≤ 65536) (hd : C.M.dec l = none) :
    Calls Try.prog 22 #[.slice a n cap] w fun e w' => e = .returned (.tuple #[.agg #[.int .i64 0, .slice none 0 0, .slice none 0 0], .int .i64 4]) ∧ Below w.heap.size w w' := by
  refine (C.refdecode_any w a n cap l h hn).mono ?_
  rintro e w' ⟨hb, ⟨r', v, h1, _, _⟩ | ⟨h1, rfl⟩⟩
  · rw [hd] at h1; cases h1
  · exact ⟨rfl, hb⟩

theorem two_parts {r : C.M.Rc} (h1 : r.nums.length = 10) (h2 : r.texts.length = 2) : ∃ m : Mg, r = m.rc := by
  obtain ⟨kind, nums, texts⟩ := r
  simp only at h1 h2
  match nums, h1, texts, h2 with
  | [a, b, c, d, e, f, g, h, i, j], _, [s, t], _ => exact ⟨⟨kind, a, b, c, d, e, f, g, h, i, j, s, t⟩, rfl⟩

set_option maxHeartbeats 2000000 in
theorem refdec_none (w : World) (s : ByteArray) (hs : s.size ≤ 65536) (hd : C.M.dec s.data.toList = none) : Calls Try.prog 14 #[.string s] w fun e w' => e = .returned (.tuple #[msgV nil, .int .i64 4]) ∧ Below w.heap.size w w' := by
  have hD := rdec_no (Lib.bytesWorld (w.alloc (.cells nil.cells 25)) 5 s) _ _ _ _ (bytes_row (w.alloc (.cells nil.cells 25)) s hs) (by omega) hd
  rw [show (w.alloc (.cells nil.cells 25)).heap.size = w.heap.size + 1 by simp] at hD
  have kc := conv_str (w.alloc (.cells nil.cells 25)) s
  have HM := Lib.hid (MB.new w nil)
  clear hd hs
  simp only [nil, Mg.cells] at kc hD
  have HD := Lib.hid hD
  clear hD
  go_enter Try.func14, Try.ntmps14
  go_wp2_with (first
    | (go_at_call 22; with_reducible refine HD.out.mono ?_; rintro e1 w1 ⟨rfl, hb⟩
       have HB := Lib.hid ((bytes_below (w.alloc (.cells nil.cells 25)) s).trans (Below.mono hb (bytes_below (w.alloc (.cells nil.cells 25)) s).size))
       have HBX := Lib.hid (HB.out.alloc HB.out.size (.cells #[.int .i64 0, .slice none 0 0, .slice none 0 0] 39))
       have HMX := Lib.hid (HM.out.below HBX.out (by simp))
       obtain ⟨z0, z1, z2, z3, z4, z5, z6, z7, z8, z9, z10, z11, z12⟩ := HMX.out.cells
       have zf := HMX.out.fz
       clear hb))
  exact ret_msg2 (m := nil) Try.results14 rfl rfl rfl (mb_set' HMX.out) ⟨rfl, sets_below (o := 0) (((Below.refl _ _).alloc (Nat.le_refl _) _).trans (HBX.out.mono (by simp))) nil.cells.toList (Nat.le_refl _)⟩

set_option maxHeartbeats 2000000 in
theorem refdec_count (w : World) (s : ByteArray) (hs : s.size ≤ 65536) (r : C.M.Rc) (hd : C.M.dec s.data.toList = some r) (hc : ¬ (r.nums.length = 10 ∧ r.texts.length = 2)) : Calls Try.prog 14 #[.string s] w fun e w' => e = .returned (.tuple #[msgV nil, .int .i64 4]) ∧ Below w.heap.size w w' := by
  have hD := rdec_ok (Lib.bytesWorld (w.alloc (.cells nil.cells 25)) 5 s) _ _ _ _ r (bytes_row (w.alloc (.cells nil.cells 25)) s hs) (by omega) hd
  rw [show (w.alloc (.cells nil.cells 25)).heap.size = w.heap.size + 1 by simp] at hD
  have kc := conv_str (w.alloc (.cells nil.cells 25)) s
  have HM := Lib.hid (MB.new w nil)
  have hlen : ∀ w' aN nN cN aT nT cT, RecAt w' r aN nN cN aT nT cT → nN = r.nums.length ∧ nT = r.texts.length := fun w' aN nN cN aT nT cT h => ⟨h.lenN, h.lenT⟩
  have HLen := Lib.hid hlen
  clear hd hs hlen
  simp only [nil, Mg.cells] at kc hD
  have HD := Lib.hid hD
  clear hD
  generalize r.kind = kind at *
  generalize r.nums.length = N at *
  generalize r.texts.length = T at *
  have hcc : (¬ N = 10) ∨ (N = 10 ∧ ¬ T = 2) := by omega
  clear hc
  rcases hcc with h10 | ⟨rfl, h2⟩
  · have hI : ¬ ((N : Int) = 10) := by omega
    go_enter Try.func14, Try.ntmps14
    go_wp2_with (first
      | (go_at_call 22; with_reducible refine HD.out.mono ?_; rintro e1 w1 ⟨aN, nN, cN, aT, nT, cT, rfl, hr, hb⟩
         have hl := HLen.out _ _ _ _ _ _ _ hr
         rw [hl.1, hl.2]
         have HB := Lib.hid ((bytes_below (w.alloc (.cells nil.cells 25)) s).trans (Below.mono hb (bytes_below (w.alloc (.cells nil.cells 25)) s).size))
         have HBX := Lib.hid (HB.out.alloc HB.out.size (.cells #[.int .i64 kind, .slice aN N cN, .slice aT T cT] 39))
         have HMX := Lib.hid (HM.out.below HBX.out (by simp))
         obtain ⟨z0, z1, z2, z3, z4, z5, z6, z7, z8, z9, z10, z11, z12⟩ := HMX.out.cells
         have zf := HMX.out.fz
         clear hb hr hl))
    exact ret_msg2 (m := nil) Try.results14 rfl rfl rfl (mb_set' HMX.out) ⟨rfl, sets_below (o := 0) (((Below.refl _ _).alloc (Nat.le_refl _) _).trans (HBX.out.mono (by simp))) nil.cells.toList (Nat.le_refl _)⟩
  · have hI : ¬ ((T : Int) = 2) := by omega
    go_enter Try.func14, Try.ntmps14
    go_wp2_with (first
      | (go_at_call 22; with_reducible refine HD.out.mono ?_; rintro e1 w1 ⟨aN, nN, cN, aT, nT, cT, rfl, hr, hb⟩
         have hl := HLen.out _ _ _ _ _ _ _ hr
         rw [hl.1, hl.2]
         have HB := Lib.hid ((bytes_below (w.alloc (.cells nil.cells 25)) s).trans (Below.mono hb (bytes_below (w.alloc (.cells nil.cells 25)) s).size))
         have HBX := Lib.hid (HB.out.alloc HB.out.size (.cells #[.int .i64 kind, .slice aN 10 cN, .slice aT T cT] 39))
         have HMX := Lib.hid (HM.out.below HBX.out (by simp))
         obtain ⟨z0, z1, z2, z3, z4, z5, z6, z7, z8, z9, z10, z11, z12⟩ := HMX.out.cells
         have zf := HMX.out.fz
         clear hb hr hl))
    exact ret_msg2 (m := nil) Try.results14 rfl rfl rfl (mb_set' HMX.out) ⟨rfl, sets_below (o := 0) (((Below.refl _ _).alloc (Nat.le_refl _) _).trans (HBX.out.mono (by simp))) nil.cells.toList (Nat.le_refl _)⟩

set_option maxHeartbeats 2000000 in
theorem refdec_block (w : World) (s : ByteArray) (hs : s.size ≤ 65536) (m : Mg) (hd : C.M.dec s.data.toList = some m.rc) (h3 : ¬ (-1 ≤ m.block ∧ m.block ≤ 31)) : Calls Try.prog 14 #[.string s] w fun e w' => e = .returned (.tuple #[msgV nil, .int .i64 4]) ∧ Below w.heap.size w w' := by
  have hD := rdec_ok (Lib.bytesWorld (w.alloc (.cells nil.cells 25)) 5 s) _ _ _ _ m.rc (bytes_row (w.alloc (.cells nil.cells 25)) s hs) (by omega) hd
  rw [show (w.alloc (.cells nil.cells 25)).heap.size = w.heap.size + 1 by simp] at hD
  have kc := conv_str (w.alloc (.cells nil.cells 25)) s
  have HM := Lib.hid (MB.new w nil)
  have hlen : ∀ w' aN nN cN aT nT cT, RecAt w' m.rc aN nN cN aT nT cT → nN = 10 ∧ nT = 2 := fun w' aN nN cN aT nT cT h => ⟨by have := h.lenN; simpa [Mg.rc, Mg.nums] using this, by have := h.lenT; simpa [Mg.rc, Mg.texts] using this⟩
  have HLen := Lib.hid hlen
  have HRC := Lib.hid (fun (w' : World) aN cN aT cT (h : RecAt w' m.rc aN 10 cN aT 2 cT) => rec_cells h)
  have hk : m.rc.kind = m.kind := rfl
  rw [hk] at hD
  clear hd hs hlen hk
  generalize m.rc = r at *
  obtain ⟨kind, epoch, seq, n, block, client, e, t0, t1, t2, t3, data, row⟩ := m
  simp only [nil, Mg.cells] at kc hD
  simp only at h3
  have W3 := Lib.hid (fun w' => rwithin_no w' (k := block) (low := -1) (high := 31) h3)
  clear h3
  have HD := Lib.hid hD
  clear hD
  go_enter Try.func14, Try.ntmps14
  go_wp2_with (first
    | (go_at_call 22; with_reducible refine HD.out.mono ?_; rintro e1 w1 ⟨aN, nN, cN, aT, nT, cT, rfl, hr, hb⟩
       obtain ⟨rfl, rfl⟩ := HLen.out _ _ _ _ _ _ _ hr
       obtain ⟨b, off, b2, off2, rfl, rfl, hmc, g1, g2, g3, g4⟩ := HRC.out _ _ _ _ _ hr
       have HB := Lib.hid ((bytes_below (w.alloc (.cells nil.cells 25)) s).trans (Below.mono hb (bytes_below (w.alloc (.cells nil.cells 25)) s).size))
       have HBX := Lib.hid (HB.out.alloc HB.out.size (.cells #[.int .i64 kind, .slice (some ⟨b, off, none⟩) 10 cN, .slice (some ⟨b2, off2, none⟩) 2 cT] 39))
       have HMX := Lib.hid (HM.out.below HBX.out (by simp))
       obtain ⟨z0, z1, z2, z3, z4, z5, z6, z7, z8, z9, z10, z11, z12⟩ := HMX.out.cells
       have zf := HMX.out.fz
       have hmc2 := hmc.below ((Below.refl w1.heap.size w1).alloc (Nat.le_refl _) (.cells #[.int .i64 kind, .slice (some ⟨b, off, none⟩) 10 cN, .slice (some ⟨b2, off2, none⟩) 2 cT] 39))
       have n3 := hmc2.e3
       have n4 := hmc2.e4
       have n5 := hmc2.e5
       simp only at n3 n4 n5
       clear hb hmc hmc2 hr)
    | (go_at_call 19; with_reducible refine (W3.out _).mono ?_; rintro ew0 ww0 ⟨rfl, rfl⟩))
  exact ret_msg2 (m := nil) Try.results14 rfl rfl rfl (mb_set' HMX.out) ⟨rfl, sets_below (o := 0) (((Below.refl _ _).alloc (Nat.le_refl _) _).trans (HBX.out.mono (by simp))) nil.cells.toList (Nat.le_refl _)⟩

set_option maxHeartbeats 2000000 in
theorem refdec_client (w : World) (s : ByteArray) (hs : s.size ≤ 65536) (m : Mg) (hd : C.M.dec s.data.toList = some m.rc) (h3 : (-1 ≤ m.block ∧ m.block ≤ 31)) (h4 : ¬ (-1 ≤ m.client ∧ m.client ≤ 3)) : Calls Try.prog 14 #[.string s] w fun e w' => e = .returned (.tuple #[msgV nil, .int .i64 4]) ∧ Below w.heap.size w w' := by
  have hD := rdec_ok (Lib.bytesWorld (w.alloc (.cells nil.cells 25)) 5 s) _ _ _ _ m.rc (bytes_row (w.alloc (.cells nil.cells 25)) s hs) (by omega) hd
  rw [show (w.alloc (.cells nil.cells 25)).heap.size = w.heap.size + 1 by simp] at hD
  have kc := conv_str (w.alloc (.cells nil.cells 25)) s
  have HM := Lib.hid (MB.new w nil)
  have hlen : ∀ w' aN nN cN aT nT cT, RecAt w' m.rc aN nN cN aT nT cT → nN = 10 ∧ nT = 2 := fun w' aN nN cN aT nT cT h => ⟨by have := h.lenN; simpa [Mg.rc, Mg.nums] using this, by have := h.lenT; simpa [Mg.rc, Mg.texts] using this⟩
  have HLen := Lib.hid hlen
  have HRC := Lib.hid (fun (w' : World) aN cN aT cT (h : RecAt w' m.rc aN 10 cN aT 2 cT) => rec_cells h)
  have hk : m.rc.kind = m.kind := rfl
  rw [hk] at hD
  clear hd hs hlen hk
  generalize m.rc = r at *
  obtain ⟨kind, epoch, seq, n, block, client, e, t0, t1, t2, t3, data, row⟩ := m
  simp only [nil, Mg.cells] at kc hD
  simp only at h3 h4
  have W3 := Lib.hid (fun w' => rwithin_yes w' (k := block) (low := -1) (high := 31) h3)
  clear h3
  have W4 := Lib.hid (fun w' => rwithin_no w' (k := client) (low := -1) (high := 3) h4)
  clear h4
  have HD := Lib.hid hD
  clear hD
  go_enter Try.func14, Try.ntmps14
  go_wp2_with (first
    | (go_at_call 22; with_reducible refine HD.out.mono ?_; rintro e1 w1 ⟨aN, nN, cN, aT, nT, cT, rfl, hr, hb⟩
       obtain ⟨rfl, rfl⟩ := HLen.out _ _ _ _ _ _ _ hr
       obtain ⟨b, off, b2, off2, rfl, rfl, hmc, g1, g2, g3, g4⟩ := HRC.out _ _ _ _ _ hr
       have HB := Lib.hid ((bytes_below (w.alloc (.cells nil.cells 25)) s).trans (Below.mono hb (bytes_below (w.alloc (.cells nil.cells 25)) s).size))
       have HBX := Lib.hid (HB.out.alloc HB.out.size (.cells #[.int .i64 kind, .slice (some ⟨b, off, none⟩) 10 cN, .slice (some ⟨b2, off2, none⟩) 2 cT] 39))
       have HMX := Lib.hid (HM.out.below HBX.out (by simp))
       obtain ⟨z0, z1, z2, z3, z4, z5, z6, z7, z8, z9, z10, z11, z12⟩ := HMX.out.cells
       have zf := HMX.out.fz
       have hmc2 := hmc.below ((Below.refl w1.heap.size w1).alloc (Nat.le_refl _) (.cells #[.int .i64 kind, .slice (some ⟨b, off, none⟩) 10 cN, .slice (some ⟨b2, off2, none⟩) 2 cT] 39))
       have n3 := hmc2.e3
       have n4 := hmc2.e4
       have n5 := hmc2.e5
       simp only at n3 n4 n5
       clear hb hmc hmc2 hr)
    | (go_at_call 19; with_reducible refine (W3.out _).mono ?_; rintro ew0 ww0 ⟨rfl, rfl⟩)
    | (go_at_call 19; with_reducible refine (W4.out _).mono ?_; rintro ew1 ww1 ⟨rfl, rfl⟩))
  exact ret_msg2 (m := nil) Try.results14 rfl rfl rfl (mb_set' HMX.out) ⟨rfl, sets_below (o := 0) (((Below.refl _ _).alloc (Nat.le_refl _) _).trans (HBX.out.mono (by simp))) nil.cells.toList (Nat.le_refl _)⟩

set_option maxHeartbeats 2000000 in
theorem refdec_e (w : World) (s : ByteArray) (hs : s.size ≤ 65536) (m : Mg) (hd : C.M.dec s.data.toList = some m.rc) (h3 : (-1 ≤ m.block ∧ m.block ≤ 31)) (h4 : (-1 ≤ m.client ∧ m.client ≤ 3)) (h5 : ¬ (0 ≤ m.e ∧ m.e ≤ 31)) : Calls Try.prog 14 #[.string s] w fun e w' => e = .returned (.tuple #[msgV nil, .int .i64 4]) ∧ Below w.heap.size w w' := by
  have hD := rdec_ok (Lib.bytesWorld (w.alloc (.cells nil.cells 25)) 5 s) _ _ _ _ m.rc (bytes_row (w.alloc (.cells nil.cells 25)) s hs) (by omega) hd
  rw [show (w.alloc (.cells nil.cells 25)).heap.size = w.heap.size + 1 by simp] at hD
  have kc := conv_str (w.alloc (.cells nil.cells 25)) s
  have HM := Lib.hid (MB.new w nil)
  have hlen : ∀ w' aN nN cN aT nT cT, RecAt w' m.rc aN nN cN aT nT cT → nN = 10 ∧ nT = 2 := fun w' aN nN cN aT nT cT h => ⟨by have := h.lenN; simpa [Mg.rc, Mg.nums] using this, by have := h.lenT; simpa [Mg.rc, Mg.texts] using this⟩
  have HLen := Lib.hid hlen
  have HRC := Lib.hid (fun (w' : World) aN cN aT cT (h : RecAt w' m.rc aN 10 cN aT 2 cT) => rec_cells h)
  have hk : m.rc.kind = m.kind := rfl
  rw [hk] at hD
  clear hd hs hlen hk
  generalize m.rc = r at *
  obtain ⟨kind, epoch, seq, n, block, client, e, t0, t1, t2, t3, data, row⟩ := m
  simp only [nil, Mg.cells] at kc hD
  simp only at h3 h4 h5
  have W3 := Lib.hid (fun w' => rwithin_yes w' (k := block) (low := -1) (high := 31) h3)
  clear h3
  have W4 := Lib.hid (fun w' => rwithin_yes w' (k := client) (low := -1) (high := 3) h4)
  clear h4
  have W5 := Lib.hid (fun w' => rwithin_no w' (k := e) (low := 0) (high := 31) h5)
  clear h5
  have HD := Lib.hid hD
  clear hD
  go_enter Try.func14, Try.ntmps14
  go_wp2_with (first
    | (go_at_call 22; with_reducible refine HD.out.mono ?_; rintro e1 w1 ⟨aN, nN, cN, aT, nT, cT, rfl, hr, hb⟩
       obtain ⟨rfl, rfl⟩ := HLen.out _ _ _ _ _ _ _ hr
       obtain ⟨b, off, b2, off2, rfl, rfl, hmc, g1, g2, g3, g4⟩ := HRC.out _ _ _ _ _ hr
       have HB := Lib.hid ((bytes_below (w.alloc (.cells nil.cells 25)) s).trans (Below.mono hb (bytes_below (w.alloc (.cells nil.cells 25)) s).size))
       have HBX := Lib.hid (HB.out.alloc HB.out.size (.cells #[.int .i64 kind, .slice (some ⟨b, off, none⟩) 10 cN, .slice (some ⟨b2, off2, none⟩) 2 cT] 39))
       have HMX := Lib.hid (HM.out.below HBX.out (by simp))
       obtain ⟨z0, z1, z2, z3, z4, z5, z6, z7, z8, z9, z10, z11, z12⟩ := HMX.out.cells
       have zf := HMX.out.fz
       have hmc2 := hmc.below ((Below.refl w1.heap.size w1).alloc (Nat.le_refl _) (.cells #[.int .i64 kind, .slice (some ⟨b, off, none⟩) 10 cN, .slice (some ⟨b2, off2, none⟩) 2 cT] 39))
       have n3 := hmc2.e3
       have n4 := hmc2.e4
       have n5 := hmc2.e5
       simp only at n3 n4 n5
       clear hb hmc hmc2 hr)
    | (go_at_call 19; with_reducible refine (W3.out _).mono ?_; rintro ew0 ww0 ⟨rfl, rfl⟩)
    | (go_at_call 19; with_reducible refine (W4.out _).mono ?_; rintro ew1 ww1 ⟨rfl, rfl⟩)
    | (go_at_call 19; with_reducible refine (W5.out _).mono ?_; rintro ew2 ww2 ⟨rfl, rfl⟩))
  exact ret_msg2 (m := nil) Try.results14 rfl rfl rfl (mb_set' HMX.out) ⟨rfl, sets_below (o := 0) (((Below.refl _ _).alloc (Nat.le_refl _) _).trans (HBX.out.mono (by simp))) nil.cells.toList (Nat.le_refl _)⟩

def outV (m : Mg) : Bool → Value
  | true => .tuple #[msgV m, .int .i64 0]
  | false => .tuple #[msgV nil, .int .i64 4]
set_option maxHeartbeats 8000000 in
theorem refdec_last (w : World) (s : ByteArray) (hs : s.size ≤ 65536) (m : Mg) (hd : C.M.dec s.data.toList = some m.rc) (h3 : (-1 ≤ m.block ∧ m.block ≤ 31)) (h4 : (-1 ≤ m.client ∧ m.client ≤ 3)) (h5 : (0 ≤ m.e ∧ m.e ≤ 31)) (z : Bool) (hz : may m = z) : Calls Try.prog 14 #[.string s] w fun e w' => e = .returned (outV m z) ∧ Below w.heap.size w w' := by
  have hD := rdec_ok (Lib.bytesWorld (w.alloc (.cells nil.cells 25)) 5 s) _ _ _ _ m.rc (bytes_row (w.alloc (.cells nil.cells 25)) s hs) (by omega) hd
  rw [show (w.alloc (.cells nil.cells 25)).heap.size = w.heap.size + 1 by simp] at hD
  have kc := conv_str (w.alloc (.cells nil.cells 25)) s
  have HM := Lib.hid (MB.new w nil)
  have HMy := Lib.hid (fun w' => refmay_any w' m)
  rw [hz] at HMy
  have hlen : ∀ w' aN nN cN aT nT cT, RecAt w' m.rc aN nN cN aT nT cT → nN = 10 ∧ nT = 2 := fun w' aN nN cN aT nT cT h => ⟨by have := h.lenN; simpa [Mg.rc, Mg.nums] using this, by have := h.lenT; simpa [Mg.rc, Mg.texts] using this⟩
  have HLen := Lib.hid hlen
  have HRC := Lib.hid (fun (w' : World) aN cN aT cT (h : RecAt w' m.rc aN 10 cN aT 2 cT) => rec_cells h)
  have hk : m.rc.kind = m.kind := rfl
  rw [hk] at hD
  clear hd hs hlen hk hz
  generalize m.rc = r at *
  obtain ⟨kind, epoch, seq, n, block, client, e, t0, t1, t2, t3, data, row⟩ := m
  simp only [nil, Mg.cells] at kc hD
  simp only [msgV, Mg.cells] at HMy
  simp only at h3 h4 h5
  have W3 := Lib.hid (fun w' => rwithin_yes w' (k := block) (low := -1) (high := 31) h3)
  have W4 := Lib.hid (fun w' => rwithin_yes w' (k := client) (low := -1) (high := 3) h4)
  have W5 := Lib.hid (fun w' => rwithin_yes w' (k := e) (low := 0) (high := 31) h5)
  clear h3 h4 h5
  have HD := Lib.hid hD
  clear hD
  go_enter Try.func14, Try.ntmps14
  go_wp2_with (first
    | (go_at_call 22; with_reducible refine HD.out.mono ?_; rintro e1 w1 ⟨aN, nN, cN, aT, nT, cT, rfl, hr, hb⟩
       obtain ⟨rfl, rfl⟩ := HLen.out _ _ _ _ _ _ _ hr
       obtain ⟨b, off, b2, off2, rfl, rfl, hmc, g1, g2, g3, g4⟩ := HRC.out _ _ _ _ _ hr
       have HB := Lib.hid ((bytes_below (w.alloc (.cells nil.cells 25)) s).trans (Below.mono hb (bytes_below (w.alloc (.cells nil.cells 25)) s).size))
       have HBX := Lib.hid (HB.out.alloc HB.out.size (.cells #[.int .i64 kind, .slice (some ⟨b, off, none⟩) 10 cN, .slice (some ⟨b2, off2, none⟩) 2 cT] 39))
       have HMX := Lib.hid (HM.out.below HBX.out (by simp))
       have HMC := Lib.hid (hmc.below ((Below.refl w1.heap.size w1).alloc (Nat.le_refl _) (.cells #[.int .i64 kind, .slice (some ⟨b, off, none⟩) 10 cN, .slice (some ⟨b2, off2, none⟩) 2 cT] 39)))
       have n3 := HMC.out.e3
       have n4 := HMC.out.e4
       have n5 := HMC.out.e5
       simp only at n3 n4 n5
       clear hb hmc hr)
    | (go_at_call 19; with_reducible refine (W3.out _).mono ?_; rintro ew0 ww0 ⟨rfl, rfl⟩)
    | (go_at_call 19; with_reducible refine (W4.out _).mono ?_; rintro ew1 ww1 ⟨rfl, rfl⟩)
    | (go_at_call 19; with_reducible refine (W5.out _).mono ?_; rintro ew2 ww2 ⟨rfl, rfl⟩))
  have hR : w1.heap.size < (w1.alloc (.cells #[.int .i64 kind, .slice (some ⟨b, off, none⟩) 10 cN, .slice (some ⟨b2, off2, none⟩) 2 cT] 39)).heap.size := by simp
  have hr0 : (w1.alloc (.cells #[.int .i64 kind, .slice (some ⟨b, off, none⟩) 10 cN, .slice (some ⟨b2, off2, none⟩) 2 cT] 39)).cell? ⟨w1.heap.size, 0, none⟩ = some (.int .i64 kind) := by rw [World.cell?_alloc_mark]; rfl
  have hr2 : (w1.alloc (.cells #[.int .i64 kind, .slice (some ⟨b, off, none⟩) 10 cN, .slice (some ⟨b2, off2, none⟩) 2 cT] 39)).cell? ⟨w1.heap.size, 2, none⟩ = some (.slice (some ⟨b2, off2, none⟩) 2 cT) := by rw [World.cell?_alloc_mark]; rfl
  clear n3 n4 n5 W3 W4 W5 HB
  generalize w1.alloc (.cells #[.int .i64 kind, .slice (some ⟨b, off, none⟩) 10 cN, .slice (some ⟨b2, off2, none⟩) 2 cT] 39) = w2 at *
  generalize w1.heap.size = R at *
  have SX : Hid (∀ w', Below w2.heap.size w2 w' → w'.cell? ⟨R, 0, none⟩ = some (.int .i64 kind) ∧ w'.cell? ⟨R, 2, none⟩ = some (.slice (some ⟨b2, off2, none⟩) 2 cT) ∧ w'.cell? ⟨b, off, none⟩ = some (.int .i64 epoch) ∧ w'.cell? ⟨b, off + 1, none⟩ = some (.int .i64 seq) ∧ w'.cell? ⟨b, off + 2, none⟩ = some (.int .i64 n) ∧ w'.cell? ⟨b, off + 3, none⟩ = some (.int .i64 block) ∧ w'.cell? ⟨b, off + 4, none⟩ = some (.int .i64 client) ∧ w'.cell? ⟨b, off + 5, none⟩ = some (.int .i64 e) ∧ w'.cell? ⟨b, off + 6, none⟩ = some (.int .i64 t0) ∧ w'.cell? ⟨b, off + 7, none⟩ = some (.int .i64 t1) ∧ w'.cell? ⟨b, off + 8, none⟩ = some (.int .i64 t2) ∧ w'.cell? ⟨b, off + 9, none⟩ = some (.int .i64 t3) ∧ w'.cell? ⟨b2, off2, none⟩ = some (.string data) ∧ w'.cell? ⟨b2, off2 + 1, none⟩ = some (.string row)) := Lib.hid fun w' hb => by
    have hm := HMC.out.below hb
    exact ⟨(hb.cell hR).trans hr0, (hb.cell hR).trans hr2, hm.e0, hm.e1, hm.e2, hm.e3, hm.e4, hm.e5, hm.e6, hm.e7, hm.e8, hm.e9, hm.s0, hm.s1⟩
  obtain ⟨a0, a2, e0, e1, e2, e3, e4, e5, e6, e7, e8, e9, s0, s1⟩ := SX.out w2 (Below.refl _ _)
  have SD := Lib.hid (SX.out w2.drew (Below.refl _ _).drew)
  have SA := Lib.hid (SX.out _ ((Below.drew (Below.refl _ w2)).alloc (Nat.le_refl _) (.cells #[.int .i64 0, .int .i64 0, .int .i64 0, .int .i64 0, .int .i64 0, .int .i64 0, .int .i64 0, .int .i64 0, .int .i64 0, .int .i64 0, .int .i64 0, .string ⟨#[]⟩, .string ⟨#[]⟩] 25)))
  go_cut [7] (fun p wx => ∃ g, p = .pointer (some ⟨g, 0, none⟩) ∧ MB wx g ⟨kind, epoch, seq, n, block, client, e, t0, t1, t2, t3, data, row⟩ ∧ w2.heap.size ≤ g ∧ Below w2.heap.size w2 wx)
  case first =>
    go_region_held3 (fun w' => w'.cell? ⟨R, 0, none⟩ = some (.int .i64 kind) ∧ w'.cell? ⟨R, 2, none⟩ = some (.slice (some ⟨b2, off2, none⟩) 2 cT) ∧ w'.cell? ⟨b, off, none⟩ = some (.int .i64 epoch) ∧ w'.cell? ⟨b, off + 1, none⟩ = some (.int .i64 seq) ∧ w'.cell? ⟨b, off + 2, none⟩ = some (.int .i64 n) ∧ w'.cell? ⟨b, off + 3, none⟩ = some (.int .i64 block) ∧ w'.cell? ⟨b, off + 4, none⟩ = some (.int .i64 client) ∧ w'.cell? ⟨b, off + 5, none⟩ = some (.int .i64 e) ∧ w'.cell? ⟨b, off + 6, none⟩ = some (.int .i64 t0) ∧ w'.cell? ⟨b, off + 7, none⟩ = some (.int .i64 t1) ∧ w'.cell? ⟨b, off + 8, none⟩ = some (.int .i64 t2) ∧ w'.cell? ⟨b, off + 9, none⟩ = some (.int .i64 t3) ∧ w'.cell? ⟨b2, off2, none⟩ = some (.string data) ∧ w'.cell? ⟨b2, off2 + 1, none⟩ = some (.string row))
      (first
        | with_reducible exact SD.out
        | with_reducible exact SA.out
        | (go_keep; done))
      (fail)
    all_goals
      go_wp2_with fail
      go_meet
      exact ⟨w2.heap.size, rfl, MB.new w2 ⟨kind, epoch, seq, n, block, client, e, t0, t1, t2, t3, data, row⟩, Nat.le_refl _, ((Below.refl _ _).alloc (Nat.le_refl _) _).drew⟩
  case rest =>
    obtain ⟨g, rfl, hmb, hg, hbc⟩ := hcut
    have HMg := Lib.hid hmb
    have HBc := Lib.hid (HBX.out.trans (Below.mono hbc HBX.out.size))
    obtain ⟨k0, k1, k2, k3, k4, k5, k6, k7, k8, k9, k10, k11, k12⟩ := hmb.cells
    simp only at k0 k1 k2 k3 k4 k5 k6 k7 k8 k9 k10 k11 k12
    clear hmb hbc a0 a2 e0 e1 e2 e3 e4 e5 e6 e7 e8 e9 s0 s1 SD SA hr0 hr2
    cases z
    all_goals
      go_wp2_with (go_at_call 12; with_reducible refine (HMy.out _).mono ?_; rintro e3 w3 ⟨rfl, hb⟩
                   have HB3 := Lib.hid (HBc.out.trans (Below.mono hb HBc.out.size))
                   have HM3 := Lib.hid (HM.out.below HB3.out (by simp))
                   have HG3 := Lib.hid (HMg.out.below hb HMg.out.lt)
                   clear k0 k1 k2 k3 k4 k5 k6 k7 k8 k9 k10 k11 k12
                   obtain ⟨k0, k1, k2, k3, k4, k5, k6, k7, k8, k9, k10, k11, k12⟩ := HG3.out.cells
                   simp only at k0 k1 k2 k3 k4 k5 k6 k7 k8 k9 k10 k11 k12
                   obtain ⟨z0, z1, z2, z3, z4, z5, z6, z7, z8, z9, z10, z11, z12⟩ := HM3.out.cells
                   have zf := HM3.out.fz
                   clear hb)
    · exact ret_msg2 (m := nil) Try.results14 rfl rfl rfl (mb_set' HM3.out) ⟨rfl, sets_below (o := 0) (((Below.refl _ _).alloc (Nat.le_refl _) _).trans (HB3.out.mono (by simp))) nil.cells.toList (Nat.le_refl _)⟩
    · exact ret_msg2 (m := ⟨kind, epoch, seq, n, block, client, e, t0, t1, t2, t3, data, row⟩) Try.results14 rfl rfl rfl (mb_set' HM3.out) ⟨rfl, sets_below (o := 0) (((Below.refl _ _).alloc (Nat.le_refl _) _).trans (HB3.out.mono (by simp))) (Mg.cells ⟨kind, epoch, seq, n, block, client, e, t0, t1, t2, t3, data, row⟩).toList (Nat.le_refl _)⟩

def readV (o : Option Mg) : Value :=
  match o with
  | some m => .tuple #[msgV m, .int .i64 0]
  | none => .tuple #[msgV nil, .int .i64 4]
theorem may_small {m : Mg} (h : may m = true) : (-1 ≤ m.block ∧ m.block ≤ 31) ∧ (-1 ≤ m.client ∧ m.client ≤ 3) ∧ (0 ≤ m.e ∧ m.e ≤ 31) := by
  rw [may_iff] at h
  exact ⟨h.2.2.2.2.1, h.2.2.2.2.2.1, h.2.2.2.2.2.2.1⟩
theorem refdecode_any (w : World) (s : ByteArray) (hs : s.size ≤ 65536) : Calls Try.prog 14 #[.string s] w fun e w' => e = .returned (readV (read s.data.toList)) ∧ Below w.heap.size w w' := by
  cases hd : C.M.dec s.data.toList with
  | none =>
    have hr : read s.data.toList = none := by unfold read; rw [hd]
    rw [hr]; exact refdec_none w s hs hd
  | some r =>
    by_cases hc : r.nums.length = 10 ∧ r.texts.length = 2
    · obtain ⟨m, rfl⟩ := two_parts hc.1 hc.2
      have hr : read s.data.toList = if may m = true then some m else none := by
        unfold read; rw [hd]; rfl
      by_cases h3 : -1 ≤ m.block ∧ m.block ≤ 31
      · by_cases h4 : -1 ≤ m.client ∧ m.client ≤ 3
        · by_cases h5 : 0 ≤ m.e ∧ m.e ≤ 31
          · have := refdec_last w s hs m hd h3 h4 h5 _ rfl
            rw [hr]
            cases hm : may m with
            | true => rw [hm] at this; simpa [outV, readV] using this
            | false => rw [hm] at this; simpa [outV, readV] using this
          · rw [hr, if_neg (fun h => h5 (may_small h).2.2)]; exact refdec_e w s hs m hd h3 h4 h5
        · rw [hr, if_neg (fun h => h4 (may_small h).2.1)]; exact refdec_client w s hs m hd h3 h4
      · rw [hr, if_neg (fun h => h3 (may_small h).1)]; exact refdec_block w s hs m hd h3
    · have hi : ¬ isM r = true := fun h => by
        obtain ⟨m, rfl, _⟩ := isM_parts h
        exact hc ⟨rfl, rfl⟩
      have hr : read s.data.toList = none := by unfold read; rw [hd]; simp [hi]
      rw [hr]; exact refdec_count w s hs r hd hc
theorem decode_any (w : World) (s : ByteArray) (hs : s.size ≤ 65536) : Calls Try.prog 13 #[.string s] w fun e w' => e = .returned (readV (read s.data.toList)) ∧ Below w.heap.size w w' := by
  cases h : read s.data.toList with
  | none => exact decode_no w s hs h
  | some m => exact decode_yes w s hs m h
end Go.Proofs.Ytpggpgbkeafgnaa.Ml
