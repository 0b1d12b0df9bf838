/-
  The document's own cell in memory; what its Put tells, and what becomes of it and its device.
  What Open makes of the document's own cell; where neither the cell nor the document's own is opened.
  The document's own list in memory; what its Has and All tell.
  The document's own list: what set, Mark and Clear make of it.
  The document's own list: what Mark and Clear make of it.
  The document's own list: what Open makes.
-/
import Derived.Test.YtcofahpeinkhfaaGreatDrl3
import Derived.Test.YtcofahpeinkhfaaGreatJDRef
import Derived.Test.YtcofahpeinkhfaaGreatJRef
import Derived.Test.YtcofahpeinkhfaaGreatJBRef
namespace Go.Proofs.YtcofahpeinkhfaaGreat
open Go.RowKit
set_option linter.unusedVariables false
set_option linter.unusedSimpArgs false
set_option maxRecDepth 20000

variable {rB LB n : Nat} {d : M.Dv}

/-- the document's cell in memory: its own block; z tells which slot is the present one -/
structure RCell (w : World) (kB rB a b z : Nat) (c : M.Cl) : Prop where
  p0 : w.cell? ⟨kB, 0, none⟩ = some (.pointer (some ⟨rB, 0, none⟩))
  p1 : w.cell? ⟨kB, 1, none⟩ = some (.int .i64 (a : Int))
  p2 : w.cell? ⟨kB, 2, none⟩ = some (.int .i64 (b : Int))
  p3 : w.cell? ⟨kB, 3, none⟩ = some (.int .i64 (z : Int))
  p4 : w.cell? ⟨kB, 4, none⟩ = some (.int .i64 c.gen)
  p5 : w.cell? ⟨kB, 5, none⟩ = some (.string c.text)
  fz : ∀ o, w.frozen? ⟨kB, o, none⟩ = false

theorem RCell.lt {w : World} {kB rB a b z : Nat} {c : M.Cl} (h : RCell w kB rB a b z c) : kB < w.heap.size := World.block_lt_of_cell? w _ h.p0
theorem RCell.of_block {w w' : World} {kB rB a b z : Nat} {c : M.Cl} (h : RCell w kB rB a b z c) (hb : w'.heap[kB]? = w.heap[kB]?) : RCell w' kB rB a b z c where
  p0 := by rw [World.cell?_of_block (w := w) (a := ⟨kB, 0, none⟩) hb]; exact h.p0
  p1 := by rw [World.cell?_of_block (w := w) (a := ⟨kB, 1, none⟩) hb]; exact h.p1
  p2 := by rw [World.cell?_of_block (w := w) (a := ⟨kB, 2, none⟩) hb]; exact h.p2
  p3 := by rw [World.cell?_of_block (w := w) (a := ⟨kB, 3, none⟩) hb]; exact h.p3
  p4 := by rw [World.cell?_of_block (w := w) (a := ⟨kB, 4, none⟩) hb]; exact h.p4
  p5 := by rw [World.cell?_of_block (w := w) (a := ⟨kB, 5, none⟩) hb]; exact h.p5
  fz := fun o => by rw [World.frozen?_of_block (w := w) (a := ⟨kB, o, none⟩) hb]; exact h.fz o
theorem RCell.but {w w' : World} {kB rB a b z : Nat} {c : M.Cl} (h : RCell w kB rB a b z c) {l : List Nat} (hb : But l w w') (hn : kB ∉ l) : RCell w' kB rB a b z c := h.of_block (hb.block _ h.lt hn)
theorem RCell.below {w w' : World} {kB rB a b z B : Nat} {c : M.Cl} (h : RCell w kB rB a b z c) (hb : Below B w w') (hB : kB < B) : RCell w' kB rB a b z c := h.of_block (hb.block _ hB)

/-- which slot is the present one behind a put that tells e -/
def zN (e : Int) (y z : Nat) : Nat := if e = 0 then y else z
theorem zN_ok (y z : Nat) : zN 0 y z = y := if_pos rfl
theorem zN_no {e : Int} (h : e ≠ 0) (y z : Nat) : zN e y z = z := if_neg h

/-- the three last parts turned, one after another -/
theorem RCell.set {w : World} {kB rB a b z : Nat} {c : M.Cl} (h : RCell w kB rB a b z c) (y o : Nat) (g : Int) (t : ByteArray) :
    RCell (((w.setCell ⟨kB, 3, none⟩ (.int .i64 (y : Int))).setCell ⟨kB, 4, none⟩ (.int .i64 g)).setCell ⟨kB, 5, none⟩ (.string t)) kB rB a b y ⟨o, g, t⟩ where
  p0 := by rw [World.cell?_setCell_other _ _ _ _ (by simp), World.cell?_setCell_other _ _ _ _ (by simp), World.cell?_setCell_other _ _ _ _ (by simp)]; exact h.p0
  p1 := by rw [World.cell?_setCell_other _ _ _ _ (by simp), World.cell?_setCell_other _ _ _ _ (by simp), World.cell?_setCell_other _ _ _ _ (by simp)]; exact h.p1
  p2 := by rw [World.cell?_setCell_other _ _ _ _ (by simp), World.cell?_setCell_other _ _ _ _ (by simp), World.cell?_setCell_other _ _ _ _ (by simp)]; exact h.p2
  p3 := by
    rw [World.cell?_setCell_other _ _ _ _ (by simp), World.cell?_setCell_other _ _ _ _ (by simp)]
    exact World.cell?_setCell_same _ _ _ h.p3
  p4 := by
    rw [World.cell?_setCell_other _ _ _ _ (by simp)]
    exact World.cell?_setCell_same _ _ _ (show _ = some (Value.int .i64 c.gen) by rw [World.cell?_setCell_other _ _ _ _ (by simp)]; exact h.p4)
  p5 := World.cell?_setCell_same _ _ _ (show _ = some (Value.string c.text) by rw [World.cell?_setCell_other _ _ _ _ (by simp), World.cell?_setCell_other _ _ _ _ (by simp)]; exact h.p5)
  fz := fun o => by rw [World.frozen?_setCell, World.frozen?_setCell, World.frozen?_setCell]; exact h.fz o

theorem rput_seq (w : World) {kB a b z : Nat} {c : M.Cl} (hc : RCell w kB rB a b z c) (hg : c.gen = 4611686018427387904) (t : ByteArray) (ht : t.size ≤ 100) :
    Calls Tryz.prog 63 #[.pointer (some ⟨kB, 0, none⟩), .string t] w fun e w' => e = .returned (.int .i64 23) ∧ w = w' := by
  have p4 := hc.p4
  rw [hg] at p4
  have h' : (t.size : Int) ≤ 100 := by omega
  clear hc hg ht
  go_enter Tryz.func63, Tryz.ntmps63
  go_wp2
  go_ret
  exact ⟨rfl, rfl⟩

set_option maxHeartbeats 4000000 in
theorem rput_0 (w : World) (h : RefAt w rB LB n d) (kB a b z : Nat) (g : Int) (t0 : ByteArray) (hc : RCell w kB rB a b z ⟨0, g, t0⟩) (hz : z = 0 ∨ z = 2) (hs : kB ≠ rB ∧ kB ≠ LB) (hg : 0 ≤ g ∧ g < 4611686018427387904) (hab : a ≤ 1000 ∧ b ≤ 1000) (t : ByteArray) (ht : t.size ≤ 100) :
    Calls Tryz.prog 63 #[.pointer (some ⟨kB, 0, none⟩), .string t] w fun e w' => e = .returned (.int .i64 (M.putE n d a (M.slot (g + 1) t))) ∧ RefAt w' rB LB n (M.putD n d a (M.slot (g + 1) t)) ∧
      RCell w' kB rB a b (zN (M.putE n d a (M.slot (g + 1) t)) 1 z) (M.putC (M.putE n d a (M.slot (g + 1) t)) ⟨0, g, t0⟩ t) ∧ But [rB, LB, kB] w w' := by
  have hm : M.MayS (g + 1) t := ⟨by omega, by omega, ht⟩
  have hwr : IntKind.i64.wrap (g + 1) = g + 1 := by
    obtain ⟨h0, h1⟩ := hg
    simp [IntKind.wrap, IntKind.bits, IntKind.signed]; omega
  have HS := Lib.hid (refslot_yes w.drew (g + 1) t hm)
  rw [show Calls Tryz.prog 74 #[.int .i64 (g + 1), .string t] w.drew = Calls Tryz.prog 74 #[.int .i64 (IntKind.i64.wrap (g + 1)), .string t] w.drew by rw [hwr]] at HS
  clear hwr
  have HLn := Lib.hid (M.slot_small hm)
  have HD := Lib.hid h
  have HC := Lib.hid hc
  have Hs := Lib.hid hs
  have Hg := Lib.hid hg
  have m0 := hc.p0
  have m1 := hc.p1
  have m2 := hc.p2
  have m3 : w.cell? ⟨kB, 3, none⟩ = some (.int .i64 (z : Int)) := hc.p3
  have m4 : w.cell? ⟨kB, 4, none⟩ = some (.int .i64 g) := hc.p4
  have hzne : ((z : Int) == 1) = false := by rw [beq_eq_false_iff_ne]; omega
  have hx0 : (0 : Int) ≤ (a : Int) := by omega
  have hx1 : (a : Int) ≤ 1000 := by omega
  have ht' : (t.size : Int) ≤ 100 := by omega
  have hgne : (g == 4611686018427387904) = false := by rw [beq_eq_false_iff_ne]; omega
  obtain ⟨hg0, hg1⟩ := hg
  generalize M.slot (g + 1) t = sl at *
  clear h hc hs hm hab ht
  go_enter Tryz.func63, Tryz.ntmps63
  go_wp2_with fail
  go_region_held3 (fun w' => w'.cell? ⟨kB, 0, none⟩ = some (.pointer (some ⟨rB, 0, none⟩)) ∧ w'.cell? ⟨kB, 4, none⟩ = some (.int .i64 g))
    (first
      | exact ⟨m0, m4⟩
      | exact ⟨HC1.out.p0, HC1.out.p4⟩
      | exact ⟨HC2.out.p0, HC2.out.p4⟩)
    (first
      | (go_at_call 74; refine HS.out.mono ?_; rintro e w1 ⟨aS, capS, rfl, ho, hb⟩
         have Ho := Lib.hid ho
         have Hb := Lib.hid hb
         have HC1 := Lib.hid ((HC.out.of_block (w' := w.drew) rfl).below hb HC.out.lt)
         have HD1 := Lib.hid (HD.out.drew.but (But.of_below hb) (by simp) (by simp))
         clear ho hb)
      | (go_at_call 20; refine (rwrite_any w1 HD1.out (a : Int) (by omega) (by omega) _ _ _ sl Ho.out.row (.inr fun b off e => by have := (Ho.out.at b off e).1; have := HD.out.drew.ltR; simp; omega)).mono ?_; rintro e w2 ⟨rfl, hd2, hb2⟩
         have HD2 := Lib.hid hd2
         have HB2 : Hid (But [rB, LB, kB] w w2) := Lib.hid ((((But.refl _ w).drew).trans ((But.of_below Hb.out).mono (by simp))).trans (hb2.mono (by simp)))
         have HC2 := Lib.hid (HC1.out.but hb2 (by have := Hs.out; simp; omega))
         clear hd2 hb2))
  by_cases e1 : M.writeE n d (a : Int) sl = 0
  · have HE1 := Lib.hid e1
    have n0 := HC2.out.p0
    rw [e1]
    clear e1 m0 m1 m2 m3 m4 HC1 HD1
    have HBa := Lib.hid (rbarrier_any w2 HD2.out)
    generalize hbe : M.barrierE (M.writeD n d (a : Int) sl) = e2 at HBa
    have HE2 := Lib.hid hbe
    clear hbe
    go_wp2_with fail
    refine HBa.out.mono ?_
    rintro e w3 ⟨rfl, hd3, hb3⟩
    have HD3 := Lib.hid hd3
    have HB3 : Hid (But [rB, LB, kB] w w3) := Lib.hid (HB2.out.trans (hb3.mono (by simp)))
    have HC3 := Lib.hid (HC2.out.but hb3 (by have := Hs.out; simp; omega))
    have hpd : M.putD n d a sl = M.barrierD (M.writeD n d (a : Int) sl) := by unfold M.putD; rw [if_pos HE1.out]
    have hpe : M.putE n d a sl = e2 := by unfold M.putE; rw [if_pos HE1.out]; exact HE2.out
    have HPd := Lib.hid hpd
    have HPe := Lib.hid hpe
    clear hd3 hb3 n0 hpd hpe
    by_cases hz : e2 = 0
    · subst hz
      have k3 : w3.cell? ⟨kB, 3, none⟩ = some (.int .i64 (z : Int)) := HC3.out.p3
      have k4 : w3.cell? ⟨kB, 4, none⟩ = some (.int .i64 g) := HC3.out.p4
      have k5 := HC3.out.p5
      have f3 := HC3.out.fz 3
      have f4 := HC3.out.fz 4
      have f5 := HC3.out.fz 5
      go_wp2_with fail
      have HK := Lib.hid (HC3.out.set 1 (1 - 0) (g + 1) t)
      have HKB : Hid (But [rB, LB, kB] w (((w3.setCell ⟨kB, 3, none⟩ (.int .i64 1)).setCell ⟨kB, 4, none⟩ (.int .i64 (g + 1))).setCell ⟨kB, 5, none⟩ (.string t))) := Lib.hid (((HB3.out.set _ (.inl (by simp))).set _ (.inl (by simp))).set _ (.inl (by simp)))
      have HKD : Hid (RefAt (((w3.setCell ⟨kB, 3, none⟩ (.int .i64 1)).setCell ⟨kB, 4, none⟩ (.int .i64 (g + 1))).setCell ⟨kB, 5, none⟩ (.string t)) rB LB n (M.barrierD (M.writeD n d (a : Int) sl))) := Lib.hid (HD3.out.but ((((But.refl [kB] w3).set _ (.inl (by simp))).set _ (.inl (by simp))).set _ (.inl (by simp))) (by have := Hs.out; simp; omega) (by have := Hs.out; simp; omega))
      go_ret
      exact ⟨by rw [HPe.out]; rfl, by rw [HPd.out]; exact HKD.out, by rw [HPe.out, M.putC_ok, zN_ok]; exact HK.out, HKB.out⟩
    · have hz1 : (e2 == 0) = false := by simpa using hz
      have Hz := Lib.hid hz
      clear hz
      go_wp2_with fail
      go_ret
      exact ⟨by rw [HPe.out]; rfl, by rw [HPd.out]; exact HD3.out, by rw [HPe.out, M.putC_no Hz.out, zN_no Hz.out]; exact HC3.out, HB3.out⟩
  · have hpe : M.putE n d a sl = M.writeE n d (a : Int) sl := by unfold M.putE; rw [if_neg e1]
    have hpd : M.putD n d a sl = M.writeD n d (a : Int) sl := by unfold M.putD; rw [if_neg e1]
    have HPd := Lib.hid hpd
    have HPe := Lib.hid hpe
    have He1 := Lib.hid e1
    clear hpe hpd
    generalize M.writeE n d (a : Int) sl = e3 at *
    have hz1 : (e3 == 0) = false := by simpa using e1
    clear e1
    go_wp2_with fail
    go_ret
    exact ⟨by rw [HPe.out]; rfl, by rw [HPd.out]; exact HD2.out, by rw [HPe.out, M.putC_no He1.out, zN_no He1.out]; exact HC2.out, HB2.out⟩

set_option maxHeartbeats 4000000 in
theorem rput_1 (w : World) (h : RefAt w rB LB n d) (kB a b : Nat) (g : Int) (t0 : ByteArray) (hc : RCell w kB rB a b 1 ⟨1, g, t0⟩) (hs : kB ≠ rB ∧ kB ≠ LB) (hg : 0 ≤ g ∧ g < 4611686018427387904) (hab : a ≤ 1000 ∧ b ≤ 1000) (t : ByteArray) (ht : t.size ≤ 100) :
    Calls Tryz.prog 63 #[.pointer (some ⟨kB, 0, none⟩), .string t] w fun e w' => e = .returned (.int .i64 (M.putE n d b (M.slot (g + 1) t))) ∧ RefAt w' rB LB n (M.putD n d b (M.slot (g + 1) t)) ∧
      RCell w' kB rB a b (zN (M.putE n d b (M.slot (g + 1) t)) 2 1) (M.putC (M.putE n d b (M.slot (g + 1) t)) ⟨1, g, t0⟩ t) ∧ But [rB, LB, kB] w w' := by
  have hm : M.MayS (g + 1) t := ⟨by omega, by omega, ht⟩
  have hwr : IntKind.i64.wrap (g + 1) = g + 1 := by
    obtain ⟨h0, h1⟩ := hg
    simp [IntKind.wrap, IntKind.bits, IntKind.signed]; omega
  have HS := Lib.hid (refslot_yes w.drew (g + 1) t hm)
  rw [show Calls Tryz.prog 74 #[.int .i64 (g + 1), .string t] w.drew = Calls Tryz.prog 74 #[.int .i64 (IntKind.i64.wrap (g + 1)), .string t] w.drew by rw [hwr]] at HS
  clear hwr
  have HLn := Lib.hid (M.slot_small hm)
  have HD := Lib.hid h
  have HC := Lib.hid hc
  have Hs := Lib.hid hs
  have Hg := Lib.hid hg
  have m0 := hc.p0
  have m1 := hc.p1
  have m2 := hc.p2
  have m3 : w.cell? ⟨kB, 3, none⟩ = some (.int .i64 1) := hc.p3
  have m4 : w.cell? ⟨kB, 4, none⟩ = some (.int .i64 g) := hc.p4
  have hx0 : (0 : Int) ≤ (b : Int) := by omega
  have hx1 : (b : Int) ≤ 1000 := by omega
  have ht' : (t.size : Int) ≤ 100 := by omega
  have hgne : (g == 4611686018427387904) = false := by rw [beq_eq_false_iff_ne]; omega
  obtain ⟨hg0, hg1⟩ := hg
  generalize M.slot (g + 1) t = sl at *
  clear h hc hs hm hab ht
  go_enter Tryz.func63, Tryz.ntmps63
  go_wp2_with fail
  go_region_held3 (fun w' => w'.cell? ⟨kB, 0, none⟩ = some (.pointer (some ⟨rB, 0, none⟩)) ∧ w'.cell? ⟨kB, 4, none⟩ = some (.int .i64 g))
    (first
      | exact ⟨m0, m4⟩
      | exact ⟨HC1.out.p0, HC1.out.p4⟩
      | exact ⟨HC2.out.p0, HC2.out.p4⟩)
    (first
      | (go_at_call 74; refine HS.out.mono ?_; rintro e w1 ⟨aS, capS, rfl, ho, hb⟩
         have Ho := Lib.hid ho
         have Hb := Lib.hid hb
         have HC1 := Lib.hid ((HC.out.of_block (w' := w.drew) rfl).below hb HC.out.lt)
         have HD1 := Lib.hid (HD.out.drew.but (But.of_below hb) (by simp) (by simp))
         clear ho hb)
      | (go_at_call 20; refine (rwrite_any w1 HD1.out (b : Int) (by omega) (by omega) _ _ _ sl Ho.out.row (.inr fun b off e => by have := (Ho.out.at b off e).1; have := HD.out.drew.ltR; simp; omega)).mono ?_; rintro e w2 ⟨rfl, hd2, hb2⟩
         have HD2 := Lib.hid hd2
         have HB2 : Hid (But [rB, LB, kB] w w2) := Lib.hid ((((But.refl _ w).drew).trans ((But.of_below Hb.out).mono (by simp))).trans (hb2.mono (by simp)))
         have HC2 := Lib.hid (HC1.out.but hb2 (by have := Hs.out; simp; omega))
         clear hd2 hb2))
  by_cases e1 : M.writeE n d (b : Int) sl = 0
  · have HE1 := Lib.hid e1
    have n0 := HC2.out.p0
    rw [e1]
    clear e1 m0 m1 m2 m3 m4 HC1 HD1
    have HBa := Lib.hid (rbarrier_any w2 HD2.out)
    generalize hbe : M.barrierE (M.writeD n d (b : Int) sl) = e2 at HBa
    have HE2 := Lib.hid hbe
    clear hbe
    go_wp2_with fail
    refine HBa.out.mono ?_
    rintro e w3 ⟨rfl, hd3, hb3⟩
    have HD3 := Lib.hid hd3
    have HB3 : Hid (But [rB, LB, kB] w w3) := Lib.hid (HB2.out.trans (hb3.mono (by simp)))
    have HC3 := Lib.hid (HC2.out.but hb3 (by have := Hs.out; simp; omega))
    have hpd : M.putD n d b sl = M.barrierD (M.writeD n d (b : Int) sl) := by unfold M.putD; rw [if_pos HE1.out]
    have hpe : M.putE n d b sl = e2 := by unfold M.putE; rw [if_pos HE1.out]; exact HE2.out
    have HPd := Lib.hid hpd
    have HPe := Lib.hid hpe
    clear hd3 hb3 n0 hpd hpe
    by_cases hz : e2 = 0
    · subst hz
      have k3 : w3.cell? ⟨kB, 3, none⟩ = some (.int .i64 1) := HC3.out.p3
      have k4 : w3.cell? ⟨kB, 4, none⟩ = some (.int .i64 g) := HC3.out.p4
      have k5 := HC3.out.p5
      have f3 := HC3.out.fz 3
      have f4 := HC3.out.fz 4
      have f5 := HC3.out.fz 5
      go_wp2_with fail
      have HK := Lib.hid (HC3.out.set 2 (1 - 1) (g + 1) t)
      have HKB : Hid (But [rB, LB, kB] w (((w3.setCell ⟨kB, 3, none⟩ (.int .i64 2)).setCell ⟨kB, 4, none⟩ (.int .i64 (g + 1))).setCell ⟨kB, 5, none⟩ (.string t))) := Lib.hid (((HB3.out.set _ (.inl (by simp))).set _ (.inl (by simp))).set _ (.inl (by simp)))
      have HKD : Hid (RefAt (((w3.setCell ⟨kB, 3, none⟩ (.int .i64 2)).setCell ⟨kB, 4, none⟩ (.int .i64 (g + 1))).setCell ⟨kB, 5, none⟩ (.string t)) rB LB n (M.barrierD (M.writeD n d (b : Int) sl))) := Lib.hid (HD3.out.but ((((But.refl [kB] w3).set _ (.inl (by simp))).set _ (.inl (by simp))).set _ (.inl (by simp))) (by have := Hs.out; simp; omega) (by have := Hs.out; simp; omega))
      go_ret
      exact ⟨by rw [HPe.out]; rfl, by rw [HPd.out]; exact HKD.out, by rw [HPe.out, M.putC_ok, zN_ok]; exact HK.out, HKB.out⟩
    · have hz1 : (e2 == 0) = false := by simpa using hz
      have Hz := Lib.hid hz
      clear hz
      go_wp2_with fail
      go_ret
      exact ⟨by rw [HPe.out]; rfl, by rw [HPd.out]; exact HD3.out, by rw [HPe.out, M.putC_no Hz.out, zN_no Hz.out]; exact HC3.out, HB3.out⟩
  · have hpe : M.putE n d b sl = M.writeE n d (b : Int) sl := by unfold M.putE; rw [if_neg e1]
    have hpd : M.putD n d b sl = M.writeD n d (b : Int) sl := by unfold M.putD; rw [if_neg e1]
    have HPd := Lib.hid hpd
    have HPe := Lib.hid hpe
    have He1 := Lib.hid e1
    clear hpe hpd
    generalize M.writeE n d (b : Int) sl = e3 at *
    have hz1 : (e3 == 0) = false := by simpa using e1
    clear e1
    go_wp2_with fail
    go_ret
    exact ⟨by rw [HPe.out]; rfl, by rw [HPd.out]; exact HD2.out, by rw [HPe.out, M.putC_no He1.out, zN_no He1.out]; exact HC2.out, HB2.out⟩

/-- which slot is the present one, and which one is written next -/
def ZO (z o : Nat) : Prop := (z = 1 ∧ o = 1) ∨ ((z = 0 ∨ z = 2) ∧ o = 0)

theorem rput_all (w : World) (h : RefAt w rB LB n d) (kB a b z : Nat) (c : M.Cl) (hc : RCell w kB rB a b z c) (hz : ZO z c.o) (hs : kB ≠ rB ∧ kB ≠ LB) (hg : 0 ≤ c.gen ∧ c.gen ≤ 4611686018427387904) (hab : a ≤ 1000 ∧ b ≤ 1000) (t : ByteArray) (ht : t.size ≤ 100) :
    Calls Tryz.prog 63 #[.pointer (some ⟨kB, 0, none⟩), .string t] w fun e w' => e = .returned (.int .i64 (M.puE n d a b c t)) ∧ RefAt w' rB LB n (M.puD n d a b c t) ∧
      (∃ z', ZO z' (M.puC n d a b c t).o ∧ RCell w' kB rB a b z' (M.puC n d a b c t)) ∧ But [rB, LB, kB] w w' := by
  unfold M.puE M.puD M.puC
  by_cases hq : c.gen = 4611686018427387904
  · rw [if_pos hq, if_pos hq, if_pos hq]
    refine (rput_seq w hc hq t ht).mono ?_
    rintro e w' ⟨rfl, rfl⟩
    exact ⟨rfl, h, ⟨z, hz, hc⟩, But.refl _ _⟩
  · rw [if_neg hq, if_neg hq, if_neg hq]
    obtain ⟨o, g, t0⟩ := c
    simp only at hz hg hq ⊢
    rcases hz with ⟨rfl, rfl⟩ | ⟨hz, rfl⟩
    · refine (rput_1 w h kB a b g t0 hc hs ⟨hg.1, by omega⟩ hab t ht).mono ?_
      rintro e w' ⟨rfl, h1, h2, h3⟩
      refine ⟨rfl, h1, ⟨_, ?_, h2⟩, h3⟩
      change ZO _ (M.putC (M.putE n d b (M.slot (g + 1) t)) ⟨1, g, t0⟩ t).o
      by_cases he : M.putE n d b (M.slot (g + 1) t) = 0
      · rw [he, zN_ok, M.putC_ok]; exact .inr ⟨.inr rfl, rfl⟩
      · rw [zN_no he, M.putC_no he]; exact .inl ⟨rfl, rfl⟩
    · refine (rput_0 w h kB a b z g t0 hc hz hs ⟨hg.1, by omega⟩ hab t ht).mono ?_
      rintro e w' ⟨rfl, h1, h2, h3⟩
      refine ⟨rfl, h1, ⟨_, ?_, h2⟩, h3⟩
      change ZO _ (M.putC (M.putE n d a (M.slot (g + 1) t)) ⟨0, g, t0⟩ t).o
      by_cases he : M.putE n d a (M.slot (g + 1) t) = 0
      · rw [he, zN_ok, M.putC_ok]; exact .inl ⟨rfl, rfl⟩
      · rw [zN_no he, M.putC_no he]; exact .inr ⟨hz, rfl⟩
end Go.Proofs.YtcofahpeinkhfaaGreat
namespace Go.Proofs.YtcofahpeinkhfaaGreat
open Go.RowKit
set_option linter.unusedVariables false
set_option linter.unusedSimpArgs false
set_option maxRecDepth 20000

variable {dB sB mB rB LB n : Nat} {d : M.Dv}

theorem rcell_new (w : World) (rB a b : Nat) : RCell (w.alloc (.cells #[.pointer (some ⟨rB, 0, none⟩), .int .i64 (a : Int), .int .i64 (b : Int), .int .i64 0, .int .i64 0, .string ⟨#[]⟩] 85)) w.heap.size rB a b 0 M.none0 where
  p0 := by rw [World.cell?_alloc_mark]; rfl
  p1 := by rw [World.cell?_alloc_mark]; rfl
  p2 := by rw [World.cell?_alloc_mark]; rfl
  p3 := by rw [World.cell?_alloc_mark]; rfl
  p4 := by rw [World.cell?_alloc_mark]; rfl
  p5 := by rw [World.cell?_alloc_mark]; rfl
  fz := fun o => World.frozen?_alloc_at _ _ _ _ rfl

theorem M.rdP_some {l : List UInt8} {g : Int} {t : ByteArray} (h : M.rdS l = some (g, t)) : M.rdP l = (g, t) := by unfold M.rdP; rw [h]; rfl
theorem M.rdP_none {l : List UInt8} (h : M.rdS l = none) : M.rdP l = (0, ByteArray.empty) := by unfold M.rdP; rw [h]; rfl
theorem M.rdP_range (l : List UInt8) : 0 ≤ (M.rdP l).1 ∧ (M.rdP l).1 ≤ 4611686018427387904 := by
  cases h : M.rdS l with
  | none => rw [M.rdP_none h]; exact ⟨by omega, by omega⟩
  | some x =>
    obtain ⟨g, t⟩ := x
    rw [M.rdP_some h]
    have := (M.slot_rdS h).1
    exact ⟨by have := this.1; show 0 ≤ g; omega, this.2.1⟩
/-- what is found, told by what the two sectors say -/
theorem M.found_is (l m : List UInt8) : M.found (M.rdS l) (M.rdS m) = if (M.rdP l).1 < (M.rdP m).1 then ⟨0, (M.rdP m).1, (M.rdP m).2⟩ else if 0 < (M.rdP l).1 then ⟨1, (M.rdP l).1, (M.rdP l).2⟩ else M.none0 := by
  rcases M.found_ways l m with ⟨h1, h2, h3⟩ | ⟨g, t, h1, h2, h3, h4⟩ | ⟨g, t, h1, h2, h3, h4⟩ | ⟨g, t, g', t', h1, h2, h3, h4, h5, h6⟩ | ⟨g, t, g', t', h1, h2, h3, h4, h5, h6⟩
  · rw [h3, M.rdP_none h1, M.rdP_none h2]; rfl
  · rw [h4, M.rdP_none h1, M.rdP_some h2]
    have := h3.1
    rw [if_pos (show (0 : Int) < g by omega)]
  · rw [h4, M.rdP_some h1, M.rdP_none h2]
    have := h3.1
    rw [if_neg (show ¬ g < (0 : Int) by omega), if_pos (show (0 : Int) < g by omega)]
  · rw [h6, M.rdP_some h1, M.rdP_some h2, if_pos h5]
  · rw [h6, M.rdP_some h1, M.rdP_some h2, if_neg h5]
    have := h3.1
    rw [if_pos (show (0 : Int) < g by omega)]

theorem row_at {w : World} {a : Option Addr} {c : Nat} {l : List UInt8} (h : Row w a 144 c (u8s l)) : ∃ b off, a = some ⟨b, off, none⟩ := by
  obtain ⟨h1, h2, h3, h4⟩ := h
  rcases h4 with h4 | ⟨b, off, ha, _⟩
  · rw [h4] at h1; simp at h1
  · exact ⟨b, off, ha⟩

set_option maxHeartbeats 4000000 in
theorem ropen_yes (w : World) (h : RefAt w rB LB n d) (hdead : d.dead = false) (a b : Nat) (hab : a ≠ b) (ha : a < n) (hb : b < n) :
    Calls Tryz.prog 33 #[.pointer (some ⟨rB, 0, none⟩), .int .i64 (a : Int), .int .i64 (b : Int)] w fun e w' => ∃ kB z, e = .returned (.tuple #[.pointer (some ⟨kB, 0, none⟩), .int .i64 0]) ∧ w.heap.size ≤ kB ∧
      ZO z (M.found (M.rdS (M.seen d a)) (M.rdS (M.seen d b))).o ∧ RCell w' kB rB a b z (M.found (M.rdS (M.seen d a)) (M.rdS (M.seen d b))) ∧ Below w.heap.size w w' := by
  have HD := Lib.hid h
  have hne : ((a : Int) == (b : Int)) = false := by rw [beq_eq_false_iff_ne]; omega
  have HR : Hid (∀ i, i < n → M.reach n d (i : Int) = 0) := Lib.hid fun i hi => by
    unfold M.reach; rw [hdead, if_neg (by simp), if_neg (by omega)]
  have HL := Lib.hid (And.intro ha hb)
  have HC := Lib.hid (rcell_new w rB a b)
  have hsec := h.sec
  have hde := h.dead
  rw [hdead] at hde
  have ha0 : ¬ (a : Int) < 0 := by omega
  have hb0 : ¬ (b : Int) < 0 := by omega
  have han : ¬ (n : Int) ≤ (a : Int) := by omega
  have hbn : ¬ (n : Int) ≤ (b : Int) := by omega
  have HF := Lib.hid (M.found_is (M.seen d a) (M.seen d b))
  have HP1 := Lib.hid (M.rdP_range (M.seen d a))
  have HP2 := Lib.hid (M.rdP_range (M.seen d b))
  clear h hdead hab ha hb
  have HRl : Hid (rB < w.heap.size ∧ LB < w.heap.size) := Lib.hid ⟨HD.out.ltR, HD.out.lt⟩
  have HSn : Hid (∀ i, (M.seen d i).length = 144) := Lib.hid fun i => M.sure_len HD.out.wf i
  have HRa : Hid (Calls Tryz.prog 30 #[.pointer (some ⟨rB, 0, none⟩), .int .i64 (a : Int)] (w.alloc (.cells #[.pointer (some ⟨rB, 0, none⟩), .int .i64 (a : Int), .int .i64 (b : Int), .int .i64 0, .int .i64 0, .string ⟨#[]⟩] 85)) fun e w' => ∃ bR oR cR, e = .returned (.tuple #[.slice (some ⟨bR, oR, none⟩) 144 cR, .int .i64 0]) ∧ Row w' (some ⟨bR, oR, none⟩) 144 cR (u8s (M.seen d a)) ∧ Below w.heap.size w w' ∧ RCell w' w.heap.size rB a b 0 M.none0) := Lib.hid ((rread_yes _ (HD.out.alloc _) a (HR.out a HL.out.1)).mono (by
    rintro e w1 ⟨aR, cR, rfl, hrow, hb1⟩
    obtain ⟨bR, oR, rfl⟩ := row_at hrow
    exact ⟨bR, oR, cR, rfl, hrow, ((Below.refl _ w).alloc (Nat.le_refl _) _).trans (hb1.mono (by simp)), HC.out.below hb1 HC.out.lt⟩))
  have HRb : Hid (∀ w1, Below w.heap.size w w1 → Calls Tryz.prog 30 #[.pointer (some ⟨rB, 0, none⟩), .int .i64 (b : Int)] w1 fun e w' => ∃ bR oR cR, e = .returned (.tuple #[.slice (some ⟨bR, oR, none⟩) 144 cR, .int .i64 0]) ∧ Row w' (some ⟨bR, oR, none⟩) 144 cR (u8s (M.seen d b)) ∧ Below w1.heap.size w1 w') := Lib.hid fun w1 hb1 => (rread_yes w1 (HD.out.below hb1 HRl.out.1 HRl.out.2) b (HR.out b HL.out.2)).mono (by
    rintro e w1 ⟨aR, cR, rfl, hrow, hb1⟩
    obtain ⟨bR, oR, rfl⟩ := row_at hrow
    exact ⟨bR, oR, cR, rfl, hrow, hb1⟩)
  clear HC
  go_enter Tryz.func33, Tryz.ntmps33
  go_wp2_with (first
    | (go_at_call 30; with_reducible refine HRa.out.mono ?_; rintro e w1 ⟨bR, oR, cR, rfl, hrow, hb1, hc1⟩
       have HB1 := Lib.hid hb1
       have HC1 := Lib.hid hc1
       have HRow1 := Lib.hid hrow
       clear hrow hb1 hc1)
    | (go_at_call 30; with_reducible refine (HRb.out w1 HB1.out).mono ?_; rintro e w2 ⟨bS, oS, cS, rfl, hrow, hb2⟩
       have HB2 : Hid (Below w.heap.size w w2) := Lib.hid (B.below_up HB1.out hb2 HB1.out.size)
       have HC2 := Lib.hid (HC1.out.below hb2 HC1.out.lt)
       have HRow2 := Lib.hid (row_but HRow1.out (But.of_below hb2) (.inr (by simp)))
       have HRow2b := Lib.hid hrow
       have HX2 := Lib.hid (refread_any w2 bR oR 144 cR _ HRow2.out (by omega) (by omega))
       clear hrow hb2)
    | (go_at_call 59; with_reducible refine HX2.out.mono ?_; rintro e w3 ⟨rfl, hb3⟩
       have HB3 : Hid (Below w.heap.size w w3) := Lib.hid (B.below_up HB2.out hb3 HB2.out.size)
       have HC3 := Lib.hid (HC2.out.below hb3 HC2.out.lt)
       have HRow3b := Lib.hid (row_but HRow2b.out (But.of_below hb3) (.inr (by simp)))
       have HX3 := Lib.hid (refread_any w3 bS oS 144 cS _ HRow3b.out (by omega) (by omega))
       clear hb3))
  refine HX3.out.mono ?_
  rintro e w4 ⟨rfl, hb4⟩
  have HB4 : Hid (Below w.heap.size w w4) := Lib.hid (B.below_up HB3.out hb4 HB3.out.size)
  have HC4 := Lib.hid (HC3.out.below hb4 HC3.out.lt)
  clear hb4 HX2 HX3 HRa HRb HRow1 HRow2 HRow2b HRow3b HB1 HB2 HB3 HC1 HC2 HC3 HR hsec hde
  generalize (M.rdP (M.seen d a)).1 = g at *
  generalize (M.rdP (M.seen d a)).2 = s at *
  generalize (M.rdP (M.seen d b)).1 = g' at *
  generalize (M.rdP (M.seen d b)).2 = s' at *
  have hk3 : w4.cell? ⟨w.heap.size, 3, none⟩ = some (.int .i64 0) := HC4.out.p3
  have hk4 : w4.cell? ⟨w.heap.size, 4, none⟩ = some (.int .i64 0) := HC4.out.p4
  have hk5 : w4.cell? ⟨w.heap.size, 5, none⟩ = some (.string ⟨#[]⟩) := HC4.out.p5
  have f3 := HC4.out.fz 3
  have f4 := HC4.out.fz 4
  have f5 := HC4.out.fz 5
  have hgr := HP1.out
  have hgr2 := HP2.out
  by_cases hg : 0 < g
  · by_cases hgg : g < g'
    · have Hc : Hid (M.found (M.rdS (M.seen d a)) (M.rdS (M.seen d b)) = ⟨0, g', s'⟩) := Lib.hid (by rw [HF.out, if_pos hgg])
      go_wp2_with fail
      go_ret2
      exact ⟨w.heap.size, 2, rfl, Nat.le_refl _, by rw [Hc.out]; exact .inr ⟨.inr rfl, rfl⟩, by rw [Hc.out]; exact (HC4.out.set 1 1 g s).set 2 0 g' s', ((((((HB4.out.setCell (Nat.le_refl _) _).setCell (Nat.le_refl _) _).setCell (Nat.le_refl _) _).setCell (Nat.le_refl _) _).setCell (Nat.le_refl _) _).setCell (Nat.le_refl _) _)⟩
    · have Hc : Hid (M.found (M.rdS (M.seen d a)) (M.rdS (M.seen d b)) = ⟨1, g, s⟩) := Lib.hid (by rw [HF.out, if_neg hgg, if_pos hg])
      go_wp2_with fail
      go_ret2
      exact ⟨w.heap.size, 1, rfl, Nat.le_refl _, by rw [Hc.out]; exact .inl ⟨rfl, rfl⟩, by rw [Hc.out]; exact HC4.out.set 1 1 g s, (((HB4.out.setCell (Nat.le_refl _) _).setCell (Nat.le_refl _) _).setCell (Nat.le_refl _) _)⟩
  · by_cases hgg : g < g'
    · have Hc : Hid (M.found (M.rdS (M.seen d a)) (M.rdS (M.seen d b)) = ⟨0, g', s'⟩) := Lib.hid (by rw [HF.out, if_pos hgg])
      go_wp2_with fail
      go_ret2
      exact ⟨w.heap.size, 2, rfl, Nat.le_refl _, by rw [Hc.out]; exact .inr ⟨.inr rfl, rfl⟩, by rw [Hc.out]; exact HC4.out.set 2 0 g' s', (((HB4.out.setCell (Nat.le_refl _) _).setCell (Nat.le_refl _) _).setCell (Nat.le_refl _) _)⟩
    · have Hc : Hid (M.found (M.rdS (M.seen d a)) (M.rdS (M.seen d b)) = M.none0) := Lib.hid (by rw [HF.out, if_neg hgg, if_neg hg])
      go_wp2_with fail
      go_ret2
      exact ⟨w.heap.size, 0, rfl, Nat.le_refl _, by rw [Hc.out]; exact .inr ⟨.inl rfl, rfl⟩, by rw [Hc.out]; exact HC4.out, HB4.out⟩

/-- which numbers of sectors are no two -/
def Bad (n : Nat) (x y : Int) : Prop := x = y ∨ x < 0 ∨ y < 0 ∨ (n : Int) ≤ x ∨ (n : Int) ≤ y

theorem has_any (w : World) (h : DevAt w dB sB mB n d) (x : Int) :
    Calls Tryz.prog 57 #[.pointer (some ⟨dB, 0, none⟩), .int .i64 x] w fun e w' => e = .returned (.bool (decide (0 ≤ x ∧ x < (n : Int)))) ∧ w = w' := by
  have HS := Lib.hid (sectors_any w h)
  by_cases h0 : 0 ≤ x
  · by_cases h1 : x < (n : Int)
    · rw [decide_eq_true (show 0 ≤ x ∧ x < (n : Int) from ⟨h0, h1⟩)]
      clear h
      go_enter Tryz.func57, Tryz.ntmps57
      go_wp2_with (go_at_call 67; with_reducible refine HS.out.mono ?_; rintro e w' ⟨rfl, rfl⟩)
      go_ret
      exact ⟨rfl, rfl⟩
    · rw [decide_eq_false (show ¬ (0 ≤ x ∧ x < (n : Int)) from fun h => h1 h.2)]
      clear h
      go_enter Tryz.func57, Tryz.ntmps57
      go_wp2_with (go_at_call 67; with_reducible refine HS.out.mono ?_; rintro e w' ⟨rfl, rfl⟩)
      go_ret
      exact ⟨congrArg (fun b => Ending.returned (.bool b)) (decide_eq_false (by omega)), rfl⟩
  · rw [decide_eq_false (show ¬ (0 ≤ x ∧ x < (n : Int)) from fun h => h0 h.1)]
    clear h
    go_enter Tryz.func57, Tryz.ntmps57
    go_wp2_with (go_at_call 67; with_reducible refine HS.out.mono ?_; rintro e w' ⟨rfl, rfl⟩)
    go_ret
    exact ⟨rfl, rfl⟩

theorem copen_bad (w : World) (h : DevAt w dB sB mB n d) (x y : Int) (hb : Bad n x y) :
    Calls Tryz.prog 32 #[.pointer (some ⟨dB, 0, none⟩), .int .i64 x, .int .i64 y] w fun e w' => e = .returned (.tuple #[.pointer none, .int .i64 1]) ∧ w = w' := by
  by_cases he : x = y
  · subst he; exact open_same w _ x
  · have hne : (x == y) = false := by rw [beq_eq_false_iff_ne]; exact he
    have HX := Lib.hid (has_any w h x)
    have HY := Lib.hid (has_any w h y)
    by_cases hx : 0 ≤ x ∧ x < (n : Int)
    · have hy : ¬ (0 ≤ y ∧ y < (n : Int)) := by unfold Bad at hb; omega
      rw [decide_eq_true hx] at HX
      rw [decide_eq_false hy] at HY
      clear h hb he hx hy
      go_enter Tryz.func32, Tryz.ntmps32
      go_wp2_with (go_at_call 57; first | (with_reducible refine HX.out.mono ?_; rintro e w' ⟨rfl, rfl⟩) | (with_reducible refine HY.out.mono ?_; rintro e w' ⟨rfl, rfl⟩))
      go_ret2
      exact ⟨rfl, rfl⟩
    · rw [decide_eq_false hx] at HX
      clear h hb he hx HY
      go_enter Tryz.func32, Tryz.ntmps32
      go_wp2_with (go_at_call 57; (with_reducible refine HX.out.mono ?_); rintro e w' ⟨rfl, rfl⟩)
      go_ret2
      exact ⟨rfl, rfl⟩

theorem ropen_bad (w : World) (h : RefAt w rB LB n d) (x y : Int) (hb : Bad n x y) :
    Calls Tryz.prog 33 #[.pointer (some ⟨rB, 0, none⟩), .int .i64 x, .int .i64 y] w fun e w' => e = .returned (.tuple #[.pointer none, .int .i64 1]) ∧ w = w' := by
  have hsec := h.sec
  have key : x = y ∨ (¬ x = y ∧ x < 0) ∨ (¬ x = y ∧ ¬ x < 0 ∧ y < 0) ∨ (¬ x = y ∧ ¬ x < 0 ∧ ¬ y < 0 ∧ (n : Int) ≤ x) ∨ (¬ x = y ∧ ¬ x < 0 ∧ ¬ y < 0 ∧ ¬ (n : Int) ≤ x ∧ (n : Int) ≤ y) := by unfold Bad at hb; omega
  clear h hb
  rcases key with h1 | ⟨h1, h2⟩ | ⟨h1, h2, h3⟩ | ⟨h1, h2, h3, h4⟩ | ⟨h1, h2, h3, h4, h5⟩
  · subst h1
    go_enter Tryz.func33, Tryz.ntmps33
    go_wp2_with fail
    go_ret2
    exact ⟨rfl, rfl⟩
  all_goals
    have hne : (x == y) = false := by rw [beq_eq_false_iff_ne]; exact h1
    clear h1
    go_enter Tryz.func33, Tryz.ntmps33
    go_wp2_with fail
    go_ret2
    exact ⟨rfl, rfl⟩
end Go.Proofs.YtcofahpeinkhfaaGreat
namespace Go.Proofs.YtcofahpeinkhfaaGreat
open Go.RowKit
set_option linter.unusedVariables false
set_option linter.unusedSimpArgs false
set_option maxRecDepth 20000

/-- the cells of the document's list -/
def ll (kB bl m : Nat) : List Value := .pointer (some ⟨kB, 0, none⟩) :: .int .i64 (bl : Int) :: B.rl (D.regs bl) m
theorem ll_len (kB bl m : Nat) : (ll kB bl m).length = 67 := by simp [ll, B.rl_len]
theorem ll_one (kB bl m : Nat) : ∀ u ∈ ll kB bl m, u.oneCell' = true := by
  intro u hu
  rcases List.mem_cons.1 hu with rfl | hu
  · rfl
  · rcases List.mem_cons.1 hu with rfl | hu
    · rfl
    · exact B.rl_one _ _ u hu
def RList (w : World) (lR kB bl m : Nat) : Prop := B.Blk w lR 62 (ll kB bl m).toArray
section
variable {w w' : World} {lR kB bl m X : Nat}
theorem RList.lt (h : RList w lR kB bl m) : lR < w.heap.size := B.Blk.lt h
theorem RList.c0 (h : RList w lR kB bl m) : w.cell? ⟨lR, 0, none⟩ = some (.pointer (some ⟨kB, 0, none⟩)) := by rw [B.Blk.cell h]; rfl
theorem RList.c1 (h : RList w lR kB bl m) : w.cell? ⟨lR, 1, none⟩ = some (.int .i64 (bl : Int)) := by rw [B.Blk.cell h]; rfl
theorem RList.c2 (h : RList w lR kB bl m) : w.cell? ⟨lR, 2, none⟩ = some (.int .i64 (D.regs bl : Int)) := by rw [B.Blk.cell h]; rfl
theorem RList.fz (h : RList w lR kB bl m) (o : Nat) : w.frozen? ⟨lR, o, none⟩ = false := B.Blk.frozen h o
theorem RList.range (h : RList w lR kB bl m) : w.rangeAt lR 2 (B.rl (D.regs bl) m) := fun j v hv => by
  rw [B.Blk.cell h, List.getElem?_toArray, Nat.add_comm]
  exact hv
theorem RList.there (h : RList w lR kB bl m) : w.there lR 2 65 := fun j hj => by
  refine ⟨?_, B.Blk.frozen h _⟩
  rw [B.Blk.cell h, List.getElem?_toArray, List.getElem?_eq_getElem (by rw [ll_len]; omega)]
  rfl
theorem rlist_new (w : World) (kB bl m : Nat) : RList (w.alloc (.cells (ll kB bl m).toArray 62)) w.heap.size kB bl m := B.Blk.new w _ _
theorem RList.of_block (h : RList w lR kB bl m) (hb : w'.heap[lR]? = w.heap[lR]?) : RList w' lR kB bl m := hb.trans h
theorem RList.below (h : RList w lR kB bl m) (hb : Below X w w') (hB : lR < X) : RList w' lR kB bl m := h.of_block (hb.block _ hB)
theorem RList.but (h : RList w lR kB bl m) {l : List Nat} (hb : But l w w') (hn : lR ∉ l) : RList w' lR kB bl m := h.of_block (hb.block _ h.lt hn)
theorem RList.alloc (h : RList w lR kB bl m) (o : Obj) : RList (w.alloc o) lR kB bl m := h.of_block (Below.heap_alloc w o lR h.lt)
theorem RList.store (h : RList w lR kB bl m) (m' : Nat) : RList (w.setCells lR 2 (B.rl (D.regs bl) m')) lR kB bl m' := by
  obtain ⟨cur', h1, h2, h3⟩ := B.obj_setCells (B.rl (D.regs bl) m') 2 w _ h (by rw [B.rl_len]; simp [ll_len])
  have e : cur' = (ll kB bl m').toArray := by
    apply Array.ext'
    rw [h3, B.rl_len]
    simp [ll, List.drop_eq_nil_of_le, B.rl_len]
  rw [e] at h1
  exact h1
end

section
variable {ops : Array Oper} {rest : List Oper} {o : Oper} {a : Act} {w : World} {Q : Exit → Act → World → Prop}
theorem wpList_load62 (hg : o.guard = none) (x : Operand) (ho : o.op = .load 60 x) {lR kB bl m : Nat} (hx : a.eval x = .pointer (some ⟨lR, 2, none⟩)) (hc : RList w lR kB bl m)
    (h : wpList Tryz.prog ops Q rest (a.put o.dst (B.RV (D.regs bl) m)) w) : wpList Tryz.prog ops Q (o :: rest) a w :=
  wpList_load_mid hg 60 x ho lR 2 hx (B.rl (D.regs bl) m) _ hc.range Tryz.underlying60 rfl (by rw [B.size30, B.rl_len]) h
theorem wpList_load62g (hw : Region.wanted o (yielded ops a.tmps) = true) (x : Operand) (ho : o.op = .load 60 x) {lR kB bl m : Nat} (hx : a.eval x = .pointer (some ⟨lR, 2, none⟩)) (hc : RList w lR kB bl m)
    (h : wpList Tryz.prog ops Q rest (a.put o.dst (B.RV (D.regs bl) m)) w) : wpList Tryz.prog ops Q (o :: rest) a w :=
  wpList_step fun K hK => by
    rw [if_pos hw]
    exact wp_load_mid 60 x ho lR 2 hx (B.rl (D.regs bl) m) _ hc.range Tryz.underlying60 rfl (by rw [B.size30, B.rl_len]) (hK _ _ h)
theorem wpList_store62 (hg : o.guard = none) (x y : Operand) (ho : o.op = .store 60 x y) {lR kB bl m m' : Nat} (hx : a.eval x = .pointer (some ⟨lR, 2, none⟩)) (hy : a.eval y = B.RV (D.regs bl) m') (ht : RList w lR kB bl m)
    (h : ∀ w', w' = w.setCells lR 2 (B.rl (D.regs bl) m') → wpList Tryz.prog ops Q rest (a.put o.dst undef) w') : wpList Tryz.prog ops Q (o :: rest) a w := by
  have h1 : (B.rl (D.regs bl) m').toArray.size = 65 := by rw [List.size_toArray, B.rl_len]
  exact wpList_store_mid hg 60 x y ho lR 2 _ hx hy (by rw [h1]; exact ht.there) (by rw [B.size30, h1]) (all_oneCell_toArray (B.rl_one _ _)) (h _ (by simp))
end

theorem B.has_of {g m k : Nat} (hk : k < g) : B.has g m (k : Int) = m.testBit k := by
  unfold B.has
  rw [decide_eq_true (show 0 ≤ (k : Int) ∧ (k : Int) < (g : Int) from ⟨by omega, by omega⟩)]
  simp

theorem rlhas_any (w : World) {lR kB bl m : Nat} (h : RList w lR kB bl m) (hb : 1 ≤ bl ∧ bl ≤ 32) (i : Int) :
    Calls Tryz.prog 25 #[.pointer (some ⟨lR, 0, none⟩), .int .i64 i] w fun e w' => e = .returned (.bool (D.has bl m i)) ∧ Below w.heap.size w w' := by
  have h8 := D.regs_le hb.2
  have q1 := h.c1
  by_cases h1 : 0 ≤ i
  · obtain ⟨k, rfl⟩ := Int.eq_ofNat_of_zero_le h1
    by_cases h2 : k < bl
    · have h2I : (k : Int) < (bl : Int) := by omega
      have h2J : (k : Int) ≤ 32 := by omega
      rw [D.has_nat h2]
      have HH := Lib.hid (B.rhas_any (D.regs bl) m ((k : Int) / 4) w (by omega))
      rw [show B.has (D.regs bl) m ((k : Int) / 4) = m.testBit (k / 4) by rw [show (k : Int) / 4 = ((k / 4 : Nat) : Int) by omega]; exact B.has_of (D.reg_lt h2)] at HH
      have HR := Lib.hid h
      clear h h8 hb h2
      go_enter Tryz.func25, Tryz.ntmps25
      go_wp2_with (first
        | (refine wpList_load62g (by rfl) _ rfl rfl HR.out ?_)
        | (go_at_call 53; with_reducible refine HH.out.mono ?_; rintro e w1 ⟨rfl, hb⟩; have HB := Lib.hid hb; clear hb))
      go_ret
      exact ⟨rfl, HB.out⟩
    · have h2I : ¬ (k : Int) < (bl : Int) := by omega
      rw [D.has_out (by omega)]
      clear h h8 hb h2
      go_enter Tryz.func25, Tryz.ntmps25
      go_wp2_with fail
      go_ret
      exact ⟨rfl, Below.refl _ _⟩
  · rw [D.has_out (by omega)]
    clear h h8 hb
    go_enter Tryz.func25, Tryz.ntmps25
    go_wp2_with fail
    go_ret
    exact ⟨rfl, Below.refl _ _⟩

set_option maxHeartbeats 1000000 in
theorem rlall_any (w : World) {lR kB bl m : Nat} (h : RList w lR kB bl m) (hb : 1 ≤ bl ∧ bl ≤ 32) :
    Calls Tryz.prog 23 #[.pointer (some ⟨lR, 0, none⟩)] w fun e w' => ∃ x cap, e = .returned (.slice x (D.blocks bl m).length cap) ∧ B.Row w' x (D.blocks bl m).length cap (B.ints (D.blocks bl m)) ∧ Below w.heap.size w w' := by
  have HH : ∀ (k : Nat) (v : Bool) (w' : World), k < bl → m.testBit (k / 4) = v → Below w.heap.size w w' → Calls Tryz.prog 25 #[.pointer (some ⟨lR, 0, none⟩), .int .i64 (k : Int)] w' fun e w2 => e = .returned (.bool v) ∧ Below w'.heap.size w' w2 := fun k v w' hk hv hbw => by
    have := rlhas_any w' (h.below hbw h.lt) hb (k : Int)
    rw [D.has_nat hk, hv] at this
    exact this
  have HLi := Lib.hid h
  have hlt := h.lt
  have hblI : (bl : Int) ≤ 32 := by omega
  have HB0 := Lib.hid ((Below.refl w.heap.size w).alloc (Nat.le_refl _) (.cells #[] 3))
  have ho := B.own_lit 3 w w.heap.size [] (by omega) (by simp)
  have O3 := Lib.hid ho
  clear h ho
  go_enter Tryz.func23, Tryz.ntmps23
  go_wp2
  go_loopw [3, 4] (fun v t wr => ∃ (k c cap : Nat) (x : Option Addr), k ≤ bl ∧ t = .int .i64 k ∧ v = .slice x c cap ∧ c = (D.blocks k m).length ∧ B.Own 3 wr w.heap.size x c cap (B.ints (D.blocks k m)) ∧ Below w.heap.size w wr) (fun _ t _ => bl - (RowKit.intOf t).toNat)
  case atStart => exact ⟨0, 0, 0, _, by omega, rfl, rfl, rfl, O3.out, HB0.out⟩
  case round =>
    obtain ⟨k, c, cap, x, hk, rfl, rfl, hc, ho, hbw⟩ := hrel
    have Ho := Lib.hid ho
    have Hbw := Lib.hid hbw
    have hcl : c ≤ 32 := by have := D.blocks_len k m; omega
    have Hc := Lib.hid hc
    have q1 := (HLi.out.below hbw hlt).c1
    clear ho hbw hc HB0 O3
    by_cases hlt : k < bl
    · cases hbit : m.testBit (k / 4) with
      | true =>
        have HC := Lib.hid (HH k true wr hlt hbit Hbw.out)
        have HM2 := Lib.hid (D.blocks_yes hbit)
        clear hbit HH
        go_wp2_with (first
          | (go_at_call 25
             ((with_reducible refine HC.out.mono ?_); rintro e w1 ⟨rfl, hb⟩)
             have Ho1 := Lib.hid (B.own_alloc (B.own_below Ho.out hb (Nat.le_refl _)) (.cells #[.int .i64 (k : Int)] 3))
             have Hb1 := Lib.hid (B.below_up Hbw.out hb Hbw.out.size)
             have hs1 := hb.size
             have hs2 := Hbw.out.size
             clear hb)
          | (at_builtin
             refine B.wpList_append_int _ rfl (.tmp 17) (.tmp 19) rfl w.heap.size x c cap (D.blocks k m) rfl Ho1.out _ 1 k rfl (B.row_one _ 3 _) (by omega) (by simp; omega) ?_
             intro a2 cap2 w2 ho2 hb2
             have Ho2 := Lib.hid ho2
             have Hb2 := Lib.hid hb2
             clear ho2 hb2))
        go_roundw
        case rel => exact ⟨k + 1, c + 1, cap2, a2, by omega, by go_num, rfl, by rw [HM2.out, Hc.out]; simp, by rw [HM2.out]; exact Ho2.out, (Hb1.out.alloc Hb1.out.size _).trans Hb2.out⟩
        case measure => simp [RowKit.intOf]; omega
      | false =>
        have HC := Lib.hid (HH k false wr hlt hbit Hbw.out)
        have HM2 := Lib.hid (D.blocks_no hbit)
        clear hbit HH
        go_wp2_with (go_at_call 25; ((with_reducible refine HC.out.mono ?_); rintro e w1 ⟨rfl, hb⟩); have Hb := Lib.hid hb; clear hb)
        go_roundw
        case rel => exact ⟨k + 1, c, cap, x, by omega, by go_num, rfl, by rw [HM2.out]; exact Hc.out, by rw [HM2.out]; exact B.own_below Ho.out Hb.out (Nat.le_refl _), B.below_up Hbw.out Hb.out Hbw.out.size⟩
        case measure => simp [RowKit.intOf]; omega
    · obtain rfl : bl = k := by omega
      go_wp2
      go_ret
      refine ⟨x, cap, ?_, by rw [← Hc.out]; exact (B.own_row Ho.out).1, Hbw.out⟩
      show Ending.returned (.slice x c cap) = _
      rw [Hc.out]
end Go.Proofs.YtcofahpeinkhfaaGreat
namespace Go.Proofs.YtcofahpeinkhfaaGreat
open Go.RowKit
set_option linter.unusedVariables false
set_option linter.unusedSimpArgs false
set_option maxRecDepth 20000

variable {rB LB n : Nat} {d : M.Dv}

/-- the document's own list with its cell and its device, in blocks apart -/
structure RD (w : World) (rB LB n : Nat) (d : M.Dv) (kB lR a b bl : Nat) (c : M.Cl) : Prop where
  rf : RefAt w rB LB n d
  rc : ∃ z, ZO z c.o ∧ RCell w kB rB a b z c
  li : RList w lR kB bl (D.marks bl c.text)
  kd : kB ≠ rB ∧ kB ≠ LB
  ld : lR ≠ rB ∧ lR ≠ LB ∧ lR ≠ kB
  gn : 0 ≤ c.gen ∧ c.gen ≤ 4611686018427387904
  tx : c.text.size ≤ 100
  bl1 : 1 ≤ bl ∧ bl ≤ 32
  ab : a ≤ 1000 ∧ b ≤ 1000

theorem RD.klt {w : World} {kB lR a b bl : Nat} {c : M.Cl} (h : RD w rB LB n d kB lR a b bl c) : kB < w.heap.size := by
  obtain ⟨z, _, hc⟩ := h.rc
  exact hc.lt
theorem RD.but {w w' : World} {kB lR a b bl : Nat} {c : M.Cl} (h : RD w rB LB n d kB lR a b bl c) {l : List Nat} (hb : But l w w') (hn : rB ∉ l ∧ LB ∉ l ∧ kB ∉ l ∧ lR ∉ l) : RD w' rB LB n d kB lR a b bl c where
  rf := h.rf.but hb hn.1 hn.2.1
  rc := by obtain ⟨z, h1, h2⟩ := h.rc; exact ⟨z, h1, h2.but hb hn.2.2.1⟩
  li := h.li.but hb hn.2.2.2
  kd := h.kd
  ld := h.ld
  gn := h.gn
  tx := h.tx
  bl1 := h.bl1
  ab := h.ab
theorem RD.below {w w' : World} {kB lR a b bl : Nat} {c : M.Cl} (h : RD w rB LB n d kB lR a b bl c) (hb : Below w.heap.size w w') : RD w' rB LB n d kB lR a b bl c := h.but (But.of_below hb) (by simp)
theorem RD.drew {w : World} {kB lR a b bl : Nat} {c : M.Cl} (h : RD w rB LB n d kB lR a b bl c) : RD w.drew rB LB n d kB lR a b bl c := h.but (But.refl [] w).drew (by simp)
/-- Put of the list's cell -/
theorem RD.put {w : World} {kB lR a b bl : Nat} {c : M.Cl} (h : RD w rB LB n d kB lR a b bl c) (t : ByteArray) (ht : t.size ≤ 100) :
    Calls Tryz.prog 63 #[.pointer (some ⟨kB, 0, none⟩), .string t] w fun e w' => e = .returned (.int .i64 (M.puE n d a b c t)) ∧ RefAt w' rB LB n (M.puD n d a b c t) ∧
      (∃ z', ZO z' (M.puC n d a b c t).o ∧ RCell w' kB rB a b z' (M.puC n d a b c t)) ∧ But [rB, LB, kB] w w' := by
  obtain ⟨z, h1, h2⟩ := h.rc
  exact rput_all w h.rf kB a b z c h2 h1 h.kd h.gn h.ab t ht

/-- the two ways of a Put -/
theorem M.pu_ways (n : Nat) (d : M.Dv) (a b : Nat) (c : M.Cl) (t : ByteArray) (hg : c.gen ≤ 4611686018427387904) : (M.puE n d a b c t = 0 ∧ M.puC n d a b c t = ⟨1 - c.o, c.gen + 1, t⟩ ∧ c.gen + 1 ≤ 4611686018427387904) ∨ (M.puE n d a b c t ≠ 0 ∧ M.puC n d a b c t = c) := by
  unfold M.puE M.puC
  by_cases hq : c.gen = 4611686018427387904
  · rw [if_pos hq, if_pos hq]; exact .inr ⟨by omega, rfl⟩
  · rw [if_neg hq, if_neg hq]
    by_cases he : M.putE n d (M.pos c.o a b) (M.slot (c.gen + 1) t) = 0
    · rw [he, M.putC_ok]; exact .inl ⟨rfl, rfl, by omega⟩
    · rw [M.putC_no he]; exact .inr ⟨he, rfl⟩

set_option maxHeartbeats 4000000 in
theorem rset_list (w : World) {kB lR a b bl : Nat} {c : M.Cl} (h : RD w rB LB n d kB lR a b bl c) (m' : Nat) (hm : m' < 2 ^ D.regs bl) (t : ByteArray) (ht : t = str (B.M.txt (D.regs bl) m')) :
    Calls Tryz.prog 41 #[.pointer (some ⟨lR, 0, none⟩), B.RV (D.regs bl) m'] w fun e w' => e = .returned (.int .i64 (M.puE n d a b c t)) ∧ RD w' rB LB n (M.puD n d a b c t) kB lR a b bl (M.puC n d a b c t) ∧ But [rB, LB, kB, lR] w w' := by
  have H := Lib.hid h
  have h8 := D.regs_le h.bl1.2
  have HT : Hid (∀ w, Calls Tryz.prog 28 #[B.RV (D.regs bl) m'] w fun e w' => e = .returned (.string t) ∧ Below w.heap.size w w') := Lib.hid fun w => by
    have := B.rtext_any (D.regs bl) m' w (by omega) hm
    rwa [show B.str (B.M.txt (D.regs bl) m') = t from ht.symm] at this
  have Hts : Hid (t.size ≤ 100) := Lib.hid (by rw [ht]; exact D.txt_small h.bl1.2)
  have HMt : Hid (D.marks bl t = m') := Lib.hid (by rw [ht]; exact D.marks_txt h.bl1.2 hm)
  have HWy := Lib.hid (M.pu_ways n d a b c t h.gn.2)
  clear ht hm h8 h
  go_enter Tryz.func41, Tryz.ntmps41
  go_wp2_with (refine B.wpList_box30 rfl _ rfl rfl ?_; intro w1 hw1; have R1 := Lib.hid (hw1 ▸ B.rat_new w (D.regs bl) m'); have B1 := Lib.hid (hw1 ▸ B.bel1 w _ : Below w.heap.size w w1); have B1s := Lib.hid (show w1.heap.size ≤ w1.heap.size from Nat.le_refl _); have HW1 := Lib.hid (H.out.below B1.out |>.drew); clear hw1)
  refine wp_region_noPanic ?_
  refine wp_region_held_drew (S := fun w' => w'.cell? ⟨lR, 0, none⟩ = some (.pointer (some ⟨kB, 0, none⟩)) ∧ B.RAt w' w.heap.size (D.regs bl) m') (by kernel_rfl) ⟨HW1.out.li.c0, R1.out.drew⟩ (fun hHeld => ?_)
  refine wpAnyH_take (i := 0) (v := ?_) rfl (by kernel_rfl) (by kernel_rfl) (by kernel_rfl) (fun _ _ _ h => h) (Or.inl ⟨by rfl, ?_⟩) hHeld ?_
  rotate_left 1
  · (intro w hSw; (try dsimp only at hSw); go_simp; try with_reducible rfl)
  change wpAnyH _ _ _ _ _ _ _ (Act.put _ (some 6) _) _
  try simp only [Act.put, List.setIfInBounds_toArray, List.set_cons_zero, List.set_cons_succ]
  refine wpAnyH_take (i := 1) (v := ?_) rfl (by kernel_rfl) (by kernel_rfl) (by kernel_rfl) (fun _ _ _ h => h) (Or.inl ⟨by rfl, ?_⟩) hHeld ?_
  rotate_left 1
  · (intro w hSw; (try dsimp only at hSw); go_simp; try with_reducible rfl)
  change wpAnyH _ _ _ _ _ _ _ (Act.put _ (some 7) _) _
  try simp only [Act.put, List.setIfInBounds_toArray, List.set_cons_zero, List.set_cons_succ]
  refine wpAnyH_take (i := 2) (v := ?_) rfl (by kernel_rfl) (by kernel_rfl) (by kernel_rfl) (fun _ _ _ h => h) (Or.inl ⟨by rfl, ?_⟩) hHeld ?_
  rotate_left 1
  · (intro w hSw; (try dsimp only at hSw); go_simp; try with_reducible rfl)
  change wpAnyH _ _ _ _ _ _ _ (Act.put _ (some 8) _) _
  try simp only [Act.put, List.setIfInBounds_toArray, List.set_cons_zero, List.set_cons_succ]
  refine wpAnyH_take (i := 3) (v := ?_) rfl (by kernel_rfl) (by kernel_rfl) (by kernel_rfl) (fun _ _ _ h => h) (Or.inl ⟨by rfl, ?_⟩) hHeld ?_
  rotate_left 1
  · (intro w hSw; (try dsimp only at hSw); go_simp; try with_reducible rfl)
  change wpAnyH _ _ _ _ _ _ _ (Act.put _ (some 9) _) _
  try simp only [Act.put, List.setIfInBounds_toArray, List.set_cons_zero, List.set_cons_succ]
  refine wpAnyH_take (i := 4) (v := B.RV (D.regs bl) m') rfl (by kernel_rfl) (by kernel_rfl) (by kernel_rfl) (fun _ _ _ h => h) (yieldsIf_load_mid (by rfl) 60 _ rfl w.heap.size 0 rfl (B.rl (D.regs bl) m') _ (fun _ h => h.2.range) Tryz.underlying60 rfl (by rw [B.size30, B.rl_len])) hHeld ?_
  change wpAnyH _ _ _ _ _ _ _ (Act.put _ (some 10) _) _
  try simp only [Act.put, List.setIfInBounds_toArray, List.set_cons_zero, List.set_cons_succ]
  refine wpAnyH_ready (rs := [5]) (by kernel_rfl) (by simp) ?_
  refine AllReadyH.cons rfl (fun K hK => ?_) AllReadyH.nil
  go_simp
  with_reducible refine (HT.out _).mono ?_
  rintro e w2 ⟨rfl, hb2⟩
  have B2 := Lib.hid (B.below_up B1.out.drew hb2 B1.out.drew.size)
  have HW2 := Lib.hid (HW1.out.below hb2)
  have R2 := Lib.hid (R1.out.drew.below hb2 R1.out.lt)
  clear hb2
  refine hK.out _ _ (⟨HW2.out.li.c0, R2.out⟩) (fun hHeld => ?_)
  clear hK K
  try simp only [Act.put, List.setIfInBounds_toArray, List.set_cons_zero, List.set_cons_succ]
  refine wpAnyH_ready (rs := [6]) (by kernel_rfl) (by simp) ?_
  refine AllReadyH.cons rfl (fun K hK => ?_) AllReadyH.nil
  go_simp
  with_reducible refine (HW2.out.put t Hts.out).mono ?_
  rintro e w3 ⟨rfl, hd3, hc3, hb3⟩
  have D3 := Lib.hid hd3
  have C3 := Lib.hid hc3
  have B3 : Hid (But [rB, LB, kB] w w3) := Lib.hid (((But.of_below B2.out).mono (by simp)).trans hb3)
  have L3 := Lib.hid (HW2.out.li.but hb3 (by have := HW2.out.ld; simp; omega))
  have R3 := Lib.hid (R2.out.of_block (hb3.block _ R2.out.lt (by have := H.out.rf.ltR; have := H.out.rf.lt; have := H.out.klt; simp; omega)))
  clear hd3 hc3 hb3
  refine hK.out _ _ (⟨L3.out.c0, R3.out⟩) (fun hHeld => ?_)
  clear hK K
  try simp only [Act.put, List.setIfInBounds_toArray, List.set_cons_zero, List.set_cons_succ]
  refine wpAnyH_take (i := 7) (v := ?_) rfl (by kernel_rfl) (by kernel_rfl) (by kernel_rfl) (fun _ _ _ h => h) (Or.inl ⟨by rfl, ?_⟩) hHeld ?_
  rotate_left 1
  · (intro w hSw; (try dsimp only at hSw); go_simp; try with_reducible rfl)
  change wpAnyH _ _ _ _ _ _ _ (Act.put _ (some 5) _) _
  try simp only [Act.put, List.setIfInBounds_toArray, List.set_cons_zero, List.set_cons_succ]
  refine wpAnyH_done (by kernel_rfl) ?_ _
  refine NoPanic.normal ?_
  clear hHeld
  rcases HWy.out with ⟨e1, e2, e3⟩ | ⟨e1, e2⟩
  · rw [e1]
    have hx := L3.out.c0
    have E1 := Lib.hid e1
    have E2 := Lib.hid (And.intro e2 e3)
    clear e1 e2 e3 hx
    go_wp2_with (first
      | (refine B.wpList_load30 rfl _ rfl w.heap.size rfl R3.out ?_)
      | (refine wpList_store62 rfl _ _ rfl rfl rfl L3.out ?_; intro w4 hw4; have L4 := Lib.hid (hw4 ▸ L3.out.store m'); have B4 : Hid (But [lR] w3 w4) := Lib.hid (hw4 ▸ (But.refl [lR] w3).sets _ _ _ (.inl (by simp))); clear hw4))
    go_ret
    refine ⟨by rw [E1.out]; rfl, ?_, (B3.out.mono (by simp)).trans (B4.out.mono (by simp))⟩
    have hld := HW2.out.ld
    have hkd := HW2.out.kd
    have hcc := C3.out
    rw [E2.out.1] at hcc ⊢
    obtain ⟨z', g1, g2⟩ := hcc
    exact ⟨D3.out.but B4.out (by simp; omega) (by simp; omega), ⟨z', g1, g2.but B4.out (by simp; omega)⟩, by show RList _ _ _ _ (D.marks bl t); rw [HMt.out]; exact L4.out, hkd, hld, ⟨by have := HW2.out.gn; simp only; omega, E2.out.2⟩, Hts.out, HW2.out.bl1, HW2.out.ab⟩
  · have hne : (M.puE n d a b c t == 0) = false := by simpa using e1
    have E1 := Lib.hid e1
    have E2 := Lib.hid e2
    clear e1 e2
    go_wp2_with fail
    go_ret
    refine ⟨rfl, ?_, B3.out.mono (by simp)⟩
    have hcc := C3.out
    rw [E2.out] at hcc ⊢
    exact ⟨D3.out, hcc, L3.out, HW2.out.kd, HW2.out.ld, HW2.out.gn, HW2.out.tx, HW2.out.bl1, HW2.out.ab⟩
end Go.Proofs.YtcofahpeinkhfaaGreat
namespace Go.Proofs.YtcofahpeinkhfaaGreat
open Go.RowKit
set_option linter.unusedVariables false
set_option linter.unusedSimpArgs false
set_option maxRecDepth 20000

variable {rB LB n : Nat} {d : M.Dv}

theorem rmark_out (w : World) {kB lR a b bl : Nat} {c : M.Cl} (h : RD w rB LB n d kB lR a b bl c) (i : Int) (hi : ¬ (0 ≤ i ∧ i < (bl : Int))) :
    Calls Tryz.prog 11 #[.pointer (some ⟨lR, 0, none⟩), .int .i64 i] w fun e w' => e = .returned (.int .i64 2) ∧ w = w' := by
  have q1 := h.li.c1
  clear h
  by_cases h0 : i < 0
  · clear hi
    go_enter Tryz.func11, Tryz.ntmps11
    go_wp2_with fail
    go_ret
    exact ⟨rfl, rfl⟩
  · have h1 : (bl : Int) ≤ i := by omega
    clear hi
    go_enter Tryz.func11, Tryz.ntmps11
    go_wp2_with fail
    go_ret
    exact ⟨rfl, rfl⟩

theorem rmark_has (w : World) {kB lR a b bl : Nat} {c : M.Cl} (h : RD w rB LB n d kB lR a b bl c) (k : Nat) (hk : k < bl) (hbit : (D.marks bl c.text).testBit (k / 4) = true) :
    Calls Tryz.prog 11 #[.pointer (some ⟨lR, 0, none⟩), .int .i64 (k : Int)] w fun e w' => e = .returned (.int .i64 0) ∧ Below w.heap.size w w' := by
  have q1 := h.li.c1
  have HH := Lib.hid (rlhas_any w h.li h.bl1 (k : Int))
  rw [D.has_nat hk, hbit] at HH
  have h0 : ¬ (k : Int) < 0 := by omega
  have h1 : ¬ (bl : Int) ≤ (k : Int) := by omega
  clear h hbit hk
  go_enter Tryz.func11, Tryz.ntmps11
  go_wp2_with (first
    | (go_at_call 25; with_reducible refine HH.out.mono ?_; rintro e w2 ⟨rfl, hb⟩; have Hb := Lib.hid hb; clear hb))
  go_ret
  exact ⟨rfl, Hb.out⟩

set_option maxHeartbeats 4000000 in
theorem rmark_put (w : World) {kB lR a b bl : Nat} {c : M.Cl} (h : RD w rB LB n d kB lR a b bl c) (k : Nat) (hk : k < bl) (hbit : (D.marks bl c.text).testBit (k / 4) = false) (t : ByteArray) (ht : t = str (B.M.txt (D.regs bl) (B.M.put (D.marks bl c.text) (k / 4)))) :
    Calls Tryz.prog 11 #[.pointer (some ⟨lR, 0, none⟩), .int .i64 (k : Int)] w fun e w' => e = .returned (.int .i64 (M.puE n d a b c t)) ∧ RD w' rB LB n (M.puD n d a b c t) kB lR a b bl (M.puC n d a b c t) ∧ But [rB, LB, kB, lR] w w' := by
  have q1 := h.li.c1
  have HH := Lib.hid (rlhas_any w h.li h.bl1 (k : Int))
  rw [D.has_nat hk, hbit] at HH
  have h0 : ¬ (k : Int) < 0 := by omega
  have h1 : ¬ (bl : Int) ≤ (k : Int) := by omega
  have h2 : (k : Int) ≤ 32 := by have := h.bl1; omega
  have h3 : (0 : Int) ≤ (k : Int) := by omega
  have H := Lib.hid h
  have h8 := D.regs_le h.bl1.2
  have hr := D.reg_lt hk
  have hm := D.marks_lt bl c.text
  have HS : Hid (∀ w, Calls Tryz.prog 40 #[B.RV (D.regs bl) (D.marks bl c.text), .int .i64 ((k : Int) / 4), .bool true] w fun e w' => e = .returned (.tuple #[B.RV (D.regs bl) (B.M.put (D.marks bl c.text) (k / 4)), .int .i64 0]) ∧ Below w.heap.size w w') := Lib.hid fun w => by
    have := B.rset_any (D.regs bl) (D.marks bl c.text) ((k / 4 : Nat) : Int) true w (by omega) hm
    obtain ⟨e1, e2, e3⟩ := B.putM_in (n := D.regs bl) (m := D.marks bl c.text) hr
    rw [e1, e3, show B.setM (D.regs bl) (D.marks bl c.text) ((k / 4 : Nat) : Int) true = B.M.put (D.marks bl c.text) (k / 4) from e2] at this
    rwa [show (k : Int) / 4 = ((k / 4 : Nat) : Int) by omega]
  have HQ : Hid (∀ w1, Below w.heap.size w w1 → Calls Tryz.prog 41 #[.pointer (some ⟨lR, 0, none⟩), B.RV (D.regs bl) (B.M.put (D.marks bl c.text) (k / 4))] w1 fun e w' => e = .returned (.int .i64 (M.puE n d a b c t)) ∧ RD w' rB LB n (M.puD n d a b c t) kB lR a b bl (M.puC n d a b c t) ∧ But [rB, LB, kB, lR] w1 w') := Lib.hid fun w1 hb1 => rset_list w1 (h.below hb1) _ (B.M.put_lt hm hr) t ht
  have HLi := Lib.hid h.li
  clear h hbit hk ht hr hm h8
  generalize B.M.put (D.marks bl c.text) (k / 4) = m2 at *
  generalize D.marks bl c.text = m at *
  go_enter Tryz.func11, Tryz.ntmps11
  go_wp2_with (first
    | (go_at_call 25; with_reducible refine HH.out.mono ?_; rintro e w2 ⟨rfl, hb⟩; have B2 := Lib.hid hb; have L2 := Lib.hid (HLi.out.below hb HLi.out.lt); clear hb)
    | (refine wpList_load62 rfl _ rfl rfl L2.out ?_)
    | (go_at_call 40; with_reducible refine (HS.out _).mono ?_; rintro e w3 ⟨rfl, hb⟩; have B3 := Lib.hid (B.below_up B2.out hb B2.out.size); clear hb)
    | (refine B.wpList_alloc30 rfl rfl ?_; intro w4 hw4; have R4 := Lib.hid (hw4 ▸ B.rat_new w3 0 0); have B4 := Lib.hid (hw4 ▸ (B3.out.alloc B3.out.size _) : Below w.heap.size w w4); have S4 := Lib.hid B3.out.size; clear hw4)
    | (refine B.wpList_store30 rfl _ _ rfl w3.heap.size rfl rfl R4.out.there ?_; intro w5 hw5; have R5 := Lib.hid (hw5 ▸ B.RAt.store R4.out (D.regs bl) m2); have B5 := Lib.hid (hw5 ▸ B.below_setCells S4.out _ _ B4.out : Below w.heap.size w w5); clear hw5)
    | (refine B.wpList_load30 rfl _ rfl w3.heap.size rfl R5.out ?_)
    | (go_at_call 41; with_reducible refine (HQ.out w5 B5.out).mono ?_; rintro e w6 ⟨rfl, h6, hb6⟩; have H6 := Lib.hid h6; have B6 : Hid (But [rB, LB, kB, lR] w w6) := Lib.hid (((But.of_below B5.out).mono (by simp)).trans hb6); clear h6 hb6))
  go_ret
  exact ⟨rfl, H6.out, B6.out⟩

theorem rclear_none (w : World) {kB lR a b bl : Nat} {c : M.Cl} (h : RD w rB LB n d kB lR a b bl c) (hz : D.marks bl c.text = 0) :
    Calls Tryz.prog 13 #[.pointer (some ⟨lR, 0, none⟩)] w fun e w' => e = .returned (.int .i64 0) ∧ Below w.heap.size w w' := by
  have h8 := D.regs_le h.bl1.2
  have HLi := Lib.hid h.li
  rw [hz] at HLi
  have HAl : Hid (Calls Tryz.prog 45 #[B.RV (D.regs bl) 0] w fun e w' => ∃ a cap, e = .returned (.slice a 0 cap) ∧ Below w.heap.size w w') := Lib.hid ((B.rall_any (D.regs bl) 0 w (by omega)).mono (by
    rintro e w' ⟨a, cap, rfl, _, hb⟩
    exact ⟨a, cap, by rw [B.M.all_none]; rfl, hb⟩))
  clear h hz h8
  go_enter Tryz.func13, Tryz.ntmps13
  go_wp2_with (first
    | (refine wpList_load62 rfl _ rfl rfl HLi.out ?_)
    | (go_at_call 45; with_reducible refine HAl.out.mono ?_; rintro e w2 ⟨x, cap, rfl, hb⟩; have B2 := Lib.hid hb; clear hb))
  go_ret
  exact ⟨rfl, B2.out⟩

set_option maxHeartbeats 4000000 in
theorem rclear_put (w : World) {kB lR a b bl : Nat} {c : M.Cl} (h : RD w rB LB n d kB lR a b bl c) (hz : D.marks bl c.text ≠ 0) (t : ByteArray) (ht : t = str (B.M.txt (D.regs bl) 0)) :
    Calls Tryz.prog 13 #[.pointer (some ⟨lR, 0, none⟩)] w fun e w' => e = .returned (.int .i64 (M.puE n d a b c t)) ∧ RD w' rB LB n (M.puD n d a b c t) kB lR a b bl (M.puC n d a b c t) ∧ But [rB, LB, kB, lR] w w' := by
  have h8 := D.regs_le h.bl1.2
  have hm := D.marks_lt bl c.text
  have HLi := Lib.hid h.li
  have HAl : Hid (Calls Tryz.prog 45 #[B.RV (D.regs bl) (D.marks bl c.text)] w fun e w' => ∃ a cap, e = .returned (.slice a (B.M.all (D.regs bl) (D.marks bl c.text)).length cap) ∧ Below w.heap.size w w') := Lib.hid ((B.rall_any (D.regs bl) (D.marks bl c.text) w (by omega)).mono (by
    rintro e w' ⟨a, cap, rfl, _, hb⟩
    exact ⟨a, cap, rfl, hb⟩))
  have hne : (((B.M.all (D.regs bl) (D.marks bl c.text)).length : Int) == 0) = false := by
    rw [beq_eq_false_iff_ne]
    intro h
    exact hz ((D.all_nil hm).1 (by omega))
  have HN : Hid (∀ w, Calls Tryz.prog 34 #[.int .i64 (D.regs bl : Int)] w fun e w' => e = .returned (B.RV (D.regs bl) 0) ∧ Below w.heap.size w w') := Lib.hid fun w => by
    have := B.rnew_any (D.regs bl : Int) w
    rwa [show B.M.len (D.regs bl : Int) = D.regs bl by unfold B.M.len; rw [if_pos ⟨by omega, by omega⟩]; simp] at this
  have HQ : Hid (∀ w1, Below w.heap.size w w1 → Calls Tryz.prog 41 #[.pointer (some ⟨lR, 0, none⟩), B.RV (D.regs bl) 0] w1 fun e w' => e = .returned (.int .i64 (M.puE n d a b c t)) ∧ RD w' rB LB n (M.puD n d a b c t) kB lR a b bl (M.puC n d a b c t) ∧ But [rB, LB, kB, lR] w1 w') := Lib.hid fun w1 hb1 => rset_list w1 (h.below hb1) 0 (Nat.two_pow_pos _) t ht
  clear h hz ht hm h8
  generalize (B.M.all (D.regs bl) (D.marks bl c.text)).length = q at *
  generalize D.marks bl c.text = m at *
  go_enter Tryz.func13, Tryz.ntmps13
  go_wp2_with (first
    | (refine wpList_load62 rfl _ rfl rfl HLi.out ?_)
    | (go_at_call 45; with_reducible refine HAl.out.mono ?_; rintro e w2 ⟨x, cap, rfl, hb⟩; have B2 := Lib.hid hb; have q2 := (HLi.out.below hb HLi.out.lt).c2; clear hb)
    | (go_at_call 34; with_reducible refine (HN.out _).mono ?_; rintro e w3 ⟨rfl, hb⟩; have B3 := Lib.hid (B.below_up B2.out hb B2.out.size); clear hb)
    | (go_at_call 41; with_reducible refine (HQ.out w3 B3.out).mono ?_; rintro e w6 ⟨rfl, h6, hb6⟩; have H6 := Lib.hid h6; have B6 : Hid (But [rB, LB, kB, lR] w w6) := Lib.hid (((But.of_below B3.out).mono (by simp)).trans hb6); clear h6 hb6))
  go_ret
  exact ⟨rfl, H6.out, B6.out⟩
end Go.Proofs.YtcofahpeinkhfaaGreat
namespace Go.Proofs.YtcofahpeinkhfaaGreat
open Go.RowKit
set_option linter.unusedVariables false
set_option linter.unusedSimpArgs false
set_option maxRecDepth 20000

variable {rB LB n : Nat} {d : M.Dv}

theorem ll_zero : (Tryz.prog.info? 62).map (fun i => (i.zero, i.size)) = some (some (.agg (#[.pointer none, .int .i64 0] ++ (B.rl 0 0).toArray)), 67) := by kernel_rfl
theorem size57 : (Tryz.prog.info? 57).map (·.size) = some 1 := by kernel_rfl
theorem build62 (w : World) (kB bl : Nat) : (Instr.build 62 #[(0, .pointer (some ⟨kB, 0, none⟩)), (1, .int .i64 (bl : Int)), (2, B.RV (D.regs bl) 0)]).run Tryz.prog w = .ok (.agg (ll kB bl 0).toArray) w := by
  refine run_build w 62 _ _ ?_
  obtain ⟨i, f1, f2⟩ : ∃ i, Tryz.prog.info? 62 = some i ∧ i.zero = some (.agg (#[.pointer none, .int .i64 0] ++ (B.rl 0 0).toArray)) := by
    have := ll_zero
    cases h : Tryz.prog.info? 62 with
    | none => simp [h] at this
    | some i => simp only [h, Option.map_some, Option.some.injEq, Prod.mk.injEq] at this; exact ⟨i, rfl, this.1⟩
  obtain ⟨i3, g1, g3⟩ : ∃ i, Tryz.prog.info? 3 = some i ∧ i.size = 1 := by
    have := B.size3
    cases h : Tryz.prog.info? 3 with
    | none => simp [h] at this
    | some i => simp [h] at this; exact ⟨i, rfl, this⟩
  obtain ⟨i57, k1, k3⟩ : ∃ i, Tryz.prog.info? 57 = some i ∧ i.size = 1 := by
    have := size57
    cases h : Tryz.prog.info? 57 with
    | none => simp [h] at this
    | some i => simp [h] at this; exact ⟨i, rfl, this⟩
  obtain ⟨i60, m1, m3⟩ : ∃ i, Tryz.prog.info? 60 = some i ∧ i.size = 65 := by
    have := B.size30
    cases h : Tryz.prog.info? 60 with
    | none => simp [h] at this
    | some i => simp [h] at this; exact ⟨i, rfl, this⟩
  unfold ll
  generalize D.regs bl = g
  unfold Program.built
  rw [f1, Tryz.underlying62]
  simp only [f2, g1, k1, m1, List.mapM_cons, List.mapM_nil, Option.map_some, Option.pure_def, Option.bind_eq_bind, Option.bind_some, g3, k3, m3]
  kernel_rfl

section
variable {ops : Array Oper} {rest : List Oper} {o : Oper} {a : Act} {w : World} {Q : Exit → Act → World → Prop}
theorem wpList_build62 (hg : o.guard = none) (x y z : Operand) (ho : o.op = .build 62 #[(0, x), (1, y), (2, z)]) {kB bl : Nat} (hx : a.eval x = .pointer (some ⟨kB, 0, none⟩)) (hy : a.eval y = .int .i64 (bl : Int)) (hz : a.eval z = B.RV (D.regs bl) 0)
    (h : wpList Tryz.prog ops Q rest (a.put o.dst (.agg (ll kB bl 0).toArray)) w) : wpList Tryz.prog ops Q (o :: rest) a w := by
  refine wpList_plain hg fun K hK => ?_
  unfold Oper.wp
  simp only [execOp, ho, hx, hy, hz, List.map_toArray, List.map_cons, List.map_nil, Sem.run_bind, build62, Result.andThen_ok, Sem.run_pure, Result.andThen]
  exact hK _ _ h
theorem newVar62 (w : World) (kB bl m : Nat) : (newVar 62 (.agg (ll kB bl m).toArray)).run Tryz.prog w = .ok ⟨w.heap.size, 0, none⟩ (w.alloc (.cells (ll kB bl m).toArray 62)) := by
  simp only [newVar, newRow, Value.cells, Sem.run_bind, run_newObj_alloc, Sem.run_pure, Result.andThen_ok]
theorem wpList_box62 (hg : o.guard = none) (x : Operand) (ho : o.op = .box 62 x) {kB bl m : Nat} (hx : a.eval x = .agg (ll kB bl m).toArray)
    (h : ∀ w', w' = w.alloc (.cells (ll kB bl m).toArray 62) → wpList Tryz.prog ops Q rest (a.put o.dst (.pointer (some ⟨w.heap.size, 0, none⟩))) w') : wpList Tryz.prog ops Q (o :: rest) a w := by
  refine wpList_plain hg fun K hK => ?_
  unfold Oper.wp
  simp only [execOp, ho, hx, Instr.box, Sem.run_bind, newVar62, Sem.run_pure, Result.andThen_ok, Result.andThen]
  exact hK _ _ (h _ rfl)
end

theorem rlopen_arg (w : World) (p : Option Addr) (a b bl : Int) (hb : bl < 1 ∨ 32 < bl) :
    Calls Tryz.prog 8 #[.pointer p, .int .i64 a, .int .i64 b, .int .i64 bl] w fun e w' => e = .returned (.tuple #[.pointer none, .int .i64 1]) ∧ w = w' := by
  by_cases h1 : bl < 1
  · clear hb
    go_enter Tryz.func8, Tryz.ntmps8
    go_wp2
    go_ret2
    exact ⟨rfl, rfl⟩
  · have h2 : 32 < bl := by omega
    clear hb
    go_enter Tryz.func8, Tryz.ntmps8
    go_wp2
    go_ret2
    exact ⟨rfl, rfl⟩

theorem rlopen_bad (w : World) (h : RefAt w rB LB n d) (x y bl : Int) (hb : 1 ≤ bl ∧ bl ≤ 32) (hx : Bad n x y) :
    Calls Tryz.prog 8 #[.pointer (some ⟨rB, 0, none⟩), .int .i64 x, .int .i64 y, .int .i64 bl] w fun e w' => e = .returned (.tuple #[.pointer none, .int .i64 1]) ∧ w = w' := by
  have h1 : ¬ bl < 1 := by omega
  have h2 : ¬ 32 < bl := by omega
  have HC := Lib.hid (ropen_bad w h x y hx)
  clear hb h hx
  go_enter Tryz.func8, Tryz.ntmps8
  go_wp2_with (go_at_call 33; with_reducible refine HC.out.mono ?_; rintro e w2 ⟨rfl, rfl⟩)
  go_ret2
  exact ⟨rfl, rfl⟩

theorem lopen_bad (w : World) {dB sB mB : Nat} (h : DevAt w dB sB mB n d) (x y bl : Int) (hb : 1 ≤ bl ∧ bl ≤ 32) (hx : Bad n x y) :
    Calls Tryz.prog 7 #[.pointer (some ⟨dB, 0, none⟩), .int .i64 x, .int .i64 y, .int .i64 bl] w fun e w' => e = .returned (.tuple #[.pointer none, .int .i64 1]) ∧ w = w' := by
  have h1 : ¬ bl < 1 := by omega
  have h2 : ¬ 32 < bl := by omega
  have HC := Lib.hid (copen_bad w h x y hx)
  clear hb h hx
  go_enter Tryz.func7, Tryz.ntmps7
  go_wp2_with (go_at_call 32; with_reducible refine HC.out.mono ?_; rintro e w2 ⟨rfl, rfl⟩)
  go_ret2
  exact ⟨rfl, rfl⟩

set_option maxHeartbeats 4000000 in
theorem rlopen_yes (w : World) (h : RefAt w rB LB n d) (hdead : d.dead = false) (a b : Nat) (hab : a ≠ b) (ha : a < n) (hb : b < n) (bl : Nat) (hbl : 1 ≤ bl ∧ bl ≤ 32) :
    Calls Tryz.prog 8 #[.pointer (some ⟨rB, 0, none⟩), .int .i64 (a : Int), .int .i64 (b : Int), .int .i64 (bl : Int)] w fun e w' => ∃ kB lR, e = .returned (.tuple #[.pointer (some ⟨lR, 0, none⟩), .int .i64 0]) ∧ w.heap.size ≤ kB ∧ w.heap.size ≤ lR ∧
      RD w' rB LB n d kB lR a b bl (M.found (M.rdS (M.seen d a)) (M.rdS (M.seen d b))) ∧ Below w.heap.size w w' := by
  have h1 : ¬ (bl : Int) < 1 := by omega
  have h2 : ¬ (32 : Int) < (bl : Int) := by omega
  have h3 : (0 : Int) ≤ (bl : Int) := by omega
  have h8 := D.regs_le hbl.2
  have HC := Lib.hid (ropen_yes w h hdead a b hab ha hb)
  have HF := Lib.hid h
  have Hx := Lib.hid (And.intro hbl (And.intro (show a ≤ 1000 by have := h.n512; omega) (show b ≤ 1000 by have := h.n512; omega)))
  have HRl : Hid (rB < w.heap.size ∧ LB < w.heap.size) := Lib.hid ⟨h.ltR, h.lt⟩
  have HN : Hid (∀ w, Calls Tryz.prog 34 #[.int .i64 (((bl : Int) + 3) / 4)] w fun e w' => e = .returned (B.RV (D.regs bl) 0) ∧ Below w.heap.size w w') := Lib.hid fun w => by
    have := B.rnew_any (D.regs bl : Int) w
    rw [show B.M.len (D.regs bl : Int) = D.regs bl by unfold B.M.len; rw [if_pos ⟨by omega, by omega⟩]; simp] at this
    rwa [show ((bl : Int) + 3) / 4 = (D.regs bl : Int) by unfold D.regs; omega]
  have Hg := Lib.hid (M.found_gen (M.seen d a) (M.seen d b))
  have Ht := Lib.hid (M.found_text (M.seen d a) (M.seen d b))
  have HL : Hid (∀ w, Calls Tryz.prog 35 #[.string (M.found (M.rdS (M.seen d a)) (M.rdS (M.seen d b))).text] w fun e w' => e = .returned (.tuple #[B.RV (B.M.loadN (M.found (M.rdS (M.seen d a)) (M.rdS (M.seen d b))).text.data.toList) (B.M.loadM (M.found (M.rdS (M.seen d a)) (M.rdS (M.seen d b))).text.data.toList), .int .i64 (B.M.loadE (M.found (M.rdS (M.seen d a)) (M.rdS (M.seen d b))).text.data.toList)]) ∧ Below w.heap.size w w') := Lib.hid fun w => B.rload_any _ w (by have := Ht.out; omega)
  have HM : Hid (D.marks bl (M.found (M.rdS (M.seen d a)) (M.rdS (M.seen d b))).text = if B.M.loadE (M.found (M.rdS (M.seen d a)) (M.rdS (M.seen d b))).text.data.toList = 0 ∧ B.M.loadN (M.found (M.rdS (M.seen d a)) (M.rdS (M.seen d b))).text.data.toList = D.regs bl then B.M.loadM (M.found (M.rdS (M.seen d a)) (M.rdS (M.seen d b))).text.data.toList else 0) := Lib.hid rfl
  generalize hcc : M.found (M.rdS (M.seen d a)) (M.rdS (M.seen d b)) = c at *
  clear h hdead hab ha hb hcc h8
  generalize B.M.loadE c.text.data.toList = E at *
  generalize B.M.loadN c.text.data.toList = N at *
  generalize B.M.loadM c.text.data.toList = K at *
  have key : ∀ w' kB lR z, w.heap.size ≤ kB → w.heap.size ≤ lR → kB ≠ lR → ZO z c.o → RCell w' kB rB a b z c → RList w' lR kB bl (D.marks bl c.text) → Below w.heap.size w w' → RD w' rB LB n d kB lR a b bl c := fun w' kB lR z g1 g2 g3 g4 g5 g6 g7 =>
    have hr := HRl.out
    ⟨HF.out.below g7 hr.1 hr.2, ⟨z, g4, g5⟩, g6, by omega, by omega, Hg.out, Ht.out, Hx.out.1, Hx.out.2⟩
  have HKey := Lib.hid key
  clear hbl key
  go_enter Tryz.func8, Tryz.ntmps8
  go_wp2_with (first
    | (go_at_call 33; with_reducible refine HC.out.mono ?_; rintro e w1 ⟨kB, z, rfl, hk, hz, hc1, hb1⟩
       have C1 := Lib.hid hc1
       have B1 := Lib.hid hb1
       have Hz := Lib.hid (And.intro hk hz)
       clear hk hz hc1 hb1)
    | (go_at_call 34; with_reducible refine (HN.out _).mono ?_; rintro e w2 ⟨rfl, hb2⟩
       have B2 := Lib.hid (B.below_up B1.out hb2 B1.out.size)
       have C2 := Lib.hid (C1.out.below hb2 C1.out.lt)
       clear hb2)
    | (refine wpList_build62 rfl _ _ _ rfl rfl rfl rfl ?_)
    | (refine wpList_box62 rfl _ rfl rfl ?_; intro w2b hw2
       have L3 := Lib.hid (hw2 ▸ rlist_new w2 kB bl 0)
       have B2b := Lib.hid (hw2 ▸ (B2.out.alloc B2.out.size _) : Below w.heap.size w w2b)
       have C2b := Lib.hid (C2.out.below (hw2 ▸ (Below.refl w2.heap.size w2).alloc (Nat.le_refl _) _ : Below w2.heap.size w2 w2b) C2.out.lt)
       have p5 := C2b.out.p5
       have Hlt := Lib.hid (And.intro C2.out.lt B2.out.size)
       clear hw2)
    | (go_at_call 35; with_reducible refine (HL.out _).mono ?_; rintro e w3 ⟨rfl, hb3⟩
       have B3 := Lib.hid (B.below_up B2b.out hb3 B2b.out.size)
       have C3 := Lib.hid (C2b.out.below hb3 C2b.out.lt)
       have L4 := Lib.hid (L3.out.below hb3 L3.out.lt)
       clear hb3)
    | (refine B.wpList_alloc30 rfl rfl ?_; intro w4 hw4
       have R4 := Lib.hid (hw4 ▸ B.rat_new w3 0 0)
       have B4 := Lib.hid (hw4 ▸ (B3.out.alloc B3.out.size _) : Below w.heap.size w w4)
       have X4 := Lib.hid (hw4 ▸ (Below.refl w3.heap.size w3).alloc (Nat.le_refl _) _ : Below w3.heap.size w3 w4)
       have S4 := Lib.hid B3.out.size
       clear hw4)
    | (refine B.wpList_store30 rfl _ _ rfl w3.heap.size rfl rfl R4.out.there ?_; intro w5 hw5
       have R5 := Lib.hid (hw5 ▸ B.RAt.store R4.out N K)
       have B5 := Lib.hid (hw5 ▸ B.below_setCells S4.out _ _ B4.out : Below w.heap.size w w5)
       have X5 := Lib.hid (hw5 ▸ B.below_setCells (Nat.le_refl _) _ _ X4.out : Below w3.heap.size w3 w5)
       have C5 := Lib.hid (C3.out.below X5.out C3.out.lt)
       have L5 := Lib.hid (L4.out.below X5.out L4.out.lt)
       clear hw5))
  by_cases hE : E = 0
  · have hE1 : ((E : Int) == 0) = true := by simp [hE]
    refine wp_region_noPanic ?_
    refine wp_region_held_drew (S := fun w' => w'.cell? ⟨w3.heap.size, 0, none⟩ = some (.int .i64 (N : Int)) ∧ w'.cell? ⟨w2.heap.size, 2, none⟩ = some (.int .i64 (D.regs bl : Int))) (by kernel_rfl) ⟨R5.out.c0, L5.out.c2⟩ (fun hHeld => ?_)
    refine wpAnyH_take (i := 0) (v := ?_) rfl (by kernel_rfl) (by kernel_rfl) (by kernel_rfl) (fun _ _ _ h => h) (Or.inl ⟨by rfl, ?_⟩) hHeld ?_
    rotate_left 1
    · (intro w hSw; (try dsimp only at hSw); go_simp; try with_reducible rfl)
    change wpAnyH _ _ _ _ _ _ _ (Act.put _ (some 47) _) _
    try simp only [Act.put, List.setIfInBounds_toArray, List.set_cons_zero, List.set_cons_succ]
    refine wpAnyH_take (i := 1) (v := ?_) rfl (by kernel_rfl) (by kernel_rfl) (by kernel_rfl) (fun _ _ _ h => h) (Or.inl ⟨by rfl, ?_⟩) hHeld ?_
    rotate_left 1
    · (intro w hSw; (try dsimp only at hSw); go_simp; try with_reducible rfl)
    change wpAnyH _ _ _ _ _ _ _ (Act.put _ (some 48) _) _
    try simp only [Act.put, List.setIfInBounds_toArray, List.set_cons_zero, List.set_cons_succ]
    refine wpAnyH_take (i := 2) (v := ?_) rfl (by kernel_rfl) (by kernel_rfl) (by kernel_rfl) (fun _ _ _ h => h) (Or.inl ⟨by rfl, ?_⟩) hHeld ?_
    rotate_left 1
    · (intro w hSw; (try dsimp only at hSw); go_simp; try with_reducible rfl)
    change wpAnyH _ _ _ _ _ _ _ (Act.put _ (some 49) _) _
    try simp only [Act.put, List.setIfInBounds_toArray, List.set_cons_zero, List.set_cons_succ]
    refine wpAnyH_take (i := 3) (v := ?_) rfl (by kernel_rfl) (by kernel_rfl) (by kernel_rfl) (fun _ _ _ h => h) (Or.inl ⟨by rfl, ?_⟩) hHeld ?_
    rotate_left 1
    · (intro w hSw; (try dsimp only at hSw); go_simp; try with_reducible rfl)
    change wpAnyH _ _ _ _ _ _ _ (Act.put _ (some 50) _) _
    try simp only [Act.put, List.setIfInBounds_toArray, List.set_cons_zero, List.set_cons_succ]
    refine wpAnyH_take (i := 4) (v := ?_) rfl (by kernel_rfl) (by kernel_rfl) (by kernel_rfl) (fun _ _ _ h => h) (Or.inl ⟨by rfl, ?_⟩) hHeld ?_
    rotate_left 1
    · (intro w hSw; (try dsimp only at hSw); go_simp; try with_reducible rfl)
    change wpAnyH _ _ _ _ _ _ _ (Act.put _ (some 51) _) _
    try simp only [Act.put, List.setIfInBounds_toArray, List.set_cons_zero, List.set_cons_succ]
    refine wpAnyH_take (i := 5) (v := ?_) rfl (by kernel_rfl) (by kernel_rfl) (by kernel_rfl) (fun _ _ _ h => h) (Or.inl ⟨by rfl, ?_⟩) hHeld ?_
    rotate_left 1
    · (intro w hSw; (try dsimp only at hSw); go_simp; try with_reducible rfl)
    change wpAnyH _ _ _ _ _ _ _ (Act.put _ (some 52) _) _
    try simp only [Act.put, List.setIfInBounds_toArray, List.set_cons_zero, List.set_cons_succ]
    refine wpAnyH_take (i := 6) (v := ?_) rfl (by kernel_rfl) (by kernel_rfl) (by kernel_rfl) (fun _ _ _ h => h) (Or.inl ⟨by rfl, ?_⟩) hHeld ?_
    rotate_left 1
    · (intro w hSw; (try dsimp only at hSw); go_simp; try with_reducible rfl)
    change wpAnyH _ _ _ _ _ _ _ (Act.put _ (some 53) _) _
    try simp only [Act.put, List.setIfInBounds_toArray, List.set_cons_zero, List.set_cons_succ]
    refine wpAnyH_take (i := 7) (v := ?_) rfl (by kernel_rfl) (by kernel_rfl) (by kernel_rfl) (fun _ _ _ h => h) (Or.inl ⟨by rfl, ?_⟩) hHeld ?_
    rotate_left 1
    · (intro w hSw; (try dsimp only at hSw); go_simp; try with_reducible rfl)
    change wpAnyH _ _ _ _ _ _ _ (Act.put _ (some 54) _) _
    try simp only [Act.put, List.setIfInBounds_toArray, List.set_cons_zero, List.set_cons_succ]
    refine wpAnyH_take (i := 8) (v := ?_) rfl (by kernel_rfl) (by kernel_rfl) (by kernel_rfl) (fun _ _ _ h => h) (Or.inl ⟨by rfl, ?_⟩) hHeld ?_
    rotate_left 1
    · (intro w hSw; (try dsimp only at hSw); go_simp; try with_reducible rfl)
    change wpAnyH _ _ _ _ _ _ _ (Act.put _ (some 55) _) _
    try simp only [Act.put, List.setIfInBounds_toArray, List.set_cons_zero, List.set_cons_succ]
    refine wpAnyH_take (i := 9) (v := ?_) rfl (by kernel_rfl) (by kernel_rfl) (by kernel_rfl) (fun _ _ _ h => h) (Or.inl ⟨by rfl, ?_⟩) hHeld ?_
    rotate_left 1
    · (intro w hSw; (try dsimp only at hSw); go_simp; try with_reducible rfl)
    change wpAnyH _ _ _ _ _ _ _ (Act.put _ (some 56) _) _
    try simp only [Act.put, List.setIfInBounds_toArray, List.set_cons_zero, List.set_cons_succ]
    refine wpAnyH_take (i := 10) (v := ?_) rfl (by kernel_rfl) (by kernel_rfl) (by kernel_rfl) (fun _ _ _ h => h) (Or.inl ⟨by rfl, ?_⟩) hHeld ?_
    rotate_left 1
    · (intro w hSw; (try dsimp only at hSw); go_simp; try with_reducible rfl)
    change wpAnyH _ _ _ _ _ _ _ (Act.put _ (some 57) _) _
    try simp only [Act.put, List.setIfInBounds_toArray, List.set_cons_zero, List.set_cons_succ]
    refine wpAnyH_take (i := 11) (v := ?_) rfl (by kernel_rfl) (by kernel_rfl) (by kernel_rfl) (fun _ _ _ h => h) (Or.inl ⟨by rfl, ?_⟩) hHeld ?_
    rotate_left 1
    · (intro w hSw; (try dsimp only at hSw); go_simp; try with_reducible rfl)
    change wpAnyH _ _ _ _ _ _ _ (Act.put _ (some 58) _) _
    try simp only [Act.put, List.setIfInBounds_toArray, List.set_cons_zero, List.set_cons_succ]
    refine wpAnyH_done (by kernel_rfl) ?_ _
    refine NoPanic.normal ?_
    clear hHeld
    by_cases hN : N = D.regs bl
    · have hN1 : ((N : Int) == (D.regs bl : Int)) = true := by simp [hN]
      have HM2 : Hid (D.marks bl c.text = K) := Lib.hid (by rw [HM.out, if_pos ⟨hE, hN⟩])
      subst hN
      go_wp2_with (first
        | (refine B.wpList_load30 rfl _ rfl w3.heap.size rfl R5.out.drew ?_)
        | (refine wpList_store62 rfl _ _ rfl rfl rfl (L5.out.of_block (w' := w5.drew) rfl) ?_; intro w6 hw6
           have L6 := Lib.hid (hw6 ▸ RList.store (L5.out.of_block (w' := w5.drew) rfl) K)
           have C6 := Lib.hid ((C5.out.of_block (w' := w5.drew) rfl).of_block (hw6 ▸ B.heap_setCells _ _ _ _ _ (by have := Hlt.out; omega)) : RCell w6 kB rB a b z c)
           have B6 := Lib.hid (hw6 ▸ B.below_setCells (by have := Hlt.out; omega) _ _ B5.out.drew : Below w.heap.size w w6)
           clear hw6))
      go_ret2
      refine ⟨kB, w2.heap.size, rfl, Hz.out.1, Hlt.out.2, HKey.out _ _ _ z Hz.out.1 Hlt.out.2 (by have := Hlt.out; omega) Hz.out.2 C6.out (by rw [HM2.out]; exact L6.out) B6.out, B6.out⟩
    · have hN1 : ((N : Int) == (D.regs bl : Int)) = false := by rw [beq_eq_false_iff_ne]; omega
      have HM2 : Hid (D.marks bl c.text = 0) := Lib.hid (by rw [HM.out, if_neg (fun h => hN h.2)])
      go_wp2_with fail
      go_ret2
      refine ⟨kB, w2.heap.size, rfl, Hz.out.1, Hlt.out.2, HKey.out _ _ _ z Hz.out.1 Hlt.out.2 (by have := Hlt.out; omega) Hz.out.2 (C5.out.of_block rfl) (by rw [HM2.out]; exact L5.out.of_block rfl) B5.out.drew, B5.out.drew⟩
  · have hE1 : ((E : Int) == 0) = false := by simpa using hE
    have HM2 : Hid (D.marks bl c.text = 0) := Lib.hid (by rw [HM.out, if_neg (fun h => hE h.1)])
    refine wp_region_noPanic ?_
    refine wp_region_held_drew (S := fun w' => w'.cell? ⟨w3.heap.size, 0, none⟩ = some (.int .i64 (N : Int)) ∧ w'.cell? ⟨w2.heap.size, 2, none⟩ = some (.int .i64 (D.regs bl : Int))) (by kernel_rfl) ⟨R5.out.c0, L5.out.c2⟩ (fun hHeld => ?_)
    refine wpAnyH_take (i := 0) (v := ?_) rfl (by kernel_rfl) (by kernel_rfl) (by kernel_rfl) (fun _ _ _ h => h) (Or.inl ⟨by rfl, ?_⟩) hHeld ?_
    rotate_left 1
    · (intro w hSw; (try dsimp only at hSw); go_simp; try with_reducible rfl)
    change wpAnyH _ _ _ _ _ _ _ (Act.put _ (some 47) _) _
    try simp only [Act.put, List.setIfInBounds_toArray, List.set_cons_zero, List.set_cons_succ]
    refine wpAnyH_take (i := 1) (v := ?_) rfl (by kernel_rfl) (by kernel_rfl) (by kernel_rfl) (fun _ _ _ h => h) (Or.inl ⟨by rfl, ?_⟩) hHeld ?_
    rotate_left 1
    · (intro w hSw; (try dsimp only at hSw); go_simp; try with_reducible rfl)
    change wpAnyH _ _ _ _ _ _ _ (Act.put _ (some 48) _) _
    try simp only [Act.put, List.setIfInBounds_toArray, List.set_cons_zero, List.set_cons_succ]
    refine wpAnyH_take (i := 2) (v := ?_) rfl (by kernel_rfl) (by kernel_rfl) (by kernel_rfl) (fun _ _ _ h => h) (Or.inl ⟨by rfl, ?_⟩) hHeld ?_
    rotate_left 1
    · (intro w hSw; (try dsimp only at hSw); go_simp; try with_reducible rfl)
    change wpAnyH _ _ _ _ _ _ _ (Act.put _ (some 49) _) _
    try simp only [Act.put, List.setIfInBounds_toArray, List.set_cons_zero, List.set_cons_succ]
    refine wpAnyH_take (i := 3) (v := undef) rfl (by kernel_rfl) (by kernel_rfl) (by kernel_rfl) (fun _ _ _ h => h) (Or.inr ⟨by rfl, rfl⟩) hHeld ?_
    change wpAnyH _ _ _ _ _ _ _ (Act.put _ (some 50) _) _
    try simp only [Act.put, List.setIfInBounds_toArray, List.set_cons_zero, List.set_cons_succ]
    refine wpAnyH_take (i := 4) (v := undef) rfl (by kernel_rfl) (by kernel_rfl) (by kernel_rfl) (fun _ _ _ h => h) (Or.inr ⟨by rfl, rfl⟩) hHeld ?_
    change wpAnyH _ _ _ _ _ _ _ (Act.put _ (some 51) _) _
    try simp only [Act.put, List.setIfInBounds_toArray, List.set_cons_zero, List.set_cons_succ]
    refine wpAnyH_take (i := 5) (v := undef) rfl (by kernel_rfl) (by kernel_rfl) (by kernel_rfl) (fun _ _ _ h => h) (Or.inr ⟨by rfl, rfl⟩) hHeld ?_
    change wpAnyH _ _ _ _ _ _ _ (Act.put _ (some 52) _) _
    try simp only [Act.put, List.setIfInBounds_toArray, List.set_cons_zero, List.set_cons_succ]
    refine wpAnyH_take (i := 6) (v := undef) rfl (by kernel_rfl) (by kernel_rfl) (by kernel_rfl) (fun _ _ _ h => h) (Or.inr ⟨by rfl, rfl⟩) hHeld ?_
    change wpAnyH _ _ _ _ _ _ _ (Act.put _ (some 53) _) _
    try simp only [Act.put, List.setIfInBounds_toArray, List.set_cons_zero, List.set_cons_succ]
    refine wpAnyH_take (i := 7) (v := undef) rfl (by kernel_rfl) (by kernel_rfl) (by kernel_rfl) (fun _ _ _ h => h) (Or.inr ⟨by rfl, rfl⟩) hHeld ?_
    change wpAnyH _ _ _ _ _ _ _ (Act.put _ (some 54) _) _
    try simp only [Act.put, List.setIfInBounds_toArray, List.set_cons_zero, List.set_cons_succ]
    refine wpAnyH_take (i := 8) (v := undef) rfl (by kernel_rfl) (by kernel_rfl) (by kernel_rfl) (fun _ _ _ h => h) (Or.inr ⟨by rfl, rfl⟩) hHeld ?_
    change wpAnyH _ _ _ _ _ _ _ (Act.put _ (some 55) _) _
    try simp only [Act.put, List.setIfInBounds_toArray, List.set_cons_zero, List.set_cons_succ]
    refine wpAnyH_take (i := 9) (v := undef) rfl (by kernel_rfl) (by kernel_rfl) (by kernel_rfl) (fun _ _ _ h => h) (Or.inr ⟨by rfl, rfl⟩) hHeld ?_
    change wpAnyH _ _ _ _ _ _ _ (Act.put _ (some 56) _) _
    try simp only [Act.put, List.setIfInBounds_toArray, List.set_cons_zero, List.set_cons_succ]
    refine wpAnyH_take (i := 10) (v := undef) rfl (by kernel_rfl) (by kernel_rfl) (by kernel_rfl) (fun _ _ _ h => h) (Or.inr ⟨by rfl, rfl⟩) hHeld ?_
    change wpAnyH _ _ _ _ _ _ _ (Act.put _ (some 57) _) _
    try simp only [Act.put, List.setIfInBounds_toArray, List.set_cons_zero, List.set_cons_succ]
    refine wpAnyH_take (i := 11) (v := ?_) rfl (by kernel_rfl) (by kernel_rfl) (by kernel_rfl) (fun _ _ _ h => h) (Or.inl ⟨by rfl, ?_⟩) hHeld ?_
    rotate_left 1
    · (intro w hSw; (try dsimp only at hSw); go_simp; try with_reducible rfl)
    change wpAnyH _ _ _ _ _ _ _ (Act.put _ (some 58) _) _
    try simp only [Act.put, List.setIfInBounds_toArray, List.set_cons_zero, List.set_cons_succ]
    refine wpAnyH_done (by kernel_rfl) ?_ _
    refine NoPanic.normal ?_
    clear hHeld
    go_wp2_with fail
    go_ret2
    refine ⟨kB, w2.heap.size, rfl, Hz.out.1, Hlt.out.2, HKey.out _ _ _ z Hz.out.1 Hlt.out.2 (by have := Hlt.out; omega) Hz.out.2 (C5.out.of_block rfl) (by rw [HM2.out]; exact L5.out.of_block rfl) B5.out.drew, B5.out.drew⟩
end Go.Proofs.YtcofahpeinkhfaaGreat
