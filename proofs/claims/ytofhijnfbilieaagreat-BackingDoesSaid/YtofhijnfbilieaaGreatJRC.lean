/-
  The document's own cell in memory; what its Put tells, and what becomes of it and its device.
  What Open makes of the document's own cell; where neither the cell nor the document's own is opened.
-/
import Derived.Test.YtofhijnfbilieaaGreatJE
import Derived.Test.YtofhijnfbilieaaGreatJD
import Derived.Test.YtofhijnfbilieaaGreatJR
namespace Go.Proofs.YtofhijnfbilieaaGreat
open Go.RowKit
set_option linter.unusedVariables false
set_option linter.unusedSimpArgs false
set_option maxRecDepth 20000

variable {rB LB n : Nat} {d : M.Dv}

/-- the document's cell in memory: its own block; z tells which slot is the present one -/
structure RCell (w : World) (kB rB a b z : Nat) (c : M.Cl) : Prop where
  p0 : w.cell? ⟨kB, 0, none⟩ = some (.pointer (some ⟨rB, 0, none⟩))
  p1 : w.cell? ⟨kB, 1, none⟩ = some (.int .i64 (a : Int))
  p2 : w.cell? ⟨kB, 2, none⟩ = some (.int .i64 (b : Int))
  p3 : w.cell? ⟨kB, 3, none⟩ = some (.int .i64 (z : Int))
  p4 : w.cell? ⟨kB, 4, none⟩ = some (.int .i64 c.gen)
  p5 : w.cell? ⟨kB, 5, none⟩ = some (.string c.text)
  fz : ∀ o, w.frozen? ⟨kB, o, none⟩ = false

theorem RCell.lt {w : World} {kB rB a b z : Nat} {c : M.Cl} (h : RCell w kB rB a b z c) : kB < w.heap.size := World.block_lt_of_cell? w _ h.p0
theorem RCell.of_block {w w' : World} {kB rB a b z : Nat} {c : M.Cl} (h : RCell w kB rB a b z c) (hb : w'.heap[kB]? = w.heap[kB]?) : RCell w' kB rB a b z c where
  p0 := by rw [World.cell?_of_block (w := w) (a := ⟨kB, 0, none⟩) hb]; exact h.p0
  p1 := by rw [World.cell?_of_block (w := w) (a := ⟨kB, 1, none⟩) hb]; exact h.p1
  p2 := by rw [World.cell?_of_block (w := w) (a := ⟨kB, 2, none⟩) hb]; exact h.p2
  p3 := by rw [World.cell?_of_block (w := w) (a := ⟨kB, 3, none⟩) hb]; exact h.p3
  p4 := by rw [World.cell?_of_block (w := w) (a := ⟨kB, 4, none⟩) hb]; exact h.p4
  p5 := by rw [World.cell?_of_block (w := w) (a := ⟨kB, 5, none⟩) hb]; exact h.p5
  fz := fun o => by rw [World.frozen?_of_block (w := w) (a := ⟨kB, o, none⟩) hb]; exact h.fz o
theorem RCell.but {w w' : World} {kB rB a b z : Nat} {c : M.Cl} (h : RCell w kB rB a b z c) {l : List Nat} (hb : But l w w') (hn : kB ∉ l) : RCell w' kB rB a b z c := h.of_block (hb.block _ h.lt hn)
theorem RCell.below {w w' : World} {kB rB a b z B : Nat} {c : M.Cl} (h : RCell w kB rB a b z c) (hb : Below B w w') (hB : kB < B) : RCell w' kB rB a b z c := h.of_block (hb.block _ hB)

/-- which slot is the present one behind a put that tells e -/
def zN (e : Int) (y z : Nat) : Nat := if e = 0 then y else z
theorem zN_ok (y z : Nat) : zN 0 y z = y := if_pos rfl
theorem zN_no {e : Int} (h : e ≠ 0) (y z : Nat) : zN e y z = z := if_neg h

/-- the three last parts turned, one after another -/
theorem RCell.set {w : World} {kB rB a b z : Nat} {c : M.Cl} (h : RCell w kB rB a b z c) (y o : Nat) (g : Int) (t : ByteArray) :
    RCell (((w.setCell ⟨kB, 3, none⟩ (.int .i64 (y : Int))).setCell ⟨kB, 4, none⟩ (.int .i64 g)).setCell ⟨kB, 5, none⟩ (.string t)) kB rB a b y ⟨o, g, t⟩ where
  p0 := by rw [World.cell?_setCell_other _ _ _ _ (by simp), World.cell?_setCell_other _ _ _ _ (by simp), World.cell?_setCell_other _ _ _ _ (by simp)]; exact h.p0
  p1 := by rw [World.cell?_setCell_other _ _ _ _ (by simp), World.cell?_setCell_other _ _ _ _ (by simp), World.cell?_setCell_other _ _ _ _ (by simp)]; exact h.p1
  p2 := by rw [World.cell?_setCell_other _ _ _ _ (by simp), World.cell?_setCell_other _ _ _ _ (by simp), World.cell?_setCell_other _ _ _ _ (by simp)]; exact h.p2
  p3 := by
    rw [World.cell?_setCell_other _ _ _ _ (by simp), World.cell?_setCell_other _ _ _ _ (by simp)]
    exact World.cell?_setCell_same _ _ _ h.p3
  p4 := by
    rw [World.cell?_setCell_other _ _ _ _ (by simp)]
    exact World.cell?_setCell_same _ _ _ (show _ = some (Value.int .i64 c.gen) by rw [World.cell?_setCell_other _ _ _ _ (by simp)]; exact h.p4)
  p5 := World.cell?_setCell_same _ _ _ (show _ = some (Value.string c.text) by rw [World.cell?_setCell_other _ _ _ _ (by simp), World.cell?_setCell_other _ _ _ _ (by simp)]; exact h.p5)
  fz := fun o => by rw [World.frozen?_setCell, World.frozen?_setCell, World.frozen?_setCell]; exact h.fz o

theorem rput_seq (w : World) {kB a b z : Nat} {c : M.Cl} (hc : RCell w kB rB a b z c) (hg : c.gen = 4611686018427387904) (t : ByteArray) (ht : t.size ≤ 100) :
    Calls Tryz.prog 36 #[.pointer (some ⟨kB, 0, none⟩), .string t] w fun e w' => e = .returned (.int .i64 23) ∧ w = w' := by
  have p4 := hc.p4
  rw [hg] at p4
  have h' : (t.size : Int) ≤ 100 := by omega
  clear hc hg ht
  go_enter Tryz.func36, Tryz.ntmps36
  go_wp2
  go_ret
  exact ⟨rfl, rfl⟩

set_option maxHeartbeats 4000000 in
theorem rput_0 (w : World) (h : RefAt w rB LB n d) (kB a b z : Nat) (g : Int) (t0 : ByteArray) (hc : RCell w kB rB a b z ⟨0, g, t0⟩) (hz : z = 0 ∨ z = 2) (hs : kB ≠ rB ∧ kB ≠ LB) (hg : 0 ≤ g ∧ g < 4611686018427387904) (hab : a ≤ 1000 ∧ b ≤ 1000) (t : ByteArray) (ht : t.size ≤ 100) :
    Calls Tryz.prog 36 #[.pointer (some ⟨kB, 0, none⟩), .string t] w fun e w' => e = .returned (.int .i64 (M.putE n d a (M.slot (g + 1) t))) ∧ RefAt w' rB LB n (M.putD n d a (M.slot (g + 1) t)) ∧
      RCell w' kB rB a b (zN (M.putE n d a (M.slot (g + 1) t)) 1 z) (M.putC (M.putE n d a (M.slot (g + 1) t)) ⟨0, g, t0⟩ t) ∧ But [rB, LB, kB] w w' := by
  have hm : M.MayS (g + 1) t := ⟨by omega, by omega, ht⟩
  have hwr : IntKind.i64.wrap (g + 1) = g + 1 := by
    obtain ⟨h0, h1⟩ := hg
    simp [IntKind.wrap, IntKind.bits, IntKind.signed]; omega
  have HS := Lib.hid (refslot_yes w.drew (g + 1) t hm)
  rw [show Calls Tryz.prog 62 #[.int .i64 (g + 1), .string t] w.drew = Calls Tryz.prog 62 #[.int .i64 (IntKind.i64.wrap (g + 1)), .string t] w.drew by rw [hwr]] at HS
  clear hwr
  have HLn := Lib.hid (M.slot_small hm)
  have HD := Lib.hid h
  have HC := Lib.hid hc
  have Hs := Lib.hid hs
  have Hg := Lib.hid hg
  have m0 := hc.p0
  have m1 := hc.p1
  have m2 := hc.p2
  have m3 : w.cell? ⟨kB, 3, none⟩ = some (.int .i64 (z : Int)) := hc.p3
  have m4 : w.cell? ⟨kB, 4, none⟩ = some (.int .i64 g) := hc.p4
  have hzne : ((z : Int) == 1) = false := by rw [beq_eq_false_iff_ne]; omega
  have hx0 : (0 : Int) ≤ (a : Int) := by omega
  have hx1 : (a : Int) ≤ 1000 := by omega
  have ht' : (t.size : Int) ≤ 100 := by omega
  have hgne : (g == 4611686018427387904) = false := by rw [beq_eq_false_iff_ne]; omega
  obtain ⟨hg0, hg1⟩ := hg
  generalize M.slot (g + 1) t = sl at *
  clear h hc hs hm hab ht
  go_enter Tryz.func36, Tryz.ntmps36
  go_wp2_with fail
  go_region_held3 (fun w' => w'.cell? ⟨kB, 0, none⟩ = some (.pointer (some ⟨rB, 0, none⟩)) ∧ w'.cell? ⟨kB, 4, none⟩ = some (.int .i64 g))
    (first
      | exact ⟨m0, m4⟩
      | exact ⟨HC1.out.p0, HC1.out.p4⟩
      | exact ⟨HC2.out.p0, HC2.out.p4⟩)
    (first
      | (go_at_call 62; refine HS.out.mono ?_; rintro e w1 ⟨aS, capS, rfl, ho, hb⟩
         have Ho := Lib.hid ho
         have Hb := Lib.hid hb
         have HC1 := Lib.hid ((HC.out.of_block (w' := w.drew) rfl).below hb HC.out.lt)
         have HD1 := Lib.hid (HD.out.drew.but (But.of_below hb) (by simp) (by simp))
         clear ho hb)
      | (go_at_call 18; refine (rwrite_any w1 HD1.out (a : Int) (by omega) (by omega) _ _ _ sl Ho.out.row (.inr fun b off e => by have := (Ho.out.at b off e).1; have := HD.out.drew.ltR; simp; omega)).mono ?_; rintro e w2 ⟨rfl, hd2, hb2⟩
         have HD2 := Lib.hid hd2
         have HB2 : Hid (But [rB, LB, kB] w w2) := Lib.hid ((((But.refl _ w).drew).trans ((But.of_below Hb.out).mono (by simp))).trans (hb2.mono (by simp)))
         have HC2 := Lib.hid (HC1.out.but hb2 (by have := Hs.out; simp; omega))
         clear hd2 hb2))
  by_cases e1 : M.writeE n d (a : Int) sl = 0
  · have HE1 := Lib.hid e1
    have n0 := HC2.out.p0
    rw [e1]
    clear e1 m0 m1 m2 m3 m4 HC1 HD1
    have HBa := Lib.hid (rbarrier_any w2 HD2.out)
    generalize hbe : M.barrierE (M.writeD n d (a : Int) sl) = e2 at HBa
    have HE2 := Lib.hid hbe
    clear hbe
    go_wp2_with fail
    refine HBa.out.mono ?_
    rintro e w3 ⟨rfl, hd3, hb3⟩
    have HD3 := Lib.hid hd3
    have HB3 : Hid (But [rB, LB, kB] w w3) := Lib.hid (HB2.out.trans (hb3.mono (by simp)))
    have HC3 := Lib.hid (HC2.out.but hb3 (by have := Hs.out; simp; omega))
    have hpd : M.putD n d a sl = M.barrierD (M.writeD n d (a : Int) sl) := by unfold M.putD; rw [if_pos HE1.out]
    have hpe : M.putE n d a sl = e2 := by unfold M.putE; rw [if_pos HE1.out]; exact HE2.out
    have HPd := Lib.hid hpd
    have HPe := Lib.hid hpe
    clear hd3 hb3 n0 hpd hpe
    by_cases hz : e2 = 0
    · subst hz
      have k3 : w3.cell? ⟨kB, 3, none⟩ = some (.int .i64 (z : Int)) := HC3.out.p3
      have k4 : w3.cell? ⟨kB, 4, none⟩ = some (.int .i64 g) := HC3.out.p4
      have k5 := HC3.out.p5
      have f3 := HC3.out.fz 3
      have f4 := HC3.out.fz 4
      have f5 := HC3.out.fz 5
      go_wp2_with fail
      have HK := Lib.hid (HC3.out.set 1 (1 - 0) (g + 1) t)
      have HKB : Hid (But [rB, LB, kB] w (((w3.setCell ⟨kB, 3, none⟩ (.int .i64 1)).setCell ⟨kB, 4, none⟩ (.int .i64 (g + 1))).setCell ⟨kB, 5, none⟩ (.string t))) := Lib.hid (((HB3.out.set _ (.inl (by simp))).set _ (.inl (by simp))).set _ (.inl (by simp)))
      have HKD : Hid (RefAt (((w3.setCell ⟨kB, 3, none⟩ (.int .i64 1)).setCell ⟨kB, 4, none⟩ (.int .i64 (g + 1))).setCell ⟨kB, 5, none⟩ (.string t)) rB LB n (M.barrierD (M.writeD n d (a : Int) sl))) := Lib.hid (HD3.out.but ((((But.refl [kB] w3).set _ (.inl (by simp))).set _ (.inl (by simp))).set _ (.inl (by simp))) (by have := Hs.out; simp; omega) (by have := Hs.out; simp; omega))
      go_ret
      exact ⟨by rw [HPe.out]; rfl, by rw [HPd.out]; exact HKD.out, by rw [HPe.out, M.putC_ok, zN_ok]; exact HK.out, HKB.out⟩
    · have hz1 : (e2 == 0) = false := by simpa using hz
      have Hz := Lib.hid hz
      clear hz
      go_wp2_with fail
      go_ret
      exact ⟨by rw [HPe.out]; rfl, by rw [HPd.out]; exact HD3.out, by rw [HPe.out, M.putC_no Hz.out, zN_no Hz.out]; exact HC3.out, HB3.out⟩
  · have hpe : M.putE n d a sl = M.writeE n d (a : Int) sl := by unfold M.putE; rw [if_neg e1]
    have hpd : M.putD n d a sl = M.writeD n d (a : Int) sl := by unfold M.putD; rw [if_neg e1]
    have HPd := Lib.hid hpd
    have HPe := Lib.hid hpe
    have He1 := Lib.hid e1
    clear hpe hpd
    generalize M.writeE n d (a : Int) sl = e3 at *
    have hz1 : (e3 == 0) = false := by simpa using e1
    clear e1
    go_wp2_with fail
    go_ret
    exact ⟨by rw [HPe.out]; rfl, by rw [HPd.out]; exact HD2.out, by rw [HPe.out, M.putC_no He1.out, zN_no He1.out]; exact HC2.out, HB2.out⟩

set_option maxHeartbeats 4000000 in
theorem rput_1 (w : World) (h : RefAt w rB LB n d) (kB a b : Nat) (g : Int) (t0 : ByteArray) (hc : RCell w kB rB a b 1 ⟨1, g, t0⟩) (hs : kB ≠ rB ∧ kB ≠ LB) (hg : 0 ≤ g ∧ g < 4611686018427387904) (hab : a ≤ 1000 ∧ b ≤ 1000) (t : ByteArray) (ht : t.size ≤ 100) :
    Calls Tryz.prog 36 #[.pointer (some ⟨kB, 0, none⟩), .string t] w fun e w' => e = .returned (.int .i64 (M.putE n d b (M.slot (g + 1) t))) ∧ RefAt w' rB LB n (M.putD n d b (M.slot (g + 1) t)) ∧
      RCell w' kB rB a b (zN (M.putE n d b (M.slot (g + 1) t)) 2 1) (M.putC (M.putE n d b (M.slot (g + 1) t)) ⟨1, g, t0⟩ t) ∧ But [rB, LB, kB] w w' := by
  have hm : M.MayS (g + 1) t := ⟨by omega, by omega, ht⟩
  have hwr : IntKind.i64.wrap (g + 1) = g + 1 := by
    obtain ⟨h0, h1⟩ := hg
    simp [IntKind.wrap, IntKind.bits, IntKind.signed]; omega
  have HS := Lib.hid (refslot_yes w.drew (g + 1) t hm)
  rw [show Calls Tryz.prog 62 #[.int .i64 (g + 1), .string t] w.drew = Calls Tryz.prog 62 #[.int .i64 (IntKind.i64.wrap (g + 1)), .string t] w.drew by rw [hwr]] at HS
  clear hwr
  have HLn := Lib.hid (M.slot_small hm)
  have HD := Lib.hid h
  have HC := Lib.hid hc
  have Hs := Lib.hid hs
  have Hg := Lib.hid hg
  have m0 := hc.p0
  have m1 := hc.p1
  have m2 := hc.p2
  have m3 : w.cell? ⟨kB, 3, none⟩ = some (.int .i64 1) := hc.p3
  have m4 : w.cell? ⟨kB, 4, none⟩ = some (.int .i64 g) := hc.p4
  have hx0 : (0 : Int) ≤ (b : Int) := by omega
  have hx1 : (b : Int) ≤ 1000 := by omega
  have ht' : (t.size : Int) ≤ 100 := by omega
  have hgne : (g == 4611686018427387904) = false := by rw [beq_eq_false_iff_ne]; omega
  obtain ⟨hg0, hg1⟩ := hg
  generalize M.slot (g + 1) t = sl at *
  clear h hc hs hm hab ht
  go_enter Tryz.func36, Tryz.ntmps36
  go_wp2_with fail
  go_region_held3 (fun w' => w'.cell? ⟨kB, 0, none⟩ = some (.pointer (some ⟨rB, 0, none⟩)) ∧ w'.cell? ⟨kB, 4, none⟩ = some (.int .i64 g))
    (first
      | exact ⟨m0, m4⟩
      | exact ⟨HC1.out.p0, HC1.out.p4⟩
      | exact ⟨HC2.out.p0, HC2.out.p4⟩)
    (first
      | (go_at_call 62; refine HS.out.mono ?_; rintro e w1 ⟨aS, capS, rfl, ho, hb⟩
         have Ho := Lib.hid ho
         have Hb := Lib.hid hb
         have HC1 := Lib.hid ((HC.out.of_block (w' := w.drew) rfl).below hb HC.out.lt)
         have HD1 := Lib.hid (HD.out.drew.but (But.of_below hb) (by simp) (by simp))
         clear ho hb)
      | (go_at_call 18; refine (rwrite_any w1 HD1.out (b : Int) (by omega) (by omega) _ _ _ sl Ho.out.row (.inr fun b off e => by have := (Ho.out.at b off e).1; have := HD.out.drew.ltR; simp; omega)).mono ?_; rintro e w2 ⟨rfl, hd2, hb2⟩
         have HD2 := Lib.hid hd2
         have HB2 : Hid (But [rB, LB, kB] w w2) := Lib.hid ((((But.refl _ w).drew).trans ((But.of_below Hb.out).mono (by simp))).trans (hb2.mono (by simp)))
         have HC2 := Lib.hid (HC1.out.but hb2 (by have := Hs.out; simp; omega))
         clear hd2 hb2))
  by_cases e1 : M.writeE n d (b : Int) sl = 0
  · have HE1 := Lib.hid e1
    have n0 := HC2.out.p0
    rw [e1]
    clear e1 m0 m1 m2 m3 m4 HC1 HD1
    have HBa := Lib.hid (rbarrier_any w2 HD2.out)
    generalize hbe : M.barrierE (M.writeD n d (b : Int) sl) = e2 at HBa
    have HE2 := Lib.hid hbe
    clear hbe
    go_wp2_with fail
    refine HBa.out.mono ?_
    rintro e w3 ⟨rfl, hd3, hb3⟩
    have HD3 := Lib.hid hd3
    have HB3 : Hid (But [rB, LB, kB] w w3) := Lib.hid (HB2.out.trans (hb3.mono (by simp)))
    have HC3 := Lib.hid (HC2.out.but hb3 (by have := Hs.out; simp; omega))
    have hpd : M.putD n d b sl = M.barrierD (M.writeD n d (b : Int) sl) := by unfold M.putD; rw [if_pos HE1.out]
    have hpe : M.putE n d b sl = e2 := by unfold M.putE; rw [if_pos HE1.out]; exact HE2.out
    have HPd := Lib.hid hpd
    have HPe := Lib.hid hpe
    clear hd3 hb3 n0 hpd hpe
    by_cases hz : e2 = 0
    · subst hz
      have k3 : w3.cell? ⟨kB, 3, none⟩ = some (.int .i64 1) := HC3.out.p3
      have k4 : w3.cell? ⟨kB, 4, none⟩ = some (.int .i64 g) := HC3.out.p4
      have k5 := HC3.out.p5
      have f3 := HC3.out.fz 3
      have f4 := HC3.out.fz 4
      have f5 := HC3.out.fz 5
      go_wp2_with fail
      have HK := Lib.hid (HC3.out.set 2 (1 - 1) (g + 1) t)
      have HKB : Hid (But [rB, LB, kB] w (((w3.setCell ⟨kB, 3, none⟩ (.int .i64 2)).setCell ⟨kB, 4, none⟩ (.int .i64 (g + 1))).setCell ⟨kB, 5, none⟩ (.string t))) := Lib.hid (((HB3.out.set _ (.inl (by simp))).set _ (.inl (by simp))).set _ (.inl (by simp)))
      have HKD : Hid (RefAt (((w3.setCell ⟨kB, 3, none⟩ (.int .i64 2)).setCell ⟨kB, 4, none⟩ (.int .i64 (g + 1))).setCell ⟨kB, 5, none⟩ (.string t)) rB LB n (M.barrierD (M.writeD n d (b : Int) sl))) := Lib.hid (HD3.out.but ((((But.refl [kB] w3).set _ (.inl (by simp))).set _ (.inl (by simp))).set _ (.inl (by simp))) (by have := Hs.out; simp; omega) (by have := Hs.out; simp; omega))
      go_ret
      exact ⟨by rw [HPe.out]; rfl, by rw [HPd.out]; exact HKD.out, by rw [HPe.out, M.putC_ok, zN_ok]; exact HK.out, HKB.out⟩
    · have hz1 : (e2 == 0) = false := by simpa using hz
      have Hz := Lib.hid hz
      clear hz
      go_wp2_with fail
      go_ret
      exact ⟨by rw [HPe.out]; rfl, by rw [HPd.out]; exact HD3.out, by rw [HPe.out, M.putC_no Hz.out, zN_no Hz.out]; exact HC3.out, HB3.out⟩
  · have hpe : M.putE n d b sl = M.writeE n d (b : Int) sl := by unfold M.putE; rw [if_neg e1]
    have hpd : M.putD n d b sl = M.writeD n d (b : Int) sl := by unfold M.putD; rw [if_neg e1]
    have HPd := Lib.hid hpd
    have HPe := Lib.hid hpe
    have He1 := Lib.hid e1
    clear hpe hpd
    generalize M.writeE n d (b : Int) sl = e3 at *
    have hz1 : (e3 == 0) = false := by simpa using e1
    clear e1
    go_wp2_with fail
    go_ret
    exact ⟨by rw [HPe.out]; rfl, by rw [HPd.out]; exact HD2.out, by rw [HPe.out, M.putC_no He1.out, zN_no He1.out]; exact HC2.out, HB2.out⟩

/-- which slot is the present one, and which one is written next -/
def ZO (z o : Nat) : Prop := (z = 1 ∧ o = 1) ∨ ((z = 0 ∨ z = 2) ∧ o = 0)

theorem rput_all (w : World) (h : RefAt w rB LB n d) (kB a b z : Nat) (c : M.Cl) (hc : RCell w kB rB a b z c) (hz : ZO z c.o) (hs : kB ≠ rB ∧ kB ≠ LB) (hg : 0 ≤ c.gen ∧ c.gen ≤ 4611686018427387904) (hab : a ≤ 1000 ∧ b ≤ 1000) (t : ByteArray) (ht : t.size ≤ 100) :
    Calls Tryz.prog 36 #[.pointer (some ⟨kB, 0, none⟩), .string t] w fun e w' => e = .returned (.int .i64 (M.puE n d a b c t)) ∧ RefAt w' rB LB n (M.puD n d a b c t) ∧
      (∃ z', ZO z' (M.puC n d a b c t).o ∧ RCell w' kB rB a b z' (M.puC n d a b c t)) ∧ But [rB, LB, kB] w w' := by
  unfold M.puE M.puD M.puC
  by_cases hq : c.gen = 4611686018427387904
  · rw [if_pos hq, if_pos hq, if_pos hq]
    refine (rput_seq w hc hq t ht).mono ?_
    rintro e w' ⟨rfl, rfl⟩
    exact ⟨rfl, h, ⟨z, hz, hc⟩, But.refl _ _⟩
  · rw [if_neg hq, if_neg hq, if_neg hq]
    obtain ⟨o, g, t0⟩ := c
    simp only at hz hg hq ⊢
    rcases hz with ⟨rfl, rfl⟩ | ⟨hz, rfl⟩
    · refine (rput_1 w h kB a b g t0 hc hs ⟨hg.1, by omega⟩ hab t ht).mono ?_
      rintro e w' ⟨rfl, h1, h2, h3⟩
      refine ⟨rfl, h1, ⟨_, ?_, h2⟩, h3⟩
      change ZO _ (M.putC (M.putE n d b (M.slot (g + 1) t)) ⟨1, g, t0⟩ t).o
      by_cases he : M.putE n d b (M.slot (g + 1) t) = 0
      · rw [he, zN_ok, M.putC_ok]; exact .inr ⟨.inr rfl, rfl⟩
      · rw [zN_no he, M.putC_no he]; exact .inl ⟨rfl, rfl⟩
    · refine (rput_0 w h kB a b z g t0 hc hz hs ⟨hg.1, by omega⟩ hab t ht).mono ?_
      rintro e w' ⟨rfl, h1, h2, h3⟩
      refine ⟨rfl, h1, ⟨_, ?_, h2⟩, h3⟩
      change ZO _ (M.putC (M.putE n d a (M.slot (g + 1) t)) ⟨0, g, t0⟩ t).o
      by_cases he : M.putE n d a (M.slot (g + 1) t) = 0
      · rw [he, zN_ok, M.putC_ok]; exact .inl ⟨rfl, rfl⟩
      · rw [zN_no he, M.putC_no he]; exact .inr ⟨hz, rfl⟩
end Go.Proofs.YtofhijnfbilieaaGreat
namespace Go.Proofs.YtofhijnfbilieaaGreat
open Go.RowKit
set_option linter.unusedVariables false
set_option linter.unusedSimpArgs false
set_option maxRecDepth 20000

variable {dB sB mB rB LB n : Nat} {d : M.Dv}

theorem rcell_new (w : World) (rB a b : Nat) : RCell (w.alloc (.cells #[.pointer (some ⟨rB, 0, none⟩), .int .i64 (a : Int), .int .i64 (b : Int), .int .i64 0, .int .i64 0, .string ⟨#[]⟩] 86)) w.heap.size rB a b 0 M.none0 where
  p0 := by rw [World.cell?_alloc_mark]; rfl
  p1 := by rw [World.cell?_alloc_mark]; rfl
  p2 := by rw [World.cell?_alloc_mark]; rfl
  p3 := by rw [World.cell?_alloc_mark]; rfl
  p4 := by rw [World.cell?_alloc_mark]; rfl
  p5 := by rw [World.cell?_alloc_mark]; rfl
  fz := fun o => World.frozen?_alloc_at _ _ _ _ rfl

theorem M.rdP_some {l : List UInt8} {g : Int} {t : ByteArray} (h : M.rdS l = some (g, t)) : M.rdP l = (g, t) := by unfold M.rdP; rw [h]; rfl
theorem M.rdP_none {l : List UInt8} (h : M.rdS l = none) : M.rdP l = (0, ByteArray.empty) := by unfold M.rdP; rw [h]; rfl
theorem M.rdP_range (l : List UInt8) : 0 ≤ (M.rdP l).1 ∧ (M.rdP l).1 ≤ 4611686018427387904 := by
  cases h : M.rdS l with
  | none => rw [M.rdP_none h]; exact ⟨by omega, by omega⟩
  | some x =>
    obtain ⟨g, t⟩ := x
    rw [M.rdP_some h]
    have := (M.slot_rdS h).1
    exact ⟨by have := this.1; show 0 ≤ g; omega, this.2.1⟩
/-- what is found, told by what the two sectors say -/
theorem M.found_is (l m : List UInt8) : M.found (M.rdS l) (M.rdS m) = if (M.rdP l).1 < (M.rdP m).1 then ⟨0, (M.rdP m).1, (M.rdP m).2⟩ else if 0 < (M.rdP l).1 then ⟨1, (M.rdP l).1, (M.rdP l).2⟩ else M.none0 := by
  rcases M.found_ways l m with ⟨h1, h2, h3⟩ | ⟨g, t, h1, h2, h3, h4⟩ | ⟨g, t, h1, h2, h3, h4⟩ | ⟨g, t, g', t', h1, h2, h3, h4, h5, h6⟩ | ⟨g, t, g', t', h1, h2, h3, h4, h5, h6⟩
  · rw [h3, M.rdP_none h1, M.rdP_none h2]; rfl
  · rw [h4, M.rdP_none h1, M.rdP_some h2]
    have := h3.1
    rw [if_pos (show (0 : Int) < g by omega)]
  · rw [h4, M.rdP_some h1, M.rdP_none h2]
    have := h3.1
    rw [if_neg (show ¬ g < (0 : Int) by omega), if_pos (show (0 : Int) < g by omega)]
  · rw [h6, M.rdP_some h1, M.rdP_some h2, if_pos h5]
  · rw [h6, M.rdP_some h1, M.rdP_some h2, if_neg h5]
    have := h3.1
    rw [if_pos (show (0 : Int) < g by omega)]

theorem row_at {w : World} {a : Option Addr} {c : Nat} {l : List UInt8} (h : Row w a 144 c (u8s l)) : ∃ b off, a = some ⟨b, off, none⟩ := by
  obtain ⟨h1, h2, h3, h4⟩ := h
  rcases h4 with h4 | ⟨b, off, ha, _⟩
  · rw [h4] at h1; simp at h1
  · exact ⟨b, off, ha⟩

set_option maxHeartbeats 4000000 in
theorem ropen_yes (w : World) (h : RefAt w rB LB n d) (hdead : d.dead = false) (a b : Nat) (hab : a ≠ b) (ha : a < n) (hb : b < n) :
    Calls Tryz.prog 27 #[.pointer (some ⟨rB, 0, none⟩), .int .i64 (a : Int), .int .i64 (b : Int)] w fun e w' => ∃ kB z, e = .returned (.tuple #[.pointer (some ⟨kB, 0, none⟩), .int .i64 0]) ∧ w.heap.size ≤ kB ∧
      ZO z (M.found (M.rdS (M.seen d a)) (M.rdS (M.seen d b))).o ∧ RCell w' kB rB a b z (M.found (M.rdS (M.seen d a)) (M.rdS (M.seen d b))) ∧ Below w.heap.size w w' := by
  have HD := Lib.hid h
  have hne : ((a : Int) == (b : Int)) = false := by rw [beq_eq_false_iff_ne]; omega
  have HR : Hid (∀ i, i < n → M.reach n d (i : Int) = 0) := Lib.hid fun i hi => by
    unfold M.reach; rw [hdead, if_neg (by simp), if_neg (by omega)]
  have HL := Lib.hid (And.intro ha hb)
  have HC := Lib.hid (rcell_new w rB a b)
  have hsec := h.sec
  have hde := h.dead
  rw [hdead] at hde
  have ha0 : ¬ (a : Int) < 0 := by omega
  have hb0 : ¬ (b : Int) < 0 := by omega
  have han : ¬ (n : Int) ≤ (a : Int) := by omega
  have hbn : ¬ (n : Int) ≤ (b : Int) := by omega
  have HF := Lib.hid (M.found_is (M.seen d a) (M.seen d b))
  have HP1 := Lib.hid (M.rdP_range (M.seen d a))
  have HP2 := Lib.hid (M.rdP_range (M.seen d b))
  clear h hdead hab ha hb
  have HRl : Hid (rB < w.heap.size ∧ LB < w.heap.size) := Lib.hid ⟨HD.out.ltR, HD.out.lt⟩
  have HSn : Hid (∀ i, (M.seen d i).length = 144) := Lib.hid fun i => M.sure_len HD.out.wf i
  have HRa : Hid (Calls Tryz.prog 24 #[.pointer (some ⟨rB, 0, none⟩), .int .i64 (a : Int)] (w.alloc (.cells #[.pointer (some ⟨rB, 0, none⟩), .int .i64 (a : Int), .int .i64 (b : Int), .int .i64 0, .int .i64 0, .string ⟨#[]⟩] 86)) fun e w' => ∃ bR oR cR, e = .returned (.tuple #[.slice (some ⟨bR, oR, none⟩) 144 cR, .int .i64 0]) ∧ Row w' (some ⟨bR, oR, none⟩) 144 cR (u8s (M.seen d a)) ∧ Below w.heap.size w w' ∧ RCell w' w.heap.size rB a b 0 M.none0) := Lib.hid ((rread_yes _ (HD.out.alloc _) a (HR.out a HL.out.1)).mono (by
    rintro e w1 ⟨aR, cR, rfl, hrow, hb1⟩
    obtain ⟨bR, oR, rfl⟩ := row_at hrow
    exact ⟨bR, oR, cR, rfl, hrow, ((Below.refl _ w).alloc (Nat.le_refl _) _).trans (hb1.mono (by simp)), HC.out.below hb1 HC.out.lt⟩))
  have HRb : Hid (∀ w1, Below w.heap.size w w1 → Calls Tryz.prog 24 #[.pointer (some ⟨rB, 0, none⟩), .int .i64 (b : Int)] w1 fun e w' => ∃ bR oR cR, e = .returned (.tuple #[.slice (some ⟨bR, oR, none⟩) 144 cR, .int .i64 0]) ∧ Row w' (some ⟨bR, oR, none⟩) 144 cR (u8s (M.seen d b)) ∧ Below w1.heap.size w1 w') := Lib.hid fun w1 hb1 => (rread_yes w1 (HD.out.below hb1 HRl.out.1 HRl.out.2) b (HR.out b HL.out.2)).mono (by
    rintro e w1 ⟨aR, cR, rfl, hrow, hb1⟩
    obtain ⟨bR, oR, rfl⟩ := row_at hrow
    exact ⟨bR, oR, cR, rfl, hrow, hb1⟩)
  clear HC
  go_enter Tryz.func27, Tryz.ntmps27
  go_wp2_with (first
    | (go_at_call 24; with_reducible refine HRa.out.mono ?_; rintro e w1 ⟨bR, oR, cR, rfl, hrow, hb1, hc1⟩
       have HB1 := Lib.hid hb1
       have HC1 := Lib.hid hc1
       have HRow1 := Lib.hid hrow
       clear hrow hb1 hc1)
    | (go_at_call 24; with_reducible refine (HRb.out w1 HB1.out).mono ?_; rintro e w2 ⟨bS, oS, cS, rfl, hrow, hb2⟩
       have HB2 : Hid (Below w.heap.size w w2) := Lib.hid (cbelow_up HB1.out hb2 HB1.out.size)
       have HC2 := Lib.hid (HC1.out.below hb2 HC1.out.lt)
       have HRow2 := Lib.hid (row_but HRow1.out (But.of_below hb2) (.inr (by simp)))
       have HRow2b := Lib.hid hrow
       have HX2 := Lib.hid (refread_any w2 bR oR 144 cR _ HRow2.out (by omega) (by omega))
       clear hrow hb2)
    | (go_at_call 50; with_reducible refine HX2.out.mono ?_; rintro e w3 ⟨rfl, hb3⟩
       have HB3 : Hid (Below w.heap.size w w3) := Lib.hid (cbelow_up HB2.out hb3 HB2.out.size)
       have HC3 := Lib.hid (HC2.out.below hb3 HC2.out.lt)
       have HRow3b := Lib.hid (row_but HRow2b.out (But.of_below hb3) (.inr (by simp)))
       have HX3 := Lib.hid (refread_any w3 bS oS 144 cS _ HRow3b.out (by omega) (by omega))
       clear hb3))
  refine HX3.out.mono ?_
  rintro e w4 ⟨rfl, hb4⟩
  have HB4 : Hid (Below w.heap.size w w4) := Lib.hid (cbelow_up HB3.out hb4 HB3.out.size)
  have HC4 := Lib.hid (HC3.out.below hb4 HC3.out.lt)
  clear hb4 HX2 HX3 HRa HRb HRow1 HRow2 HRow2b HRow3b HB1 HB2 HB3 HC1 HC2 HC3 HR hsec hde
  generalize (M.rdP (M.seen d a)).1 = g at *
  generalize (M.rdP (M.seen d a)).2 = s at *
  generalize (M.rdP (M.seen d b)).1 = g' at *
  generalize (M.rdP (M.seen d b)).2 = s' at *
  have hk3 : w4.cell? ⟨w.heap.size, 3, none⟩ = some (.int .i64 0) := HC4.out.p3
  have hk4 : w4.cell? ⟨w.heap.size, 4, none⟩ = some (.int .i64 0) := HC4.out.p4
  have hk5 : w4.cell? ⟨w.heap.size, 5, none⟩ = some (.string ⟨#[]⟩) := HC4.out.p5
  have f3 := HC4.out.fz 3
  have f4 := HC4.out.fz 4
  have f5 := HC4.out.fz 5
  have hgr := HP1.out
  have hgr2 := HP2.out
  by_cases hg : 0 < g
  · by_cases hgg : g < g'
    · have Hc : Hid (M.found (M.rdS (M.seen d a)) (M.rdS (M.seen d b)) = ⟨0, g', s'⟩) := Lib.hid (by rw [HF.out, if_pos hgg])
      go_wp2_with fail
      go_ret2
      exact ⟨w.heap.size, 2, rfl, Nat.le_refl _, by rw [Hc.out]; exact .inr ⟨.inr rfl, rfl⟩, by rw [Hc.out]; exact (HC4.out.set 1 1 g s).set 2 0 g' s', ((((((HB4.out.setCell (Nat.le_refl _) _).setCell (Nat.le_refl _) _).setCell (Nat.le_refl _) _).setCell (Nat.le_refl _) _).setCell (Nat.le_refl _) _).setCell (Nat.le_refl _) _)⟩
    · have Hc : Hid (M.found (M.rdS (M.seen d a)) (M.rdS (M.seen d b)) = ⟨1, g, s⟩) := Lib.hid (by rw [HF.out, if_neg hgg, if_pos hg])
      go_wp2_with fail
      go_ret2
      exact ⟨w.heap.size, 1, rfl, Nat.le_refl _, by rw [Hc.out]; exact .inl ⟨rfl, rfl⟩, by rw [Hc.out]; exact HC4.out.set 1 1 g s, (((HB4.out.setCell (Nat.le_refl _) _).setCell (Nat.le_refl _) _).setCell (Nat.le_refl _) _)⟩
  · by_cases hgg : g < g'
    · have Hc : Hid (M.found (M.rdS (M.seen d a)) (M.rdS (M.seen d b)) = ⟨0, g', s'⟩) := Lib.hid (by rw [HF.out, if_pos hgg])
      go_wp2_with fail
      go_ret2
      exact ⟨w.heap.size, 2, rfl, Nat.le_refl _, by rw [Hc.out]; exact .inr ⟨.inr rfl, rfl⟩, by rw [Hc.out]; exact HC4.out.set 2 0 g' s', (((HB4.out.setCell (Nat.le_refl _) _).setCell (Nat.le_refl _) _).setCell (Nat.le_refl _) _)⟩
    · have Hc : Hid (M.found (M.rdS (M.seen d a)) (M.rdS (M.seen d b)) = M.none0) := Lib.hid (by rw [HF.out, if_neg hgg, if_neg hg])
      go_wp2_with fail
      go_ret2
      exact ⟨w.heap.size, 0, rfl, Nat.le_refl _, by rw [Hc.out]; exact .inr ⟨.inl rfl, rfl⟩, by rw [Hc.out]; exact HC4.out, HB4.out⟩

/-- which numbers of sectors are no two -/
def Bad (n : Nat) (x y : Int) : Prop := x = y ∨ x < 0 ∨ y < 0 ∨ (n : Int) ≤ x ∨ (n : Int) ≤ y

theorem has_any (w : World) (h : DevAt w dB sB mB n d) (x : Int) :
    Calls Tryz.prog 68 #[.pointer (some ⟨dB, 0, none⟩), .int .i64 x] w fun e w' => e = .returned (.bool (decide (0 ≤ x ∧ x < (n : Int)))) ∧ w = w' := by
  have HS := Lib.hid (sectors_any w h)
  by_cases h0 : 0 ≤ x
  · by_cases h1 : x < (n : Int)
    · rw [decide_eq_true (show 0 ≤ x ∧ x < (n : Int) from ⟨h0, h1⟩)]
      clear h
      go_enter Tryz.func68, Tryz.ntmps68
      go_wp2_with (go_at_call 25; with_reducible refine HS.out.mono ?_; rintro e w' ⟨rfl, rfl⟩)
      go_ret
      exact ⟨rfl, rfl⟩
    · rw [decide_eq_false (show ¬ (0 ≤ x ∧ x < (n : Int)) from fun h => h1 h.2)]
      clear h
      go_enter Tryz.func68, Tryz.ntmps68
      go_wp2_with (go_at_call 25; with_reducible refine HS.out.mono ?_; rintro e w' ⟨rfl, rfl⟩)
      go_ret
      exact ⟨congrArg (fun b => Ending.returned (.bool b)) (decide_eq_false (by omega)), rfl⟩
  · rw [decide_eq_false (show ¬ (0 ≤ x ∧ x < (n : Int)) from fun h => h0 h.1)]
    clear h
    go_enter Tryz.func68, Tryz.ntmps68
    go_wp2_with (go_at_call 25; with_reducible refine HS.out.mono ?_; rintro e w' ⟨rfl, rfl⟩)
    go_ret
    exact ⟨rfl, rfl⟩

theorem copen_bad (w : World) (h : DevAt w dB sB mB n d) (x y : Int) (hb : Bad n x y) :
    Calls Tryz.prog 49 #[.pointer (some ⟨dB, 0, none⟩), .int .i64 x, .int .i64 y] w fun e w' => e = .returned (.tuple #[.pointer none, .int .i64 1]) ∧ w = w' := by
  by_cases he : x = y
  · subst he; exact open_same w _ x
  · have hne : (x == y) = false := by rw [beq_eq_false_iff_ne]; exact he
    have HX := Lib.hid (has_any w h x)
    have HY := Lib.hid (has_any w h y)
    by_cases hx : 0 ≤ x ∧ x < (n : Int)
    · have hy : ¬ (0 ≤ y ∧ y < (n : Int)) := by unfold Bad at hb; omega
      rw [decide_eq_true hx] at HX
      rw [decide_eq_false hy] at HY
      clear h hb he hx hy
      go_enter Tryz.func49, Tryz.ntmps49
      go_wp2_with (go_at_call 68; first | (with_reducible refine HX.out.mono ?_; rintro e w' ⟨rfl, rfl⟩) | (with_reducible refine HY.out.mono ?_; rintro e w' ⟨rfl, rfl⟩))
      go_ret2
      exact ⟨rfl, rfl⟩
    · rw [decide_eq_false hx] at HX
      clear h hb he hx HY
      go_enter Tryz.func49, Tryz.ntmps49
      go_wp2_with (go_at_call 68; (with_reducible refine HX.out.mono ?_); rintro e w' ⟨rfl, rfl⟩)
      go_ret2
      exact ⟨rfl, rfl⟩

theorem ropen_bad (w : World) (h : RefAt w rB LB n d) (x y : Int) (hb : Bad n x y) :
    Calls Tryz.prog 27 #[.pointer (some ⟨rB, 0, none⟩), .int .i64 x, .int .i64 y] w fun e w' => e = .returned (.tuple #[.pointer none, .int .i64 1]) ∧ w = w' := by
  have hsec := h.sec
  have key : x = y ∨ (¬ x = y ∧ x < 0) ∨ (¬ x = y ∧ ¬ x < 0 ∧ y < 0) ∨ (¬ x = y ∧ ¬ x < 0 ∧ ¬ y < 0 ∧ (n : Int) ≤ x) ∨ (¬ x = y ∧ ¬ x < 0 ∧ ¬ y < 0 ∧ ¬ (n : Int) ≤ x ∧ (n : Int) ≤ y) := by unfold Bad at hb; omega
  clear h hb
  rcases key with h1 | ⟨h1, h2⟩ | ⟨h1, h2, h3⟩ | ⟨h1, h2, h3, h4⟩ | ⟨h1, h2, h3, h4, h5⟩
  · subst h1
    go_enter Tryz.func27, Tryz.ntmps27
    go_wp2_with fail
    go_ret2
    exact ⟨rfl, rfl⟩
  all_goals
    have hne : (x == y) = false := by rw [beq_eq_false_iff_ne]; exact h1
    clear h1
    go_enter Tryz.func27, Tryz.ntmps27
    go_wp2_with fail
    go_ret2
    exact ⟨rfl, rfl⟩
end Go.Proofs.YtofhijnfbilieaaGreat
