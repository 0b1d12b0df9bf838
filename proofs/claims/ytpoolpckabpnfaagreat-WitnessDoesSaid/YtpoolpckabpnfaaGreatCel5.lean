/-
  What Put tells, and what becomes of the cell and its device.
-/
import Derived.Test.YtpoolpckabpnfaaGreatCel4
import Derived.Deep.RegionHeld3
import Derived.BigRegion
namespace Go.Proofs.YtpoolpckabpnfaaGreat
open Go.RowKit
set_option linter.unusedVariables false
set_option linter.unusedSimpArgs false
set_option maxRecDepth 20000

variable {dB sB mB n : Nat} {d : M.Dv}

namespace M
/-- what Put tells, and what it makes of the device, where it writes bytes l to sector i -/
def putE (n : Nat) (d : Dv) (i : Nat) (l : List UInt8) : Int := if writeE n d i l = 0 then barrierE (writeD n d i l) else writeE n d i l
def putD (n : Nat) (d : Dv) (i : Nat) (l : List UInt8) : Dv := if writeE n d i l = 0 then barrierD (writeD n d i l) else writeD n d i l
/-- what Put makes of the cell, where it tells e -/
def putC (e : Int) (c : Cl) (t : ByteArray) : Cl := if e = 0 then ⟨1 - c.o, c.gen + 1, t⟩ else c
theorem putC_ok (c : Cl) (t : ByteArray) : putC 0 c t = ⟨1 - c.o, c.gen + 1, t⟩ := if_pos rfl
theorem putC_no {e : Int} (h : e ≠ 0) (c : Cl) (t : ByteArray) : putC e c t = c := if_neg h
end M

theorem put_long (w : World) (p : Addr) (t : ByteArray) (h : ¬ t.size ≤ 100) :
    Calls Tryz.prog 90 #[.pointer (some p), .string t] w fun e w' => e = .returned (.int .i64 3) ∧ w = w' := by
  have h' : (100 : Int) < (t.size : Int) := by omega
  clear h
  go_enter Tryz.func90, Tryz.ntmps90
  go_wp2
  go_ret
  exact ⟨rfl, rfl⟩

set_option maxHeartbeats 4000000 in
theorem put_0 (w : World) (h : DevAt w dB sB mB n d) (cB a b : Nat) (g : Int) (t0 : ByteArray) (hc : CellAt w cB dB a b ⟨0, g, t0⟩) (hs : cB ≠ dB ∧ cB ≠ sB ∧ cB ≠ mB) (hg : 0 ≤ g ∧ g < 4611686018427387904) (hab : a ≤ 1000 ∧ b ≤ 1000) (t : ByteArray) (ht : t.size ≤ 100) :
    Calls Tryz.prog 90 #[.pointer (some ⟨cB, 0, none⟩), .string t] w fun e w' => e = .returned (.int .i64 (M.putE n d a (M.slot (g + 1) t))) ∧ DevAt w' dB sB mB n (M.putD n d a (M.slot (g + 1) t)) ∧
      CellAt w' cB dB a b (M.putC (M.putE n d a (M.slot (g + 1) t)) ⟨0, g, t0⟩ t) ∧ But [dB, sB, mB, cB] w w' := by
  have hm : M.MayS (g + 1) t := ⟨by omega, by omega, ht⟩
  have hwr : IntKind.i64.wrap (g + 1) = g + 1 := by
    obtain ⟨h0, h1⟩ := hg
    simp [IntKind.wrap, IntKind.bits, IntKind.signed]; omega
  have HS := Lib.hid (slot_yes w.drew (g + 1) t hm)
  rw [show Calls Tryz.prog 104 #[.int .i64 (g + 1), .string t] w.drew = Calls Tryz.prog 104 #[.int .i64 (IntKind.i64.wrap (g + 1)), .string t] w.drew by rw [hwr]] at HS
  clear hwr
  have HLn := Lib.hid (M.slot_small hm)
  have HD := Lib.hid h
  have HC := Lib.hid hc
  have Hs := Lib.hid hs
  have Hg := Lib.hid hg
  have m0 := hc.p0
  have m1 : w.cell? ⟨cB, 1, none⟩ = some (.int .i64 (a : Int)) := hc.p1
  have m3 : w.cell? ⟨cB, 3, none⟩ = some (.int .i64 0) := hc.p3
  have m4 : w.cell? ⟨cB, 4, none⟩ = some (.int .i64 g) := hc.p4
  have hx0 : (0 : Int) ≤ (a : Int) := by omega
  have hx1 : (a : Int) ≤ 1000 := by omega
  have ht' : (t.size : Int) ≤ 100 := by omega
  have hgne : (g == 4611686018427387904) = false := by rw [beq_eq_false_iff_ne]; omega
  obtain ⟨hg0, hg1⟩ := hg
  generalize M.slot (g + 1) t = sl at *
  clear h hc hs hm hab ht
  go_enter Tryz.func90, Tryz.ntmps90
  go_wp2_with fail
  go_region_held3 (fun w' => w'.cell? ⟨cB, 0, none⟩ = some (.pointer (some ⟨dB, 0, none⟩)) ∧ w'.cell? ⟨cB, 1, none⟩ = some (.int .i64 (a : Int)) ∧ w'.cell? ⟨cB, 3, none⟩ = some (.int .i64 0) ∧ w'.cell? ⟨cB, 4, none⟩ = some (.int .i64 g))
    (first
      | exact ⟨m0, m1, m3, m4⟩
      | exact ⟨HC1.out.p0, HC1.out.p1, HC1.out.p3, HC1.out.p4⟩
      | exact ⟨HC2.out.p0, HC2.out.p1, HC2.out.p3, HC2.out.p4⟩)
    (first
      | (go_at_call 104; refine HS.out.mono ?_; rintro e w1 ⟨aS, capS, rfl, ho, hb⟩
         have Ho := Lib.hid ho
         have Hb := Lib.hid hb
         have HC1 := Lib.hid ((HC.out.of_block (w' := w.drew) rfl).below hb HC.out.lt)
         have HD1 := Lib.hid (HD.out.drew.but (But.of_below hb) (by simp) (by simp) (by simp))
         clear ho hb)
      | (go_at_call 19; refine (write_any w1 HD1.out (a : Int) (by omega) (by omega) _ _ _ sl Ho.out.row (.inr fun b off e => by have := (Ho.out.at b off e).1; have := HD.out.drew.ltD; simp; omega)).mono ?_; rintro e w2 ⟨rfl, hd2, hb2⟩
         have HD2 := Lib.hid hd2
         have HB2 : Hid (But [dB, sB, mB, cB] w w2) := Lib.hid ((((But.refl _ w).drew).trans ((But.of_below Hb.out).mono (by simp))).trans (hb2.mono (by simp)))
         have HC2 := Lib.hid (HC1.out.but hb2 (by have := Hs.out; simp; omega))
         clear hd2 hb2))
  by_cases e1 : M.writeE n d (a : Int) sl = 0
  · have HE1 := Lib.hid e1
    have n0 := HC2.out.p0
    rw [e1]
    clear e1 m0 m1 m3 m4 HC1 HD1
    have HBa := Lib.hid (barrier_any w2 HD2.out)
    generalize hbe : M.barrierE (M.writeD n d (a : Int) sl) = e2 at HBa
    have HE2 := Lib.hid hbe
    clear hbe
    go_wp2_with fail
    refine HBa.out.mono ?_
    rintro e w3 ⟨rfl, hd3, hb3⟩
    have HD3 := Lib.hid hd3
    have HB3 : Hid (But [dB, sB, mB, cB] w w3) := Lib.hid (HB2.out.trans (hb3.mono (by simp)))
    have HC3 := Lib.hid (HC2.out.but hb3 (by have := Hs.out; simp; omega))
    have hpd : M.putD n d a sl = M.barrierD (M.writeD n d (a : Int) sl) := by unfold M.putD; rw [if_pos HE1.out]
    have hpe : M.putE n d a sl = e2 := by unfold M.putE; rw [if_pos HE1.out]; exact HE2.out
    have HPd := Lib.hid hpd
    have HPe := Lib.hid hpe
    clear hd3 hb3 n0 hpd hpe
    by_cases hz : e2 = 0
    · subst hz
      have k0 := HC3.out.p0
      have k3 : w3.cell? ⟨cB, 3, none⟩ = some (.int .i64 0) := HC3.out.p3
      have k4 : w3.cell? ⟨cB, 4, none⟩ = some (.int .i64 g) := HC3.out.p4
      have k5 := HC3.out.p5
      have f3 := HC3.out.fz 3
      have f4 := HC3.out.fz 4
      have f5 := HC3.out.fz 5
      go_wp2_with fail
      have HK := Lib.hid (HC3.out.set (1 - 0) (g + 1) t)
      have HKB : Hid (But [dB, sB, mB, cB] w (((w3.setCell ⟨cB, 4, none⟩ (.int .i64 (g + 1))).setCell ⟨cB, 5, none⟩ (.string t)).setCell ⟨cB, 3, none⟩ (.int .i64 1))) := Lib.hid (((HB3.out.set _ (.inl (by simp))).set _ (.inl (by simp))).set _ (.inl (by simp)))
      have HKD : Hid (DevAt (((w3.setCell ⟨cB, 4, none⟩ (.int .i64 (g + 1))).setCell ⟨cB, 5, none⟩ (.string t)).setCell ⟨cB, 3, none⟩ (.int .i64 1)) dB sB mB n (M.barrierD (M.writeD n d (a : Int) sl))) := Lib.hid (HD3.out.but ((((But.refl [cB] w3).set _ (.inl (by simp))).set _ (.inl (by simp))).set _ (.inl (by simp))) (by have := Hs.out; simp; omega) (by have := Hs.out; simp; omega) (by have := Hs.out; simp; omega))
      go_region
      go_wp2_with fail
      go_ret
      exact ⟨by rw [HPe.out]; rfl, by rw [HPd.out]; exact HKD.out.drew, by rw [HPe.out, M.putC_ok]; exact HK.out.of_block rfl, HKB.out.drew⟩
    · have hz1 : (e2 != 0) = true := by simpa using hz
      have Hz := Lib.hid hz
      clear hz
      go_wp2_with fail
      go_ret
      exact ⟨by rw [HPe.out]; rfl, by rw [HPd.out]; exact HD3.out, by rw [HPe.out, M.putC_no Hz.out]; exact HC3.out, HB3.out⟩
  · have hpe : M.putE n d a sl = M.writeE n d (a : Int) sl := by unfold M.putE; rw [if_neg e1]
    have hpd : M.putD n d a sl = M.writeD n d (a : Int) sl := by unfold M.putD; rw [if_neg e1]
    have HPd := Lib.hid hpd
    have HPe := Lib.hid hpe
    have He1 := Lib.hid e1
    clear hpe hpd
    generalize M.writeE n d (a : Int) sl = e3 at *
    have hz1 : (e3 != 0) = true := by simpa using e1
    clear e1
    go_wp2_with fail
    go_ret
    exact ⟨by rw [HPe.out]; rfl, by rw [HPd.out]; exact HD2.out, by rw [HPe.out, M.putC_no He1.out]; exact HC2.out, HB2.out⟩

set_option maxHeartbeats 4000000 in
theorem put_1 (w : World) (h : DevAt w dB sB mB n d) (cB a b : Nat) (g : Int) (t0 : ByteArray) (hc : CellAt w cB dB a b ⟨1, g, t0⟩) (hs : cB ≠ dB ∧ cB ≠ sB ∧ cB ≠ mB) (hg : 0 ≤ g ∧ g < 4611686018427387904) (hab : a ≤ 1000 ∧ b ≤ 1000) (t : ByteArray) (ht : t.size ≤ 100) :
    Calls Tryz.prog 90 #[.pointer (some ⟨cB, 0, none⟩), .string t] w fun e w' => e = .returned (.int .i64 (M.putE n d b (M.slot (g + 1) t))) ∧ DevAt w' dB sB mB n (M.putD n d b (M.slot (g + 1) t)) ∧
      CellAt w' cB dB a b (M.putC (M.putE n d b (M.slot (g + 1) t)) ⟨1, g, t0⟩ t) ∧ But [dB, sB, mB, cB] w w' := by
  have hm : M.MayS (g + 1) t := ⟨by omega, by omega, ht⟩
  have hwr : IntKind.i64.wrap (g + 1) = g + 1 := by
    obtain ⟨h0, h1⟩ := hg
    simp [IntKind.wrap, IntKind.bits, IntKind.signed]; omega
  have HS := Lib.hid (slot_yes w.drew (g + 1) t hm)
  rw [show Calls Tryz.prog 104 #[.int .i64 (g + 1), .string t] w.drew = Calls Tryz.prog 104 #[.int .i64 (IntKind.i64.wrap (g + 1)), .string t] w.drew by rw [hwr]] at HS
  clear hwr
  have HLn := Lib.hid (M.slot_small hm)
  have HD := Lib.hid h
  have HC := Lib.hid hc
  have Hs := Lib.hid hs
  have Hg := Lib.hid hg
  have m0 := hc.p0
  have m1 : w.cell? ⟨cB, 2, none⟩ = some (.int .i64 (b : Int)) := hc.p2
  have m3 : w.cell? ⟨cB, 3, none⟩ = some (.int .i64 1) := hc.p3
  have m4 : w.cell? ⟨cB, 4, none⟩ = some (.int .i64 g) := hc.p4
  have hx0 : (0 : Int) ≤ (b : Int) := by omega
  have hx1 : (b : Int) ≤ 1000 := by omega
  have ht' : (t.size : Int) ≤ 100 := by omega
  have hgne : (g == 4611686018427387904) = false := by rw [beq_eq_false_iff_ne]; omega
  obtain ⟨hg0, hg1⟩ := hg
  generalize M.slot (g + 1) t = sl at *
  clear h hc hs hm hab ht
  go_enter Tryz.func90, Tryz.ntmps90
  go_wp2_with fail
  go_region_held3 (fun w' => w'.cell? ⟨cB, 0, none⟩ = some (.pointer (some ⟨dB, 0, none⟩)) ∧ w'.cell? ⟨cB, 2, none⟩ = some (.int .i64 (b : Int)) ∧ w'.cell? ⟨cB, 3, none⟩ = some (.int .i64 1) ∧ w'.cell? ⟨cB, 4, none⟩ = some (.int .i64 g))
    (first
      | exact ⟨m0, m1, m3, m4⟩
      | exact ⟨HC1.out.p0, HC1.out.p2, HC1.out.p3, HC1.out.p4⟩
      | exact ⟨HC2.out.p0, HC2.out.p2, HC2.out.p3, HC2.out.p4⟩)
    (first
      | (go_at_call 104; refine HS.out.mono ?_; rintro e w1 ⟨aS, capS, rfl, ho, hb⟩
         have Ho := Lib.hid ho
         have Hb := Lib.hid hb
         have HC1 := Lib.hid ((HC.out.of_block (w' := w.drew) rfl).below hb HC.out.lt)
         have HD1 := Lib.hid (HD.out.drew.but (But.of_below hb) (by simp) (by simp) (by simp))
         clear ho hb)
      | (go_at_call 19; refine (write_any w1 HD1.out (b : Int) (by omega) (by omega) _ _ _ sl Ho.out.row (.inr fun b off e => by have := (Ho.out.at b off e).1; have := HD.out.drew.ltD; simp; omega)).mono ?_; rintro e w2 ⟨rfl, hd2, hb2⟩
         have HD2 := Lib.hid hd2
         have HB2 : Hid (But [dB, sB, mB, cB] w w2) := Lib.hid ((((But.refl _ w).drew).trans ((But.of_below Hb.out).mono (by simp))).trans (hb2.mono (by simp)))
         have HC2 := Lib.hid (HC1.out.but hb2 (by have := Hs.out; simp; omega))
         clear hd2 hb2))
  by_cases e1 : M.writeE n d (b : Int) sl = 0
  · have HE1 := Lib.hid e1
    have n0 := HC2.out.p0
    rw [e1]
    clear e1 m0 m1 m3 m4 HC1 HD1
    have HBa := Lib.hid (barrier_any w2 HD2.out)
    generalize hbe : M.barrierE (M.writeD n d (b : Int) sl) = e2 at HBa
    have HE2 := Lib.hid hbe
    clear hbe
    go_wp2_with fail
    refine HBa.out.mono ?_
    rintro e w3 ⟨rfl, hd3, hb3⟩
    have HD3 := Lib.hid hd3
    have HB3 : Hid (But [dB, sB, mB, cB] w w3) := Lib.hid (HB2.out.trans (hb3.mono (by simp)))
    have HC3 := Lib.hid (HC2.out.but hb3 (by have := Hs.out; simp; omega))
    have hpd : M.putD n d b sl = M.barrierD (M.writeD n d (b : Int) sl) := by unfold M.putD; rw [if_pos HE1.out]
    have hpe : M.putE n d b sl = e2 := by unfold M.putE; rw [if_pos HE1.out]; exact HE2.out
    have HPd := Lib.hid hpd
    have HPe := Lib.hid hpe
    clear hd3 hb3 n0 hpd hpe
    by_cases hz : e2 = 0
    · subst hz
      have k0 := HC3.out.p0
      have k3 : w3.cell? ⟨cB, 3, none⟩ = some (.int .i64 1) := HC3.out.p3
      have k4 : w3.cell? ⟨cB, 4, none⟩ = some (.int .i64 g) := HC3.out.p4
      have k5 := HC3.out.p5
      have f3 := HC3.out.fz 3
      have f4 := HC3.out.fz 4
      have f5 := HC3.out.fz 5
      go_wp2_with fail
      have HK := Lib.hid (HC3.out.set (1 - 1) (g + 1) t)
      have HKB : Hid (But [dB, sB, mB, cB] w (((w3.setCell ⟨cB, 4, none⟩ (.int .i64 (g + 1))).setCell ⟨cB, 5, none⟩ (.string t)).setCell ⟨cB, 3, none⟩ (.int .i64 0))) := Lib.hid (((HB3.out.set _ (.inl (by simp))).set _ (.inl (by simp))).set _ (.inl (by simp)))
      have HKD : Hid (DevAt (((w3.setCell ⟨cB, 4, none⟩ (.int .i64 (g + 1))).setCell ⟨cB, 5, none⟩ (.string t)).setCell ⟨cB, 3, none⟩ (.int .i64 0)) dB sB mB n (M.barrierD (M.writeD n d (b : Int) sl))) := Lib.hid (HD3.out.but ((((But.refl [cB] w3).set _ (.inl (by simp))).set _ (.inl (by simp))).set _ (.inl (by simp))) (by have := Hs.out; simp; omega) (by have := Hs.out; simp; omega) (by have := Hs.out; simp; omega))
      go_region
      go_wp2_with fail
      go_ret
      exact ⟨by rw [HPe.out]; rfl, by rw [HPd.out]; exact HKD.out.drew, by rw [HPe.out, M.putC_ok]; exact HK.out.of_block rfl, HKB.out.drew⟩
    · have hz1 : (e2 != 0) = true := by simpa using hz
      have Hz := Lib.hid hz
      clear hz
      go_wp2_with fail
      go_ret
      exact ⟨by rw [HPe.out]; rfl, by rw [HPd.out]; exact HD3.out, by rw [HPe.out, M.putC_no Hz.out]; exact HC3.out, HB3.out⟩
  · have hpe : M.putE n d b sl = M.writeE n d (b : Int) sl := by unfold M.putE; rw [if_neg e1]
    have hpd : M.putD n d b sl = M.writeD n d (b : Int) sl := by unfold M.putD; rw [if_neg e1]
    have HPd := Lib.hid hpd
    have HPe := Lib.hid hpe
    have He1 := Lib.hid e1
    clear hpe hpd
    generalize M.writeE n d (b : Int) sl = e3 at *
    have hz1 : (e3 != 0) = true := by simpa using e1
    clear e1
    go_wp2_with fail
    go_ret
    exact ⟨by rw [HPe.out]; rfl, by rw [HPd.out]; exact HD2.out, by rw [HPe.out, M.putC_no He1.out]; exact HC2.out, HB2.out⟩

end Go.Proofs.YtpoolpckabpnfaaGreat
