/-
  The calls whose answers the document fixes.
-/
import Derived.Test.YtbcblcnnffdjdaaDev5
import Derived.Lib.SlBytesConst
namespace Go.Proofs.Ytbcblcnnffdjdaa
open Go.RowKit Go.Maps
set_option linter.unusedVariables false
set_option linter.unusedSimpArgs false
set_option maxRecDepth 20000

variable {dB sB mB n : Nat} {d : M.Dv}

namespace M
def a0 : Dv := fresh
def a1 : Dv := writeD 2 a0 1 [97, 98]
def a2 : Dv := barrierD a1
def a3 : Dv := writeD 2 a2 1 [120, 121, 122]
def a4 : Dv := crashD 2 a3 [(2, 1)]
def a5 : Dv := fuseD a4 0
def a6 : Dv := writeD 2 a5 0 []
theorem e1 : writeE 2 a0 1 [97, 98] = 0 := by rfl
theorem e2 : barrierE a1 = 0 := by rfl
theorem e3 : writeE 2 a2 1 [120, 121, 122] = 0 := by rfl
theorem p3 : pendL 2 a3.P = [1] := by rfl
theorem r4 : reach 2 a4 1 = 0 := by rfl
theorem g4 : (seen a4 1).take 3 = [120, 98, 0] := by rfl
theorem l4 : (seen a4 1).length = 144 := by rfl
theorem e6 : writeE 2 a5 0 [] = 30 := by rfl
theorem d6 : a6.dead = true := by rfl
end M

def str (l : List UInt8) : ByteArray := ⟨l.toArray⟩

/-- bytes that lie in memory, as a string -/
theorem conv_row {w : World} {a : Option Addr} {m c : Nat} {l : List UInt8} (h : Row w a m c (u8s l)) : (convert 28 9 (.slice a m c)).run Try.prog w = .ok (.string (str l)) w := by
  obtain ⟨h1, h2, h3, h4⟩ := h
  have hl : l.length = m := by rw [← h1, u8s_length]
  subst hl
  cases a with
  | none =>
    rcases h4 with h4 | ⟨b, off, e, _⟩
    · have : l = [] := by simpa [u8s] using h4
      subst this
      rw [run_convert_bytes_string w 28 9 5 none _ c Try.underlying28 Try.underlying5 Try.underlying9]
      simp [Conv.bytesToString, str]
      rfl
    · cases e
  | some x =>
    refine run_convert_bytes_back w 28 9 5 x c l Try.underlying28 Try.underlying5 Try.underlying9 fun j hj => ?_
    rcases h4 with h4 | ⟨b, off, e, _, hc⟩
    · have : l = [] := by simpa [u8s] using h4
      subst this
      simp at hj
    · injection e with e
      subst e
      rw [Addr.add_mid, hc j hj]
      simp [u8s, u8, hj]

/-- a row that has just been laid -/
theorem row_lit (w : World) (l : List UInt8) (fr : Nat × Nat) (h : l.length ≤ 1000) : Row (w.alloc (.cells (u8s l).toArray 5 fr)) (some ⟨w.heap.size, 0, none⟩) l.length l.length (u8s l) := by
  refine ⟨u8s_length l, Nat.le_refl _, by simp only [maxLen]; omega, .inr ⟨w.heap.size, 0, rfl, by simp, fun i hi => ?_⟩⟩
  rw [World.cell?_alloc_mark]
  simp

theorem write_lit (w : World) (h : DevAt w dB sB mB n d) (i : Int) (hi1 : -9223372036854775808 ≤ i) (hi2 : i ≤ 9223372036854775807) (l : List UInt8) (fr : Nat × Nat) (hl : l.length ≤ 1000) {e0 : Int} (he : M.writeE n d i l = e0) {d' : M.Dv} (hd' : M.writeD n d i l = d') :
    Calls Try.prog 13 #[.pointer (some ⟨dB, 0, none⟩), .int .i64 i, .slice (some ⟨w.heap.size, 0, none⟩) l.length l.length] (w.alloc (.cells (u8s l).toArray 5 fr)) fun e w' => e = .returned (.int .i64 e0) ∧ DevAt w' dB sB mB n d' ∧ But [dB, mB] w w' := by
  refine (write_any _ (h.alloc _) i hi1 hi2 _ _ _ l (row_lit w l fr hl) (.inr fun b off e => by injection e with e; injection e with e1 e2; have := h.ltD; simp; omega)).mono ?_
  rintro e w' ⟨rfl, hd, hb⟩
  rw [hd'] at hd
  exact ⟨by rw [he], hd, ((But.refl _ _).alloc _).trans hb⟩

set_option maxHeartbeats 2000000 in
theorem awake_any (w : World) : Calls Try.prog 9 #[] w fun e w' => e = .returned (.bool true) ∧ Below w.heap.size w w' := by
  have kc := fun (w : World) (C : Array Value) (n c : Nat) => Lib.run_convert_bytes_const (P := Try.prog) w 28 5 C n c Try.underlying28 Try.underlying5
  go_enter Try.func9, Try.ntmps9
  go_wp2_with fail
  refine (new_yes 2 (by omega) _).mono ?_
  rintro e w1 ⟨dB, sB, mB, rfl, hd0, hb1, l1, l2, l3⟩
  have HD0 := Lib.hid hd0
  have HB1 := Lib.hid hb1
  have HL : Hid (w.heap.size ≤ dB ∧ w.heap.size ≤ sB ∧ w.heap.size ≤ mB) := Lib.hid ⟨l1, l2, l3⟩
  have HB : Hid (∀ w', But [dB, sB, mB] w1 w' → Below w.heap.size w w') := Lib.hid (fun w' hb => hb1.trans (hb.to_below (by simp; omega) hb1.size))
  clear hd0 hb1 l1 l2 l3
  go_wp2_with (first
    | (refine (new_no (-1) (by omega) _).mono ?_; rintro e w' ⟨rfl, rfl⟩))
  refine (write_lit _ HD0.out 1 (by omega) (by omega) [97, 98] _ (by simp) M.e1 (d' := M.a1) rfl).mono ?_
  rintro e w2 ⟨rfl, hd1, hb2⟩
  have HD1 := Lib.hid hd1
  have HB2 : Hid (But [dB, sB, mB] w1 w2) := Lib.hid (hb2.mono (by simp))
  clear hd1 hb2
  go_wp2_with fail
  refine (barrier_any _ HD1.out).mono ?_
  rw [M.e2]
  rintro e w3 ⟨rfl, hd1, hb2⟩
  have HD2 : Hid (DevAt w3 dB sB mB 2 M.a2) := Lib.hid hd1
  have HB3 : Hid (But [dB, sB, mB] w1 w3) := Lib.hid (HB2.out.trans hb2)
  clear hd1 hb2
  go_wp2_with fail
  refine (write_lit _ HD2.out 1 (by omega) (by omega) [120, 121, 122] _ (by simp) M.e3 (d' := M.a3) rfl).mono ?_
  rintro e w4 ⟨rfl, hd1, hb2⟩
  have HD3 := Lib.hid hd1
  have HB4 : Hid (But [dB, sB, mB] w1 w4) := Lib.hid (HB3.out.trans (hb2.mono (by simp)))
  clear hd1 hb2
  go_wp2_with fail
  refine (pending_any _ HD3.out).mono ?_
  rw [M.p3]
  rintro e w5 ⟨v, rfl, hrow, hb⟩
  obtain ⟨aP, cP, rfl, hr1, hab⟩ := own_row hrow (by simp [ints])
  simp only [List.length_cons, List.length_nil, Nat.zero_add] at hr1 ⊢
  obtain ⟨bP, rfl, hbP, hcP, hltP⟩ : ∃ bP, aP = some ⟨bP, 0, none⟩ ∧ w4.heap.size ≤ bP ∧ w5.cell? ⟨bP, 0, none⟩ = some (.int .i64 1) ∧ bP < w5.heap.size := by
    rcases hr1.2.2.2 with h0 | ⟨b, off, e, hb, hc⟩
    · simp [ints] at h0
    · obtain ⟨g1, g2⟩ := hab b off e
      subst g2
      exact ⟨b, e, g1, (hc 0 (by omega)).trans rfl, hb⟩
  have HD4 := Lib.hid (HD3.out.but ((But.refl [] _).below hb (Nat.le_refl _)) (by simp) (by simp) (by simp))
  have HB5 : Hid (But [dB, sB, mB] w1 w5) := Lib.hid (HB4.out.below hb HB4.out.size)
  have HPn : Hid (bP ≠ dB ∧ bP ≠ sB ∧ bP ≠ mB) := Lib.hid ⟨by have := HD3.out.ltD; omega, by have := HD3.out.lt; omega, by have := HD3.out.pend.lt; omega⟩
  have HcP := Lib.hid (And.intro hcP hltP)
  clear hrow hb hr1 hab hcP hltP hbP
  go_wp2_with fail
  have hkr : KRow (w5.alloc (.cells #[.int .i64 2, .int .i64 1] 61)) (some ⟨w5.heap.size, 0, none⟩) 1 1 [(2, 1)] := by
    refine ⟨rfl, Nat.le_refl _, by simp [maxLen], .inr ⟨w5.heap.size, 0, rfl, by simp, fun i x hi => ?_⟩⟩
    cases i with
    | zero =>
      simp only [List.getElem?_cons_zero, Option.some.injEq] at hi
      subst hi
      exact ⟨by rw [World.cell?_alloc_mark]; rfl, by rw [World.cell?_alloc_mark]; rfl⟩
    | succ i => simp at hi
  refine (crash_any _ (HD4.out.alloc _) _ _ _ _ hkr (.inr fun b off e => by injection e with e; injection e with e1 e2; simp; have := HD4.out.ltD; have := HD4.out.lt; have := HD4.out.pend.lt; omega)).mono ?_
  rintro e w6 ⟨rfl, hd1, hb2⟩
  have HD5 : Hid (DevAt w6 dB sB mB 2 M.a4) := Lib.hid hd1
  have HB6 : Hid (But [dB, sB, mB] w5 w6) := Lib.hid (((But.refl _ _).alloc _).trans hb2)
  clear hd1 hb2 hkr
  go_wp2_with fail
  refine (read_yes _ HD5.out 1 M.r4).mono ?_
  rintro e w7 ⟨bR, rfl, hbR, hltR, hrg, _, hb⟩
  have HB7 : Hid (But [dB, sB, mB] w5 w7) := Lib.hid (HB6.out.below hb HB6.out.size)
  have HD6 : Hid (DevAt w7 dB sB mB 2 M.a4) := Lib.hid (HD5.out.but ((But.refl [] _).below hb (Nat.le_refl _)) (by simp) (by simp) (by simp))
  have HRn : Hid (bR ≠ dB ∧ bR ≠ sB ∧ bR ≠ mB ∧ bR < w7.heap.size) := Lib.hid ⟨by have := HD5.out.ltD; omega, by have := HD5.out.lt; omega, by have := HD5.out.pend.lt; omega, hltR⟩
  have HRg := Lib.hid hrg
  clear hbR hltR hrg hb
  go_wp2_with fail
  refine (fuse_any _ HD6.out 0 (by omega) (by omega)).mono ?_
  rintro e w8 ⟨rfl, hd1, hb2⟩
  have HD7 : Hid (DevAt w8 dB sB mB 2 M.a5) := Lib.hid hd1
  have HB8 : Hid (But [dB, sB, mB] w7 w8) := Lib.hid (hb2.mono (by simp))
  clear hd1 hb2
  go_wp2_with fail
  refine (write_any _ HD7.out 0 (by omega) (by omega) none 0 0 [] (row_nil _) (.inr (by simp))).mono ?_
  rw [M.e6]
  rintro e w9 ⟨rfl, hd1, hb2⟩
  have HD8 : Hid (DevAt w9 dB sB mB 2 M.a6) := Lib.hid hd1
  have HB9 : Hid (But [dB, sB, mB] w7 w9) := Lib.hid (HB8.out.trans (hb2.mono (by simp)))
  clear hd1 hb2
  have hcell : w9.cell? ⟨bP, 0, none⟩ = some (.int .i64 1) := by
    rw [(HB7.out.trans HB9.out).cell HcP.out.2 (by have := HPn.out; simp; omega)]; exact HcP.out.1
  have hconv : (convert 28 9 (.slice (some ⟨bR, 0, none⟩) 3 144)).run Try.prog w9 = .ok (.string (str [120, 98, 0])) w9 := by
    have h1 := row_range (rangeAt_block HRg.out (HB9.out.block bR HRn.out.2.2.2 (by have := HRn.out; simp; omega))) (Nat.lt_of_lt_of_le HRn.out.2.2.2 HB9.out.size) (cap := 144) (by rw [u8s_length, M.l4]; omega) (by simp [maxLen])
    have h2 := row_take h1 (k := 3) (by rw [u8s_length, M.l4]; omega)
    unfold u8s at h2
    rw [← List.map_take, M.g4] at h2
    exact conv_row h2
  have hdd := M.d6
  have HDD := Lib.hid (dead_any _ HD8.out)
  rw [hdd] at HDD
  have HSS := Lib.hid (sectors_any _ HD8.out)
  have hstr : (str [120, 98, 0]).toList = [120, 98, 0] := by rw [ByteArray.toList_eq]; rfl
  rw [show ((2 : Nat) : Int) = 2 from rfl] at HSS
  clear hdd
  go_wp2_with (first
    | (go_at_call 29; refine HDD.out.mono ?_; rintro e w' ⟨rfl, rfl⟩)
    | (go_at_call 30; refine HSS.out.mono ?_; rintro e w' ⟨rfl, rfl⟩))
  go_ret
  exact ⟨rfl, HB1.out.trans ((HB5.out.trans (HB7.out.trans HB9.out)).to_below (by have := HL.out; simp; omega) HB1.out.size)⟩
end Go.Proofs.Ytbcblcnnffdjdaa
