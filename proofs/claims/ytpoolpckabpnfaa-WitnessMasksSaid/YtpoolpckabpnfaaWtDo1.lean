/-
  What ticks do to a life; what an act of no kind does.
-/
import Derived.Test.YtpoolpckabpnfaaWtDo0
import Derived.BigQuiet
import Derived.Deep.RegionHeld3
import Derived.Deep.DeepCutAuto
namespace Go.Proofs.Ytpoolpckabpnfaa.Wt
open Go.RowKit
open Ml (Mg may msgV MB)
set_option linter.unusedVariables false
set_option linter.unusedSimpArgs false
set_option maxRecDepth 20000

variable {w0 w w' : World} {gB pB dB sB mB : Nat} {d : M.Dv} {tB cB : Nat} {c : M.Cl} {L W : Int} {N : Nat} {E : Int → Option Int}


def tks (n : Int) : Nat := (max (n.tmod 50) 0).toNat
set_option maxHeartbeats 8000000 in
theorem do1 (h : LF w0 w gB pB dB sB mB d tB cB c L W N E) (x : Ac) (hk : x.kind = 1) (hx : -9223372036854775808 ≤ x.n ∧ x.n ≤ 9223372036854775807) :
    Calls Try.prog 11 #[.pointer (some ⟨gB, 0, none⟩), actV x] w fun e w' => e = .returned (.tuple #[msgV Ml.nil, .bool false]) ∧
      LF w0 w' gB pB dB sB mB d tB cB c (max (L - (tks x.n : Int)) 0) W N E := by
  have hX := do_boxes w x.cells.toArray
  have HL := Lib.hid (h.below hX.2.2).lb
  have Hge := Lib.hid (fun g => @LF.not_mem w0 w gB pB dB sB mB d tB cB c L W N E h g)
  have HXa := Lib.hid hX.1
  have HZ0 := Lib.hid hX.2.1
  have Hw0 : Hid (w0.heap.size ≤ w.heap.size + 1) := Lib.hid (by have := h.bu.size; omega)
  have Hfi := Lib.hid (And.intro h.fi h.gd)
  have HL0 := h.ws.lf
  have HTk := Lib.hid (fun (w' : World) (L' : Int) (h : WS w' dB sB mB 2 d tB cB 0 1 c L' W) => tick_any h)
  obtain ⟨K, hK⟩ : ∃ K, tks x.n = K := ⟨_, rfl⟩
  have HK := Lib.hid hK
  have HKK : Hid (K ≤ 50) := Lib.hid (by rw [← hK]; unfold tks; have := Int.tmod_lt_of_pos x.n (show (0 : Int) < 50 by omega); omega)
  obtain ⟨kind, n, fr, ⟨mk, mep, msq, mn, mb, mc, me, m0, m1, m2, m3, data, row⟩, s, aL, nL, cL, l⟩ := x
  simp only at hk hx hK HK
  subst hk
  rw [hK]
  obtain ⟨q, hq⟩ : ∃ q, n.tmod 50 = q := ⟨_, rfl⟩
  have hq1 : q < 50 := by rw [← hq]; exact Int.tmod_lt_of_pos n (by omega)
  have hq2 : -50 < q := by rw [← hq]; exact Int.lt_tmod_of_pos n (by omega)
  have e1 : IntKind.i64.wrap (n.tmod 50) = q := by rw [hq]; exact IntWalk.i64_in _ (by omega)
  have hKq : (K : Int) = max q 0 := by rw [← hK]; unfold tks; rw [hq]; omega
  have HKq := Lib.hid hKq
  have HLL := Lib.hid HL0
  clear h hX hK hKq HL0
  simp only [actV, Ac.cells, Mg.cells, msgV, Ml.nil] at *
  go_enter Try.func11, Try.ntmps11
  go_wp2
  generalize (w.alloc (.cells #[.int .i64 1, .int .i64 n, .int .i64 fr, .int .i64 mk, .int .i64 mep, .int .i64 msq, .int .i64 mn, .int .i64 mb, .int .i64 mc, .int .i64 me, .int .i64 m0, .int .i64 m1, .int .i64 m2, .int .i64 m3, .string data, .string row, .string s, .slice aL nL cL] 38)).alloc (.cells #[.int .i64 0, .int .i64 0, .int .i64 0, .int .i64 0, .int .i64 0, .int .i64 0, .int .i64 0, .int .i64 0, .int .i64 0, .int .i64 0, .int .i64 0, .string ⟨#[]⟩, .string ⟨#[]⟩] 35) = W0 at *
  go_loopw [10] (fun iv wr => ∃ i : Nat, i ≤ K ∧ iv = .int .i64 (i : Int) ∧ LB w0 wr gB pB dB sB mB d tB cB c (max (L - (i : Int)) 0) W N E ∧ Bo wr w.heap.size #[.int .i64 1, .int .i64 n, .int .i64 fr, .int .i64 mk, .int .i64 mep, .int .i64 msq, .int .i64 mn, .int .i64 mb, .int .i64 mc, .int .i64 me, .int .i64 m0, .int .i64 m1, .int .i64 m2, .int .i64 m3, .string data, .string row, .string s, .slice aL nL cL] 38 ∧ MB wr (w.heap.size + 1) Ml.nil) (fun iv _ => K - (intOf iv).toNat)
  case atStart => exact ⟨0, by omega, rfl, by have := HLL.out.1; rw [show max (L - ((0 : Nat) : Int)) 0 = L by omega]; exact HL.out, HXa.out, HZ0.out⟩
  case round =>
    obtain ⟨i, hi, rfl, hlb, hxa, hz⟩ := hrel
    have HLb := Lib.hid hlb
    have HX := Lib.hid hxa
    have HZ := Lib.hid hz
    have y1 := HX.out.cell 1
    have q1 := HLb.out.lf.cell 1
    simp only [lfC, List.getElem?_toArray, List.getElem?_cons_zero, List.getElem?_cons_succ] at y1 q1
    clear hlb hxa hz
    by_cases hlt : i < K
    · have g1 : (i : Int) < q := by have := HKq.out; omega
      have g0 : (0 : Int) ≤ (i : Int) := by omega
      have g50 : (i : Int) ≤ 50 := by omega
      have Hi := Lib.hid hlt
      clear hi hlt
      go_wp2_with (go_at_call 18; with_reducible refine (HTk.out _ _ HLb.out.ws).mono ?_; rintro e w2 ⟨rfl, hs, hb⟩
                   have HL2 := Lib.hid (HLb.out.turn hs hb)
                   have HX2 := Lib.hid (HX.out.but hb (fun hx => Hge.out _ (Nat.le_refl _) (by simp [hx])))
                   have HZ2 := Lib.hid (mb_but HZ.out hb (fun hx => Hge.out _ (Nat.le_succ _) (by simp [hx])))
                   clear hs hb)
      go_roundw
      case rel =>
        refine ⟨i + 1, by have := Hi.out; omega, by go_num, ?_, HX2.out, HZ2.out⟩
        have e : left (max (L - (i : Int)) 0 - 1) = max (L - ((i + 1 : Nat) : Int)) 0 := by unfold left; omega
        rw [← e]; exact HL2.out
      case measure => have := Hi.out; simp [intOf]; omega
    · obtain rfl : i = K := by omega
      have g1 : ¬ (i : Int) < q := by have := HKq.out; have := HLL.out; omega
      go_wp2_with (refine wpList_storeM rfl _ _ rfl (w.heap.size + 1) rfl Ml.nil rfl (mb_there HZ.out) ?_; intro w9 hw9)
      subst hw9
      refine ret_msg4 (m := Ml.nil) (v := .bool false) Try.results11 rfl rfl rfl (Ml.mb_set HZ.out _) ⟨rfl, ?_⟩
      exact (HLb.out.but ((But.refl [w.heap.size + 1] _).sets (w.heap.size + 1) 0 (Mg.cells Ml.nil).toList (.inl (by simp))) (by simp only [List.mem_singleton]; rintro x rfl; exact Hge.out _ (Nat.le_succ _)) (by simp only [List.mem_singleton]; rintro x rfl; exact Hw0.out)).lf' Hfi.out.1 Hfi.out.2

set_option maxHeartbeats 8000000 in
theorem do9 (h : LF w0 w gB pB dB sB mB d tB cB c L W N E) (x : Ac) (hk : x.kind < 0 ∨ 3 < x.kind) :
    Calls Try.prog 11 #[.pointer (some ⟨gB, 0, none⟩), actV x] w fun e w' => e = .returned (.tuple #[msgV Ml.nil, .bool false]) ∧
      LF w0 w' gB pB dB sB mB d tB cB c L W N E := by
  have hX := do_boxes w x.cells.toArray
  have HL := Lib.hid (h.below hX.2.2)
  have HZ := Lib.hid hX.2.1
  have k0 : (x.kind == 0) = false := by rw [beq_eq_false_iff_ne]; omega
  have k1 : (x.kind == 1) = false := by rw [beq_eq_false_iff_ne]; omega
  have k2 : (x.kind == 2) = false := by rw [beq_eq_false_iff_ne]; omega
  have k3 : (x.kind == 3) = false := by rw [beq_eq_false_iff_ne]; omega
  obtain ⟨kind, n, fr, ⟨mk, mep, msq, mn, mb, mc, me, m0, m1, m2, m3, data, row⟩, s, aL, nL, cL, l⟩ := x
  simp only [actV, Ac.cells, Mg.cells, msgV, Ml.nil] at *
  clear h hX hk
  go_enter Try.func11, Try.ntmps11
  go_wp2
  exact ret_msg4 (m := Ml.nil) (v := .bool false) Try.results11 rfl rfl rfl HZ.out ⟨rfl, HL.out⟩
end Go.Proofs.Ytpoolpckabpnfaa.Wt
