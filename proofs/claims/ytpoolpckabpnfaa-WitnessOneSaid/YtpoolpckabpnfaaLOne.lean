/-
  PROVED: an epoch is granted to one node at most, whatever comes, crashes, and is asked again; and the epoch never goes down. CONDITIONS: none (any number that tells how long is waited; any acts, of which up to 100 are done, but writes to the device; in a crash no sector tears).
-/
import Derived.Test.YtpoolpckabpnfaaWtOne
import Derived.BigQuiet
import Derived.Deep.RegionHeld3
import Derived.Deep.DeepCutAuto
namespace Go.Proofs.Ytpoolpckabpnfaa.witnessOne
open Go.ChangeShapes Go.WideShapes Go.ChangeAt Go.RowKit Go.Joins
open Go.ChangeMaps (open_string shut_string)
set_option linter.unusedVariables false
set_option linter.unusedSimpArgs false
set_option maxRecDepth 20000

open Wt
open Ml (Mg may msgV MB)
section
variable {ops : Array Oper} {rest : List Oper} {o : Oper} {a : Act} {Q : Exit → Act → World → Prop}
theorem wpList_loadG {w : World} (hw : Region.wanted o (yielded ops a.tmps) = true) (x : Operand) (ho : o.op = .load 38 x) (b off : Nat) (hx : a.eval x = .pointer (some ⟨b, off, none⟩)) (y : Ac) (hc : w.rangeAt b off y.cells)
    (h : wpList Try.prog ops Q rest (a.put o.dst (actV y)) w) : wpList Try.prog ops Q (o :: rest) a w :=
  BigFrame.wpList_want hw fun _ hK => wp_load_mid 38 x ho b off hx y.cells _ hc Try.underlying38 rfl (by rw [act_size, y.len]) (hK _ _ h)
end

set_option maxHeartbeats 4000000 in
theorem walk (x0 : Int) (a1 : Option Addr) (n1 c1 : Nat) (l1 : List Wt.Ac) (w : World) (w0 : (Lit.int .u8 x0).wf = true) (w1 : Wt.Acts w a1 n1 c1 l1) :
    Calls Try.prog 3 #[.int .u8 x0, .slice a1 n1 c1] w fun e w' => e = .returned (.bool true) ∧ Below w.heap.size w w' := by
  have hx := u8_in w0
  obtain ⟨W, hW⟩ : ∃ W, W = x0 % 20 + 1 := ⟨_, rfl⟩
  have HA := Lib.hid (awake_any w)
  have HB := Lib.hid (fun (wv : World) (hv : Below w.heap.size w wv) => begin_any w wv hv hx hW)
  have HW := Lib.hid w1
  have hcap : n1 ≤ 9223372036854775807 := by have := w1.2.1; have := w1.2.2.1; simp only [maxLen] at this; omega
  have hW1 : 1 ≤ W := by omega
  have hW2 : W ≤ 20 := by omega
  clear w0 w1 hx hW
  go_enter Try.func3, Try.ntmps3
  go_wp2_with (first
    | (go_at_call 8; with_reducible refine HA.out.mono ?_; rintro e w1 ⟨rfl, hb1⟩
       have HB1 := Lib.hid hb1
       clear hb1)
    | (go_at_call 9; with_reducible refine (HB.out _ HB1.out).mono ?_; rintro e w2 ⟨gB, pB, dB, sB, mB, tB0, cB0, rfl, hl, hge⟩
       have HGe := Lib.hid hge
       have HL0 := Lib.hid hl
       have q1 := hl.lf.cell 1
       have q2 := hl.lf.cell 2
       simp only [lfC, List.getElem?_toArray, List.getElem?_cons_zero, List.getElem?_cons_succ] at q1 q2
       clear hl hge))
  clear HA HB HB1 q1 q2

  go_loopw [6, 7] (fun ev iv wr => ∃ (k : Nat) (d : M.Dv) (tB cB : Nat) (c : M.Cl) (L : Int) (N : Nat) (E : Int → Option Int), k ≤ n1 ∧ k ≤ 100 ∧ ev = .int .i64 (fx c.text).ep ∧ iv = .int .i64 (k : Int) ∧ N ≤ k ∧ (∀ b ∈ gB :: pB :: ours dB sB mB cB tB, w.heap.size ≤ b) ∧ LF w wr gB pB dB sB mB d tB cB c L W N E) (fun _ iv _ => 100 - (intOf iv).toNat)
  case atStart => exact ⟨0, _, _, _, _, _, _, _, by omega, by omega, by rw [fx_none0]; rfl, rfl, by omega, HGe.out, HL0.out⟩
  case round =>
    obtain ⟨k, d, tB, cB, c, L, N, E, hk1, hk2, rfl, rfl, hN, hge, hr⟩ := hrel
    have HGe2 := Lib.hid hge
    have HR := Lib.hid hr
    have HN := Lib.hid hN
    clear HL0 HGe hge hr hN
    by_cases hlt : k < n1 ∧ k < 100
    · have g1 : (k : Int) < (n1 : Int) := by omega
      have g2 : (k : Int) < 100 := by omega
      have g0 : (0 : Int) ≤ (k : Int) := by omega
      obtain ⟨b, off, x, rfl, _, hok, hb, hc⟩ := acts_at HW.out (HR.out.be HGe2.out) (show k < n1 by omega)
      have HOk := Lib.hid hok
      have HLg := Lib.hid (fun w' => large_any w' x)
      have HRg : Hid (wr.rangeAt b (off + k * 18) x.cells) := Lib.hid (fun j v hv => by rw [Nat.add_assoc]; exact hc j v hv)
      obtain ⟨y0, y1, y2, y3, y4, y5, y6, y7, y8, y9, y10, y11, y12, y13, y14, y15, y16, y17⟩ := act18 hc
      clear hc hok
      obtain ⟨lg, hlg⟩ : ∃ lg, decide (Lrg x) = lg := ⟨_, rfl⟩
      rw [hlg] at HLg
      have HK : Hid (k < n1 ∧ k < 100) := Lib.hid hlt
      have Hlg := Lib.hid hlg
      clear hlt hk1 hk2 hlg
      clear y0 y1 y2 y3 y4 y5 y6 y7 y8 y9 y10 y11 y12 y13 y14 y15 y16 y17
      have q1 := HR.out.lf.cell 1
      simp only [lfC, List.getElem?_toArray, List.getElem?_cons_zero, List.getElem?_cons_succ] at q1
      have Hbl : Hid (b < wr.heap.size) := Lib.hid (Nat.lt_of_lt_of_le hb (HR.out.be HGe2.out).size)
      cases lg with
      | true =>
        go_wp2_with (first
          | (refine wpList_loadG (by rfl) _ rfl b (off + k * 18) rfl x HRg.out ?_)
          | (go_at_call 10; with_reducible refine (HLg.out _).mono ?_; rintro e w4 ⟨rfl, hb4⟩
             have HBel := Lib.hid ((HR.out.be HGe2.out).trans (hb4.mono (HR.out.be HGe2.out).size))
             have R4 := Lib.hid (HR.out.below hb4)
             have HOk4 := Lib.hid (HOk.out.below hb4)
             have HRg4 : Hid (w4.rangeAt b (off + k * 18) x.cells) := Lib.hid (fun j v hv => (hb4.cell (p := ⟨b, off + k * 18 + j, none⟩) Hbl.out).trans (HRg.out j v hv))
             have q1' := R4.out.lf.cell 1
             simp only [lfC, List.getElem?_toArray, List.getElem?_cons_zero, List.getElem?_cons_succ] at q1'
             clear hb4))
        go_ret
        exact ⟨rfl, HBel.out⟩
      | false =>
        have hn600 : x.nL ≤ 600 := by have h := of_decide_eq_false Hlg.out; unfold Lrg at h; omega
        have HDo := Lib.hid (fun (w' : World) (h : LF w' w' gB pB dB sB mB d tB cB c L W N E) (hx : x.Ok w') => do_all h x hx hn600 (by have := HN.out; have := HK.out; omega))
        clear hn600 Hlg
        generalize hep : (fx c.text).ep = ep at *
        have HEp0 := Lib.hid hep
        clear hep
        as_aux_lemma =>
          go_wp2_with (first
            | (refine wpList_loadG (by rfl) _ rfl b (off + k * 18) rfl x HRg.out ?_)
            | (go_at_call 10; with_reducible refine (HLg.out _).mono ?_; rintro e w4 ⟨rfl, hb4⟩
               have HBel := Lib.hid ((HR.out.be HGe2.out).trans (hb4.mono (HR.out.be HGe2.out).size))
               have R4 := Lib.hid (HR.out.below hb4)
               have HOk4 := Lib.hid (HOk.out.below hb4)
               have HRg4 : Hid (w4.rangeAt b (off + k * 18) x.cells) := Lib.hid (fun j v hv => (hb4.cell (p := ⟨b, off + k * 18 + j, none⟩) Hbl.out).trans (HRg.out j v hv))
               have q1' := R4.out.lf.cell 1
               simp only [lfC, List.getElem?_toArray, List.getElem?_cons_zero, List.getElem?_cons_succ] at q1'
               clear hb4)
            | (refine wpList_loadA rfl _ rfl b (off + k * 18) rfl x HRg4.out ?_)
            | (go_at_call 11; with_reducible refine (HDo.out _ R4.out.now HOk4.out).mono ?_; rintro e w5 ⟨A, I, rfl, d2, tB2, cB2, c2, L2, N2, E2, hN2, hle, ht, hc, hl⟩
               have HN2 := Lib.hid hN2
               have HGe3 : Hid (∀ b ∈ gB :: pB :: ours dB sB mB cB2 tB2, w.heap.size ≤ b) := Lib.hid fun b hb => by
                 have h1 := HGe2.out
                 have h2 := HBel.out.size
                 simp only [List.mem_cons, mem_ours] at hb h1
                 rcases hb with h | h | h | h | h | h | h
                 · exact h1 b (.inl h)
                 · exact h1 b (.inr (.inl h))
                 · exact h1 b (.inr (.inr (.inl h)))
                 · exact h1 b (.inr (.inr (.inr (.inl h))))
                 · exact h1 b (.inr (.inr (.inr (.inr (.inl h)))))
                 · rcases hc with hc | hc
                   · exact h1 b (.inr (.inr (.inr (.inr (.inr (.inl (h.trans hc)))))))
                   · omega
                 · rcases ht with ht | ht
                   · exact h1 b (.inr (.inr (.inr (.inr (.inr (.inr (h.trans ht)))))))
                   · omega
               have R5 := Lib.hid (hl.lift HBel.out HGe3.out)
               have p1 := R5.out.lf.cell 1
               have p4 := R5.out.lf.cell 4
               simp only [lfC, List.getElem?_toArray, List.getElem?_cons_zero, List.getElem?_cons_succ] at p1 p4
               have HEp := Lib.hid (fun (w' : World) (h : WS w' dB sB mB 2 d2 tB2 cB2 0 1 c2 L2 W) => epoch_any w' h)
               have hnl : ¬ (fx c2.text).ep < ep := by have := HEp0.out; omega
               clear hN2 hle ht hc hl)
            | (go_at_call 12; with_reducible refine (HEp.out _ R6.out.ws).mono ?_; rintro e w7 ⟨rfl, hb7⟩
               have R7 := Lib.hid (R6.out.below hb7)
               clear hb7)
            | (go_at_call 12; with_reducible refine (HEp.out _ R5.out.ws).mono ?_; rintro e w6 ⟨rfl, hb6⟩
               have R6 := Lib.hid (R5.out.below hb6)
               have r1 := R6.out.lf.cell 1
               simp only [lfC, List.getElem?_toArray, List.getElem?_cons_zero, List.getElem?_cons_succ] at r1
               clear hb6))
          go_roundw
          case rel => exact ⟨k + 1, _, _, _, _, _, _, _, by have := HK.out; omega, by have := HK.out; omega, rfl, by go_num, by have := HN.out; have := HN2.out; omega, HGe3.out, R7.out⟩
          case measure => have := HK.out; simp [intOf]; omega
    · have hnone : True := trivial
      have hnot : (¬ k < n1) ∨ (k < n1 ∧ ¬ k < 100) := by omega
      rcases hnot with h9 | ⟨h8, h9⟩
      · have g1 : decide ((k : Int) < (n1 : Int)) = false := by simpa using h9
        go_wp2
        go_ret
        exact ⟨rfl, HR.out.be HGe2.out⟩
      · have g1 : (k : Int) < (n1 : Int) := by omega
        have g2 : decide ((k : Int) < 100) = false := by simp; omega
        go_wp2
        go_ret
        exact ⟨rfl, HR.out.be HGe2.out⟩

set_option maxRecDepth 100000 in
theorem lifted (os : Os) (started : os.Started) (H : Type) (enc : TypeId × Value → H) :
    ReturnsInHanded {} Try.checked os 3 .any (Rows.witnessOneSpec.pre6 enc Try.prog Try.f3 Rows.witnessOneRow.domain false) (Rows.witnessOneSpec.post enc Try.prog Try.f3 false true false false) := by
  refine returnsInHanded_of_change (C := Try.checked) own started (by kernel_rfl) Try.func3
    (ChangeSpec.witness6 (enc := enc) (C := Try.checked) false ⟨#[], #[.int .u8 0, .slice none 0 0], []⟩ 8 (by kernel_rfl) (by kernel_rfl) (by kernel_rfl) (by kernel_rfl)) ?_
  intro W base args ds gs before hval0 hW hcnd _
  have hval : ∀ (j : Nat) t v, Try.f3.params[j]? = some t → args[j]? = some v → Value.okWide Try.prog W .any base t v := hval0
  have hW' := hW
  obtain ⟨p, q, hA0, hV, rfl, hfz, hnd⟩ := hW
  have hA : DataW.TrodAll enc Try.prog W 0 (fun _ => true) true Try.f3.params.toList args.toList ds p := hA0
  rw [Try.params3] at hA hval
  obtain ⟨v0, vs0, d0, ds0, p0, q0, hargs, rfl, rfl, h0, r0'⟩ := trodAll_cons hA
  obtain ⟨v1, vs1, d1, ds1, p1, q1, rfl, rfl, rfl, h1, r1'⟩ := trodAll_cons r0'
  obtain ⟨rfl, rfl, rfl⟩ := trodAll_nil r1'
  obtain rfl : args = #[v0, v1] := by cases args; simp_all
  obtain ⟨rfl, rfl⟩ := trodVars_none hV
  obtain ⟨x0, rfl, rfl, rfl, w0⟩ := open_int Try.underlying5 (hval 0 5 v0 rfl rfl) h0
  have k1 := h1
  have lt1 : ∀ x ∈ p1, x.block < W.heap.size := by obtain ⟨m, hm⟩ := k1; exact DataW.trod_lt m _ _ _ hm
  obtain ⟨a1, n1, c1, l1, rfl, w1⟩ := Wt.open_acts h1 (okWide_slice Try.underlying22 (hval 1 22 v1 rfl rfl))
  clear hA0 hval0
  refine (walk x0 a1 n1 c1 l1 W w0 w1).mono fun e W' ⟨he, bel⟩ => ?_
  subst he
  exact ⟨_, rfl, _, _, _, [], _, [], hW', trodAll_mk1 (shut_bool Try.underlying4 _), (trodAll_cons_mk (shut_int Try.underlying5 w0) (trodAll_cons_mk (Below.trod laidOut (by kernel_rfl) (of_decide_eq_true (by kernel_rfl)) k1 bel lt1) trodAll_mk0)), rfl, bel.frame _, fun h => by cases h⟩

theorem over : Rows.witnessOneRow.holds Try.pinned (OpenSpec.ofChange Rows.witnessOneSpec) :=
  OpenClaim.holds_of_wide 3 Try.f3 rfl rfl rfl rfl rfl rfl rfl ⟨rfl, rfl, rfl, rfl, rfl⟩ rfl rfl rfl rfl rfl (by kernel_rfl) Try.func3 (by kernel_rfl)
    (of_decide_eq_true (by kernel_rfl)) (by unfold Func.isWrapper; first | (rw [if_pos (by decide +kernel)]; kernel_rfl) | (rw [if_neg (by decide +kernel)]; exact ⟨rfl, rfl⟩))
    (fun os started H enc _ => lifted os started H enc)

/-- the statement -/
theorem proved : Rows.WitnessOneSaid := over
#print axioms proved
end Go.Proofs.Ytpoolpckabpnfaa.witnessOne
