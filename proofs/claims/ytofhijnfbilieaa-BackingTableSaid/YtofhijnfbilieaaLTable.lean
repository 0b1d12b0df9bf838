/-
  PROVED: the clients' numbers never go down; of what is stored with a client's number, the table has at least that. CONDITIONS: none (any number of blocks; any messages, of which up to 60 are taken).
-/
import Derived.Test.YtofhijnfbilieaaBkMore
import Derived.BigQuiet
import Derived.Deep.CutBlock
import Derived.Deep.DeepCutAuto
namespace Go.Proofs.Ytofhijnfbilieaa.backingTable
open Go.ChangeShapes Go.WideShapes Go.ChangeAt Go.RowKit Go.Joins
open Go.ChangeMaps (open_string shut_string)
set_option linter.unusedVariables false
set_option linter.unusedSimpArgs false
set_option maxRecDepth 20000

open Bk

set_option maxHeartbeats 4000000 in
theorem walk (x0 : Int) (a1 : Option Addr) (n1 c1 : Nat) (l1 : List Ml.Mg) (w : World) (w0 : (Lit.int .u8 x0).wf = true) (w1 : Bk.Ms w a1 n1 c1 l1) :
    Calls Try.prog 6 #[.int .u8 x0, .slice a1 n1 c1] w fun e w' => e = .returned (.bool true) ∧ Below w.heap.size w w' := by
  have hx := u8_in w0
  obtain ⟨bl, hbl⟩ : ∃ bl, bl = (x0 % 32).toNat + 1 := ⟨_, rfl⟩
  have hb32 : 1 ≤ bl ∧ bl ≤ 32 := by omega
  have HA := Lib.hid (awake_any w)
  have HL := Lib.hid (lopen_run w hx hbl)
  have HMs := Lib.hid w1
  have hlen : l1.length = n1 := w1.1
  have hcap : n1 ≤ 9223372036854775807 := by have := w1.2.1; have := w1.2.2.1; simp only [maxLen] at this; omega
  have Hb := Lib.hid hb32
  clear w0 w1 hx hbl hb32
  go_enter Try.func6, Try.ntmps6
  go_wp2_with (first
    | (go_at_call 8; with_reducible refine HA.out.mono ?_; rintro e w1 ⟨rfl, hb1⟩
       have HB1 := Lib.hid hb1
       clear hb1)
    | (go_at_call 9; with_reducible refine (HL.out _ HB1.out).mono ?_; rintro e w2 ⟨dB, sB, mB, tB, K, rfl, hrs⟩
       have HR0 := Lib.hid hrs
       clear hrs))
  clear HA HL HB1
  go_loopw [8] (fun i wr => ∃ (k : Nat) (d : M.Dv) (C : Cs), k ≤ n1 ∧ k ≤ 60 ∧ i = .int .i64 (k : Int) ∧ RS w wr dB sB mB (2 + 2 * bl) bl d tB K C (2 * k)) (fun i _ => 60 - (intOf i).toNat)
  case atStart => exact ⟨0, _, _, by omega, by omega, rfl, HR0.out⟩
  case round =>
    obtain ⟨k, d, C, hk1, hk2, rfl, hr⟩ := hrel
    have HR := Lib.hid hr
    clear hr
    by_cases hlt : k < n1 ∧ k < 60
    · have g1 : (k : Int) < (n1 : Int) := by omega
      have g2 : (k : Int) < 60 := by omega
      have g0 : (0 : Int) ≤ (k : Int) := by omega
      obtain ⟨m, hm⟩ : ∃ m, l1[k]? = some m := ⟨_, List.getElem?_eq_getElem (by omega)⟩
      obtain ⟨b, off, rfl, hb, hc⟩ := ms_at HMs.out hm
      obtain ⟨kind, epoch, seq, nn, block, client, e, t0, t1, t2, t3, data, row⟩ := m
      obtain ⟨q0, q1, q2, q3, q4, q5, q6, q7, q8, q9, q10, q11, q12⟩ := ms13 (w := wr) (b := b) (off := off) (k := k) fun i v hv => (HR.out.be.cell (p := ⟨b, off + (k * 13 + i), none⟩) hb).trans (hc i v hv)
      simp only at q0 q1 q2 q3 q4 q5 q6 q7 q8 q9 q10 q11 q12
      clear hc hm
      have HTk := fun w' (h : RS w w' dB sB mB (2 + 2 * bl) bl d tB K C (2 * k)) => Lib.hid (h.take (by omega) ⟨kind, epoch, seq, nn, block, client, e, t0, t1, t2, t3, data, row⟩)
      obtain ⟨tb1, tb2, tb3, tb4⟩ := HR.out.fr.tabs (by omega) ⟨kind, epoch, seq, nn, block, client, e, t0, t1, t2, t3, data, row⟩
      have HX0 := fun w' (h : RS w w' dB sB mB (2 + 2 * bl) bl d tB K C (2 * k)) => Lib.hid (table_any w' h.st)
      have HG0 := fun w' (h : RS w w' dB sB mB (2 + 2 * bl) bl d tB K C (2 * k)) => Lib.hid (bget_any w' h.st block)
      generalize getV bl C block = gv at *
      obtain ⟨gp, gq, gs⟩ := gv
      generalize hA : takA (2 + 2 * bl) 0 bl d C ⟨kind, epoch, seq, nn, block, client, e, t0, t1, t2, t3, data, row⟩ = A at *
      generalize hI : takI (2 + 2 * bl) 0 bl d C ⟨kind, epoch, seq, nn, block, client, e, t0, t1, t2, t3, data, row⟩ = is at *
      generalize hC : takC (2 + 2 * bl) 0 bl d C ⟨kind, epoch, seq, nn, block, client, e, t0, t1, t2, t3, data, row⟩ = C2 at *
      generalize hD : takD (2 + 2 * bl) 0 bl d C ⟨kind, epoch, seq, nn, block, client, e, t0, t1, t2, t3, data, row⟩ = d2 at *
      have HX2 := fun w' (h : RS w w' dB sB mB (2 + 2 * bl) bl d2 tB K C2 (2 * k + 2)) => Lib.hid (table_any w' h.st)
      generalize tab C bl = X at *
      generalize tab C2 bl = Y at *
      obtain ⟨wa, wb, wc, wd⟩ := X
      obtain ⟨na, nb, nc, nd⟩ := Y
      obtain ⟨ak, aep, asq, an, ab, acl, ae, at0, at1, at2, at3, adt, arw⟩ := A
      simp only [Ml.msgV, Ml.Mg.cells, verV, t4V, T4.le, Mg.t4, T4.mk.injEq] at HTk HG0 HX0 HX2 tb1 tb2 tb3 tb4
      clear hA hI hC hD
      obtain ⟨l1, l2, l3, l4⟩ := tb1
      have l1' : ¬ na < wa := by omega
      have l2' : ¬ nb < wb := by omega
      have l3' : ¬ nc < wc := by omega
      have l4' : ¬ nd < wd := by omega
      have HAb := fun w' => Lib.hid (rabove_any w' epoch seq gp gq)
      have HNB := Lib.hid (fun (w' : World) (b : Nat) (h : ST w' dB sB mB (2 + 2 * bl) d tB bl 0 K C) (hb : w'.heap.size ≤ b) => mem_lt h hb)
      by_cases hd1 : 1000 < (data.size : Int)
      · go_wp2
        go_ret
        exact ⟨rfl, HR.out.be.alloc HR.out.be.size _⟩
      · by_cases hd2 : 1000 < (row.size : Int)
        · go_wp2
          go_ret
          exact ⟨rfl, HR.out.be.alloc HR.out.be.size _⟩
        · have R1 := Lib.hid (HR.out.below ((Below.refl wr.heap.size wr).alloc (Nat.le_refl _) (.cells #[.int .i64 kind, .int .i64 epoch, .int .i64 seq, .int .i64 nn, .int .i64 block, .int .i64 client, .int .i64 e, .int .i64 t0, .int .i64 t1, .int .i64 t2, .int .i64 t3, .string data, .string row] 31)))
          have M1 := Lib.hid (Bo.new wr #[.int .i64 kind, .int .i64 epoch, .int .i64 seq, .int .i64 nn, .int .i64 block, .int .i64 client, .int .i64 e, .int .i64 t0, .int .i64 t1, .int .i64 t2, .int .i64 t3, .string data, .string row] 31)
          have HG := Lib.hid (fun (b : Nat) (hb : wr.heap.size ≤ b) => mem_lt HR.out.st hb)
          go_wp2_with (first
            | (go_at_call 17; with_reducible refine (HX0 _ R1.out).out.mono ?_; rintro e1 w3 ⟨rfl, hb3⟩
               have hb4 := hb3.alloc hb3.size (.cells #[.int .i64 wa, .int .i64 wb, .int .i64 wc, .int .i64 wd] 29)
               have R3 := Lib.hid (R1.out.below hb4)
               have M3 := Lib.hid (M1.out.below hb4 M1.out.lt)
               have W3 := Lib.hid (Bo.new w3 #[.int .i64 wa, .int .i64 wb, .int .i64 wc, .int .i64 wd] 29)
               have G3 : Hid (wr.heap.size ≤ w3.heap.size) := Lib.hid (Nat.le_trans (Nat.le_of_lt M1.out.lt) hb3.size)
               have x4 := M3.out.cell 4
               simp only [List.getElem?_toArray, List.getElem?_cons_zero, List.getElem?_cons_succ] at x4
               clear hb3 hb4)
            | (go_at_call 11; with_reducible refine (HG0 _ R3.out).out.mono ?_; rintro e2 w5 ⟨rfl, hb5⟩
               have hb6 := hb5.alloc hb5.size (.cells #[.int .i64 gp, .int .i64 gq] 37)
               have R5 := Lib.hid (R3.out.below hb6)
               have M5 := Lib.hid (M3.out.below hb6 M3.out.lt)
               have W5 := Lib.hid (W3.out.below hb6 W3.out.lt)
               have V5 := Lib.hid (Bo.new w5 #[.int .i64 gp, .int .i64 gq] 37)
               have G5 : Hid (wr.heap.size ≤ w5.heap.size) := Lib.hid (Nat.le_trans G3.out (Nat.le_trans (Nat.le_of_lt W3.out.lt) hb5.size))
               clear x4
               have x0 := M5.out.cell 0
               have x1 := M5.out.cell 1
               have x2 := M5.out.cell 2
               have x3 := M5.out.cell 3
               have x4 := M5.out.cell 4
               have x5 := M5.out.cell 5
               have x6 := M5.out.cell 6
               have x7 := M5.out.cell 7
               have x8 := M5.out.cell 8
               have x9 := M5.out.cell 9
               have x10 := M5.out.cell 10
               have x11 := M5.out.cell 11
               have x12 := M5.out.cell 12
               simp only [List.getElem?_toArray, List.getElem?_cons_zero, List.getElem?_cons_succ] at x0 x1 x2 x3 x4 x5 x6 x7 x8 x9 x10 x11 x12
               clear hb5 hb6)
            | (go_at_call 12; with_reducible refine (HTk _ R5.out).out.mono ?_; rintro e3 w7 ⟨rfl, hr7, hb7⟩
               have hn7 := (Below.refl w7.heap.size w7).alloc (Nat.le_refl _) (.cells #[.int .i64 ak, .int .i64 aep, .int .i64 asq, .int .i64 an, .int .i64 ab, .int .i64 acl, .int .i64 ae, .int .i64 at0, .int .i64 at1, .int .i64 at2, .int .i64 at3, .string adt, .string arw] 31)
               have R7 := Lib.hid (hr7.below hn7)
               have M7 := Lib.hid ((M5.out.but hb7 (HG.out _ (Nat.le_refl _))).below hn7 (Nat.lt_of_lt_of_le M5.out.lt hb7.size))
               have W7 := Lib.hid ((W5.out.but hb7 (HG.out _ G3.out)).below hn7 (Nat.lt_of_lt_of_le W5.out.lt hb7.size))
               have V7 := Lib.hid ((V5.out.but hb7 (HG.out _ G5.out)).below hn7 (Nat.lt_of_lt_of_le V5.out.lt hb7.size))
               have A7 := Lib.hid (Bo.new w7 #[.int .i64 ak, .int .i64 aep, .int .i64 asq, .int .i64 an, .int .i64 ab, .int .i64 acl, .int .i64 ae, .int .i64 at0, .int .i64 at1, .int .i64 at2, .int .i64 at3, .string adt, .string arw] 31)
               clear x0 x1 x2 x3 x4 x5 x6 x7 x8 x9 x10 x11 x12 hr7 hb7 hn7)
            | (go_at_call 17; with_reducible refine (HX2 _ R7.out).out.mono ?_; rintro e4 w9 ⟨rfl, hb9⟩
               have hb10 := hb9.alloc hb9.size (.cells #[.int .i64 na, .int .i64 nb, .int .i64 nc, .int .i64 nd] 29)
               have R9 := Lib.hid (R7.out.below hb10)
               have M9 := Lib.hid (M7.out.below hb10 M7.out.lt)
               have W9 := Lib.hid (W7.out.below hb10 W7.out.lt)
               have V9 := Lib.hid (V7.out.below hb10 V7.out.lt)
               have A9 := Lib.hid (A7.out.below hb10 A7.out.lt)
               have N9 := Lib.hid (Bo.new w9 #[.int .i64 na, .int .i64 nb, .int .i64 nc, .int .i64 nd] 29)
               clear hb9 hb10))
          clear R1 M1 R3 M3 W3 R5 M5 W5 V5 R7 M7 W7 V7 A7 HR HTk HX0 HG0 HX2
          generalize w9.alloc (.cells #[.int .i64 na, .int .i64 nb, .int .i64 nc, .int .i64 nd] 29) = W at *
          go_loopw [70] (fun i wr' => Below W.heap.size W wr' ∧ (i = .int .i64 0 ∨ i = .int .i64 1 ∨ i = .int .i64 2 ∨ i = .int .i64 3 ∨ i = .int .i64 4)) (fun i _ => 4 - (intOf i).toNat)
          case atStart => exact ⟨Below.refl _ _, .inl rfl⟩
          case round =>
            obtain ⟨hbr', hi⟩ := hrel
            have hbr := Lib.hid hbr'
            clear hbr'
            have m0 := (M9.out.below hbr.out M9.out.lt).cell 0
            have m1 := (M9.out.below hbr.out M9.out.lt).cell 1
            have m2 := (M9.out.below hbr.out M9.out.lt).cell 2
            have m3 := (M9.out.below hbr.out M9.out.lt).cell 3
            have m4 := (M9.out.below hbr.out M9.out.lt).cell 4
            have m5 := (M9.out.below hbr.out M9.out.lt).cell 5
            have m6 := (M9.out.below hbr.out M9.out.lt).cell 6
            have m7 := (M9.out.below hbr.out M9.out.lt).cell 7
            have m8 := (M9.out.below hbr.out M9.out.lt).cell 8
            have m9 := (M9.out.below hbr.out M9.out.lt).cell 9
            have m10 := (M9.out.below hbr.out M9.out.lt).cell 10
            have m11 := (M9.out.below hbr.out M9.out.lt).cell 11
            have m12 := (M9.out.below hbr.out M9.out.lt).cell 12
            have p0 := (W9.out.below hbr.out W9.out.lt).cell 0
            have p1 := (W9.out.below hbr.out W9.out.lt).cell 1
            have p2 := (W9.out.below hbr.out W9.out.lt).cell 2
            have p3 := (W9.out.below hbr.out W9.out.lt).cell 3
            have v0 := (V9.out.below hbr.out V9.out.lt).cell 0
            have v1 := (V9.out.below hbr.out V9.out.lt).cell 1
            have a0 := (A9.out.below hbr.out A9.out.lt).cell 0
            have a1 := (A9.out.below hbr.out A9.out.lt).cell 1
            have a2 := (A9.out.below hbr.out A9.out.lt).cell 2
            have a3 := (A9.out.below hbr.out A9.out.lt).cell 3
            have a4 := (A9.out.below hbr.out A9.out.lt).cell 4
            have a5 := (A9.out.below hbr.out A9.out.lt).cell 5
            have a6 := (A9.out.below hbr.out A9.out.lt).cell 6
            have a7 := (A9.out.below hbr.out A9.out.lt).cell 7
            have a8 := (A9.out.below hbr.out A9.out.lt).cell 8
            have a9 := (A9.out.below hbr.out A9.out.lt).cell 9
            have a10 := (A9.out.below hbr.out A9.out.lt).cell 10
            have a11 := (A9.out.below hbr.out A9.out.lt).cell 11
            have a12 := (A9.out.below hbr.out A9.out.lt).cell 12
            have n0 := (N9.out.below hbr.out N9.out.lt).cell 0
            have n1 := (N9.out.below hbr.out N9.out.lt).cell 1
            have n2 := (N9.out.below hbr.out N9.out.lt).cell 2
            have n3 := (N9.out.below hbr.out N9.out.lt).cell 3
            simp only [List.getElem?_toArray, List.getElem?_cons_zero, List.getElem?_cons_succ] at m0 m1 m2 m3 m4 m5 m6 m7 m8 m9 m10 m11 m12 p0 p1 p2 p3 v0 v1 a0 a1 a2 a3 a4 a5 a6 a7 a8 a9 a10 a11 a12 n0 n1 n2 n3
            rcases hi with rfl | rfl | rfl | rfl | rfl
            case inr.inr.inr.inr =>
              clear p0 p1 p2 p3
              go_upto_region 22 with fail
              go_cut [17] (fun fr wx => ∃ fb : Bool, fr = .bool fb ∧ Below W.heap.size W wx ∧ (fb = true → (-1 ≤ client ∧ client ≤ 3) ∧ (¬ na < t0 ∧ ¬ nb < t1 ∧ ¬ nc < t2 ∧ ¬ nd < t3) ∧ (client = 0 → ¬ na < nn) ∧ (client = 1 → ¬ nb < nn) ∧ (client = 2 → ¬ nc < nn) ∧ (client = 3 → ¬ nd < nn)))
              case first =>
                cases is with
                | false =>
                  as_aux_lemma =>
                    go_wp2
                    go_meet
                    exact ⟨false, rfl, hbr.out, by simp⟩
                | true =>
                  obtain ⟨hkd, hmay⟩ := tb2 rfl
                  have hcl := ((Ml.may_iff _).1 hmay).2.2.2.2.2.1
                  simp only at hcl hkd
                  clear hmay
                  by_cases he0 : ae = 0
                  case' neg => have he0' : (ae == 0) = false := by rw [beq_eq_false_iff_ne]; exact he0
                  case neg =>
                    as_aux_lemma =>
                      go_wp2
                      go_meet
                      exact ⟨false, rfl, hbr.out, by simp⟩
                  subst he0
                  rcases hkd with rfl | rfl
                  case inr =>
                    as_aux_lemma =>
                      go_wp2
                      go_meet
                      exact ⟨false, rfl, hbr.out, by simp⟩
                  by_cases hb0 : 0 ≤ block
                  case neg =>
                    as_aux_lemma =>
                      go_wp2
                      go_meet
                      exact ⟨false, rfl, hbr.out, by simp⟩
                  by_cases hb1 : block < (bl : Int)
                  case neg =>
                    as_aux_lemma =>
                      go_wp2
                      go_meet
                      exact ⟨false, rfl, hbr.out, by simp⟩
                  have HF : Hid (above epoch seq gp gq = true → (-1 ≤ client ∧ client ≤ 3) ∧ (¬ na < t0 ∧ ¬ nb < t1 ∧ ¬ nc < t2 ∧ ¬ nd < t3) ∧ (client = 0 → ¬ na < nn) ∧ (client = 1 → ¬ nb < nn) ∧ (client = 2 → ¬ nc < nn) ∧ (client = 3 → ¬ nd < nn)) := Lib.hid fun hab => by
                    obtain ⟨⟨y0, y1, y2, y3⟩, yc⟩ := tb3 rfl rfl rfl hb0 hb1 hab
                    refine ⟨hcl, ⟨by omega, by omega, by omega, by omega⟩, fun h => ?_, fun h => ?_, fun h => ?_, fun h => ?_⟩ <;> (subst h; have := yc (by omega); simp [T4.get] at this; omega)
                  generalize above epoch seq gp gq = fb at *
                  as_aux_lemma =>
                    go_wp2_with (first
                      | (go_at_call 18; with_reducible refine (HAb _).out.mono ?_; rintro e5 w11 ⟨rfl, hb11⟩
                         have hb12 := Lib.hid (hbr.out.trans (hb11.mono hbr.out.size))
                         clear hb11))
                    go_meet
                    exact ⟨fb, rfl, hb12.out, HF.out⟩
              case rest =>
                as_aux_lemma =>
                  obtain ⟨fb, rfl, hbx', hF'⟩ := hcut
                  have hbx := Lib.hid hbx'
                  have HF := Lib.hid hF'
                  clear hbx' hF' m0 m1 m2 m3 m4 m5 m6 m7 m8 m9 m10 m11 m12 v0 v1 a0 a1 a2 a3 a4 a5 a6 a7 a8 a9 a10 a11 a12 n0 n1 n2 n3
                  go_upto_region 23 with fail
                  go_cut [126] (fun cx wx => cx = .bool false ∧ Below W.heap.size W wx)
                  case first =>
                    have m0 := (M9.out.below hbx.out M9.out.lt).cell 0
                    have m1 := (M9.out.below hbx.out M9.out.lt).cell 1
                    have m2 := (M9.out.below hbx.out M9.out.lt).cell 2
                    have m3 := (M9.out.below hbx.out M9.out.lt).cell 3
                    have m4 := (M9.out.below hbx.out M9.out.lt).cell 4
                    have m5 := (M9.out.below hbx.out M9.out.lt).cell 5
                    have m6 := (M9.out.below hbx.out M9.out.lt).cell 6
                    have m7 := (M9.out.below hbx.out M9.out.lt).cell 7
                    have m8 := (M9.out.below hbx.out M9.out.lt).cell 8
                    have m9 := (M9.out.below hbx.out M9.out.lt).cell 9
                    have m10 := (M9.out.below hbx.out M9.out.lt).cell 10
                    have m11 := (M9.out.below hbx.out M9.out.lt).cell 11
                    have m12 := (M9.out.below hbx.out M9.out.lt).cell 12
                    have p0 := (W9.out.below hbx.out W9.out.lt).cell 0
                    have p1 := (W9.out.below hbx.out W9.out.lt).cell 1
                    have p2 := (W9.out.below hbx.out W9.out.lt).cell 2
                    have p3 := (W9.out.below hbx.out W9.out.lt).cell 3
                    have v0 := (V9.out.below hbx.out V9.out.lt).cell 0
                    have v1 := (V9.out.below hbx.out V9.out.lt).cell 1
                    have a0 := (A9.out.below hbx.out A9.out.lt).cell 0
                    have a1 := (A9.out.below hbx.out A9.out.lt).cell 1
                    have a2 := (A9.out.below hbx.out A9.out.lt).cell 2
                    have a3 := (A9.out.below hbx.out A9.out.lt).cell 3
                    have a4 := (A9.out.below hbx.out A9.out.lt).cell 4
                    have a5 := (A9.out.below hbx.out A9.out.lt).cell 5
                    have a6 := (A9.out.below hbx.out A9.out.lt).cell 6
                    have a7 := (A9.out.below hbx.out A9.out.lt).cell 7
                    have a8 := (A9.out.below hbx.out A9.out.lt).cell 8
                    have a9 := (A9.out.below hbx.out A9.out.lt).cell 9
                    have a10 := (A9.out.below hbx.out A9.out.lt).cell 10
                    have a11 := (A9.out.below hbx.out A9.out.lt).cell 11
                    have a12 := (A9.out.below hbx.out A9.out.lt).cell 12
                    have n0 := (N9.out.below hbx.out N9.out.lt).cell 0
                    have n1 := (N9.out.below hbx.out N9.out.lt).cell 1
                    have n2 := (N9.out.below hbx.out N9.out.lt).cell 2
                    have n3 := (N9.out.below hbx.out N9.out.lt).cell 3
                    simp only [List.getElem?_toArray, List.getElem?_cons_zero, List.getElem?_cons_succ] at m0 m1 m2 m3 m4 m5 m6 m7 m8 m9 m10 m11 m12 p0 p1 p2 p3 v0 v1 a0 a1 a2 a3 a4 a5 a6 a7 a8 a9 a10 a11 a12 n0 n1 n2 n3
                    cases fb with
                    | false =>
                      as_aux_lemma =>
                        go_quiet (fail)
                        go_wp2
                        go_meet
                        exact ⟨rfl, hbx.out.trans (drewN_below _ _ _)⟩
                    | true =>
                      obtain ⟨f0, _, f1, f2, f3, f4⟩ := HF.out rfl
                      rcases cl5 f0 with rfl | rfl | rfl | rfl | rfl
                      case' inr.inl => have z0 := f1 rfl
                      case' inr.inr.inl => have z0 := f2 rfl
                      case' inr.inr.inr.inl => have z0 := f3 rfl
                      case' inr.inr.inr.inr => have z0 := f4 rfl
                      all_goals
                        clear f0 f1 f2 f3 f4
                        as_aux_lemma =>
                          go_quiet (fail)
                          go_wp2
                          go_meet
                          exact ⟨rfl, hbx.out.trans (drewN_below _ _ _)⟩
                  case rest =>
                    as_aux_lemma =>
                      obtain ⟨rfl, hby'⟩ := hcut
                      have hby := Lib.hid hby'
                      clear hby' hbx
                      go_wp2
                      go_loopw [127] (fun i wy => Below W.heap.size W wy ∧ (i = .int .i64 0 ∨ i = .int .i64 1 ∨ i = .int .i64 2 ∨ i = .int .i64 3 ∨ i = .int .i64 4)) (fun i _ => 4 - (intOf i).toNat)
                      case atStart => exact ⟨hby.out, .inl rfl⟩
                      case round =>
                        obtain ⟨hbz', hi⟩ := hrel
                        have hbz := Lib.hid hbz'
                        clear hbz' hby
                        have m0 := (M9.out.below hbz.out M9.out.lt).cell 0
                        have m1 := (M9.out.below hbz.out M9.out.lt).cell 1
                        have m2 := (M9.out.below hbz.out M9.out.lt).cell 2
                        have m3 := (M9.out.below hbz.out M9.out.lt).cell 3
                        have m4 := (M9.out.below hbz.out M9.out.lt).cell 4
                        have m5 := (M9.out.below hbz.out M9.out.lt).cell 5
                        have m6 := (M9.out.below hbz.out M9.out.lt).cell 6
                        have m7 := (M9.out.below hbz.out M9.out.lt).cell 7
                        have m8 := (M9.out.below hbz.out M9.out.lt).cell 8
                        have m9 := (M9.out.below hbz.out M9.out.lt).cell 9
                        have m10 := (M9.out.below hbz.out M9.out.lt).cell 10
                        have m11 := (M9.out.below hbz.out M9.out.lt).cell 11
                        have m12 := (M9.out.below hbz.out M9.out.lt).cell 12
                        have p0 := (W9.out.below hbz.out W9.out.lt).cell 0
                        have p1 := (W9.out.below hbz.out W9.out.lt).cell 1
                        have p2 := (W9.out.below hbz.out W9.out.lt).cell 2
                        have p3 := (W9.out.below hbz.out W9.out.lt).cell 3
                        have v0 := (V9.out.below hbz.out V9.out.lt).cell 0
                        have v1 := (V9.out.below hbz.out V9.out.lt).cell 1
                        have a0 := (A9.out.below hbz.out A9.out.lt).cell 0
                        have a1 := (A9.out.below hbz.out A9.out.lt).cell 1
                        have a2 := (A9.out.below hbz.out A9.out.lt).cell 2
                        have a3 := (A9.out.below hbz.out A9.out.lt).cell 3
                        have a4 := (A9.out.below hbz.out A9.out.lt).cell 4
                        have a5 := (A9.out.below hbz.out A9.out.lt).cell 5
                        have a6 := (A9.out.below hbz.out A9.out.lt).cell 6
                        have a7 := (A9.out.below hbz.out A9.out.lt).cell 7
                        have a8 := (A9.out.below hbz.out A9.out.lt).cell 8
                        have a9 := (A9.out.below hbz.out A9.out.lt).cell 9
                        have a10 := (A9.out.below hbz.out A9.out.lt).cell 10
                        have a11 := (A9.out.below hbz.out A9.out.lt).cell 11
                        have a12 := (A9.out.below hbz.out A9.out.lt).cell 12
                        have n0 := (N9.out.below hbz.out N9.out.lt).cell 0
                        have n1 := (N9.out.below hbz.out N9.out.lt).cell 1
                        have n2 := (N9.out.below hbz.out N9.out.lt).cell 2
                        have n3 := (N9.out.below hbz.out N9.out.lt).cell 3
                        simp only [List.getElem?_toArray, List.getElem?_cons_zero, List.getElem?_cons_succ] at m0 m1 m2 m3 m4 m5 m6 m7 m8 m9 m10 m11 m12 p0 p1 p2 p3 v0 v1 a0 a1 a2 a3 a4 a5 a6 a7 a8 a9 a10 a11 a12 n0 n1 n2 n3
                        rcases hi with rfl | rfl | rfl | rfl | rfl
                        case inr.inr.inr.inr =>
                          cases is with
                          | false =>
                            as_aux_lemma =>
                              go_wp2
                              go_roundw
                              case rel => exact ⟨k + 1, _, _, by omega, by omega, by go_num, by have := R9.out.below hbz.out; rwa [show (2 * (k : Int) + 2) = 2 * ((k + 1 : Nat) : Int) by omega] at this⟩
                              case measure => simp [intOf]; omega
                          | true =>
                            obtain ⟨hkd, _⟩ := tb2 rfl
                            by_cases he0 : ae = 0
                            case' neg => have he0' : (ae == 0) = false := by rw [beq_eq_false_iff_ne]; exact he0
                            case neg =>
                              as_aux_lemma =>
                                go_wp2
                                go_roundw
                                case rel => exact ⟨k + 1, _, _, by omega, by omega, by go_num, by have := R9.out.below hbz.out; rwa [show (2 * (k : Int) + 2) = 2 * ((k + 1 : Nat) : Int) by omega] at this⟩
                                case measure => simp [intOf]; omega
                            subst he0
                            rcases hkd with rfl | rfl
                            case inl =>
                              as_aux_lemma =>
                                go_wp2
                                go_roundw
                                case rel => exact ⟨k + 1, _, _, by omega, by omega, by go_num, by have := R9.out.below hbz.out; rwa [show (2 * (k : Int) + 2) = 2 * ((k + 1 : Nat) : Int) by omega] at this⟩
                                case measure => simp [intOf]; omega
                            obtain ⟨rfl, rfl, rfl, rfl⟩ := tb4 rfl rfl rfl
                            have an := arr4_neq na nb nc nd na nb nc nd
                            simp only [and_self, decide_true, Bool.not_true] at an
                            as_aux_lemma =>
                              go_wp2
                              go_roundw
                              case rel => exact ⟨k + 1, _, _, by omega, by omega, by go_num, by have := R9.out.below hbz.out; rwa [show (2 * (k : Int) + 2) = 2 * ((k + 1 : Nat) : Int) by omega] at this⟩
                              case measure => simp [intOf]; omega
                        all_goals
                          cases fb
                          case' true => obtain ⟨_, ⟨f1, f2, f3, f4⟩, _⟩ := HF.out rfl
                          all_goals
                            as_aux_lemma =>
                              go_upto_region 28 with fail
                              go_quiet (fail)
                              go_wp2
                              go_roundw
                              case measure => simp [intOf]
                              case rel => exact ⟨hbz.out.trans (drewN_below _ _ _), by simp⟩
            all_goals
              as_aux_lemma =>
                go_upto_region 19 with fail
                go_quiet (fail)
                go_wp2
                go_roundw
                case measure => simp [intOf]
                case rel => exact ⟨hbr.out.trans (drewN_below _ _ _), by simp⟩
    · have hnot : (¬ k < n1) ∨ (k < n1 ∧ ¬ k < 60) := by omega
      rcases hnot with h9 | ⟨h8, h9⟩
      · have g1 : decide ((k : Int) < (n1 : Int)) = false := by simpa using h9
        go_wp2
        go_ret
        exact ⟨rfl, HR.out.be⟩
      · have g1 : (k : Int) < (n1 : Int) := by omega
        have g2 : decide ((k : Int) < 60) = false := by simp; omega
        go_wp2
        go_ret
        exact ⟨rfl, HR.out.be⟩

set_option maxRecDepth 100000 in
theorem lifted (os : Os) (started : os.Started) (H : Type) (enc : TypeId × Value → H) :
    ReturnsInHanded {} Try.checked os 6 .any (Rows.backingTableSpec.pre6 enc Try.prog Try.f6 Rows.backingTableRow.domain false) (Rows.backingTableSpec.post enc Try.prog Try.f6 false true false false) := by
  refine returnsInHanded_of_change (C := Try.checked) own started (by kernel_rfl) Try.func6
    (ChangeSpec.witness6 (enc := enc) (C := Try.checked) false ⟨#[], #[.int .u8 0, .slice none 0 0], []⟩ 8 (by kernel_rfl) (by kernel_rfl) (by kernel_rfl) (by kernel_rfl)) ?_
  intro W base args ds gs before hval0 hW hcnd _
  have hval : ∀ (j : Nat) t v, Try.f6.params[j]? = some t → args[j]? = some v → Value.okWide Try.prog W .any base t v := hval0
  have hW' := hW
  obtain ⟨p, q, hA0, hV, rfl, hfz, hnd⟩ := hW
  have hA : DataW.TrodAll enc Try.prog W 0 (fun _ => true) true Try.f6.params.toList args.toList ds p := hA0
  rw [Try.params6] at hA hval
  obtain ⟨v0, vs0, d0, ds0, p0, q0, hargs, rfl, rfl, h0, r0'⟩ := trodAll_cons hA
  obtain ⟨v1, vs1, d1, ds1, p1, q1, rfl, rfl, rfl, h1, r1'⟩ := trodAll_cons r0'
  obtain ⟨rfl, rfl, rfl⟩ := trodAll_nil r1'
  obtain rfl : args = #[v0, v1] := by cases args; simp_all
  obtain ⟨rfl, rfl⟩ := trodVars_none hV
  obtain ⟨x0, rfl, rfl, rfl, w0⟩ := open_int Try.underlying5 (hval 0 5 v0 rfl rfl) h0
  have k1 := h1
  have lt1 : ∀ x ∈ p1, x.block < W.heap.size := by obtain ⟨m, hm⟩ := k1; exact DataW.trod_lt m _ _ _ hm
  obtain ⟨a1, n1, c1, l1, rfl, w1⟩ := Bk.open_msgs h1 (okWide_slice Try.underlying50 (hval 1 50 v1 rfl rfl))
  clear hA0 hval0
  refine (walk x0 a1 n1 c1 l1 W w0 w1).mono fun e W' ⟨he, bel⟩ => ?_
  subst he
  exact ⟨_, rfl, _, _, _, [], _, [], hW', trodAll_mk1 (shut_bool Try.underlying4 _), (trodAll_cons_mk (shut_int Try.underlying5 w0) (trodAll_cons_mk (Below.trod laidOut (by kernel_rfl) (of_decide_eq_true (by kernel_rfl)) k1 bel lt1) trodAll_mk0)), rfl, bel.frame _, fun h => by cases h⟩

theorem over : Rows.backingTableRow.holds Try.pinned (OpenSpec.ofChange Rows.backingTableSpec) :=
  OpenClaim.holds_of_wide 6 Try.f6 rfl rfl rfl rfl rfl rfl rfl ⟨rfl, rfl, rfl, rfl, rfl⟩ rfl rfl rfl rfl rfl (by kernel_rfl) Try.func6 (by kernel_rfl)
    (of_decide_eq_true (by kernel_rfl)) (by unfold Func.isWrapper; first | (rw [if_pos (by decide +kernel)]; kernel_rfl) | (rw [if_neg (by decide +kernel)]; exact ⟨rfl, rfl⟩))
    (fun os started H enc _ => lifted os started H enc)

/-- the statement -/
theorem proved : Rows.BackingTableSaid := over
#print axioms proved
end Go.Proofs.Ytofhijnfbilieaa.backingTable
