/-
  PROVED: A sector that was written reads as what was written, with 0 behind, whatever is written to other sectors, and whatever barriers follow. CONDITIONS: none (any number of sectors, any acts, any sector, any bytes).
-/
import Derived.Test.YtbcblcnnffdjdaaOpen
import Derived.Test.YtbcblcnnffdjdaaFree
import Derived.Deep.CutBlock
import Derived.Deep.DeepCutAuto
namespace Go.Proofs.Ytbcblcnnffdjdaa.sectorAlone
open Go.ChangeShapes Go.WideShapes Go.ChangeAt Go.RowKit Go.Joins
set_option linter.unusedVariables false
set_option linter.unusedSimpArgs false
set_option maxRecDepth 20000


set_option maxHeartbeats 4000000 in
theorem walk (x0 : Int) (a1 : Option Addr) (n1 c1 : Nat) (l1 : List A) (x2 : Int) (a3 : Option Addr) (n3 c3 : Nat) (l3 : List UInt8) (a4 : Option Addr) (n4 c4 : Nat) (l4 : List A) (w : World) (w0 : (Lit.int .i64 x0).wf = true) (w1 : Acts w a1 n1 c1 l1) (w2 : (Lit.int .i64 x2).wf = true) (w3 : Row w a3 n3 c3 (u8s l3)) (w4 : Acts w a4 n4 c4 l4) :
    Calls Try.prog 6 #[.int .i64 x0, .slice a1 n1 c1, .int .i64 x2, .slice a3 n3 c3, .slice a4 n4 c4] w fun e w' => e = .returned (.bool true) ∧ Below w.heap.size w w' := by
  have HA := Lib.hid (awake_any w)
  have HW1 := Lib.hid w1
  have HW4 := Lib.hid w4
  have HW3 := Lib.hid w3
  have HX0 := Lib.hid (wf_int w0)
  have HX2 := Lib.hid (wf_int w2)
  clear w0 w1 w2 w3 w4
  by_cases hn : x0 < 0 ∨ 512 < x0
  · have HN := Lib.hid hn
    clear hn
    go_enter Try.func6, Try.ntmps6
    go_wp2_with (first
      | (go_at_call 9; refine HA.out.mono ?_; rintro e w1 ⟨rfl, hb1⟩; have HB1 := Lib.hid hb1; clear hb1)
      | (go_at_call 10; refine (new_no x0 HN.out _).mono ?_; rintro e w2 ⟨rfl, rfl⟩))
    go_ret
    exact ⟨rfl, HB1.out⟩
  · obtain ⟨n, rfl⟩ : ∃ n : Nat, x0 = (n : Int) := ⟨x0.toNat, by omega⟩
    have hn512 : n ≤ 512 := by omega
    have HN := Lib.hid hn512
    clear hn hn512
    go_enter Try.func6, Try.ntmps6
    go_upto_block 0 with (first
      | (go_at_call 9; refine HA.out.mono ?_; rintro e w1 ⟨rfl, hb1⟩; have HB1 := Lib.hid hb1; clear hb1)
      | (go_at_call 10; refine (new_yes n HN.out _).mono ?_; rintro e w2 ⟨dB, sB, mB, rfl, hd2, hb2, l1, l2, l3⟩
         have HD2 := Lib.hid hd2
         have HB2 := Lib.hid (HB1.out.trans (hb2.mono HB1.out.size))
         have HL : Hid (w.heap.size ≤ dB ∧ w.heap.size ≤ sB ∧ w.heap.size ≤ mB) := Lib.hid ⟨by have := HB1.out.size; omega, by have := HB1.out.size; omega, by have := HB1.out.size; omega⟩
         clear hd2 hb2 l1 l2 l3))
    go_cut [12] (fun _ wx => ∃ d, DevAt wx dB sB mB n d ∧ But [dB, sB, mB] w2 wx)
    case first =>
      go_wp2_with fail
      go_loopw [12] (fun i wr => ∃ (k : Nat) (d : M.Dv), k ≤ 80 ∧ k ≤ n1 ∧ i = .int .i64 k ∧ DevAt wr dB sB mB n d ∧ But [dB, sB, mB] w2 wr) (fun i _ => 80 - (intOf i).toNat)
      case atStart => exact ⟨0, M.fresh, by omega, by omega, rfl, HD2.out, But.refl _ _⟩
      case round =>
        obtain ⟨k, d, hk, hkn, rfl, hdv, hbw⟩ := hrel
        have HDv := Lib.hid hdv
        have HBw := Lib.hid hbw
        have HBel : Hid (Below w.heap.size w wr) := Lib.hid (HB2.out.trans (hbw.to_below (by have := HL.out; simp; omega) HB2.out.size))
        clear hdv hbw
        have hk0 : (0 : Int) ≤ (k : Int) := by omega
        by_cases hend : k = n1
        · have hge : ¬ ((k : Int) < (n1 : Int)) := by omega
          clear hend
          go_wp2_with fail
          go_meet
          exact ⟨d, HDv.out, HBw.out⟩
        · have hlt : (k : Int) < (n1 : Int) := by omega
          by_cases h80 : k = 80
          · have hge : ¬ ((k : Int) < 80) := by omega
            clear h80 hend
            go_wp2_with fail
            go_meet
            exact ⟨d, HDv.out, HBw.out⟩
          · have hlt8 : (k : Int) < 80 := by omega
            obtain ⟨b, off, x, rfl, hx, hok0, hok, g1, g2, g3, g4, hbl⟩ := acts_at HW1.out HBel.out (show k < n1 by omega)
            have HX := Lib.hid (And.intro hx (And.intro hok0 (And.intro hok hbl)))
            have hbw1 : b < wr.heap.size := Nat.lt_of_lt_of_le hbl HBel.out.size
            clear hx hok0 hok hbl hend h80
            have HLg : Hid (∀ w', Calls Try.prog 12 #[.agg #[.int .i64 x.kind, .int .i64 x.i, .slice x.aB x.m x.c, .slice x.aL x.k x.cL]] w' fun e w'' => e = .returned (.bool (largeB x)) ∧ Below w'.heap.size w' w'') := Lib.hid (fun w' => large_any w' x)
            cases hlg : largeB x with
            | true =>
              rw [hlg] at HLg
              clear hlg
              go_wp2_with (go_at_call 12; refine (HLg.out _).mono ?_; rintro e w4 ⟨rfl, hb4⟩; have HB4 := Lib.hid hb4; clear hb4)
              go_ret
              exact ⟨rfl, HBel.out.trans (HB4.out.mono HBel.out.size)⟩
            | false =>
              rw [hlg] at HLg
              clear hlg
              go_wp2_with (go_at_call 12; refine (HLg.out _).mono ?_; rintro e w4 ⟨rfl, hb4⟩
                           have HBO : Hid (But [] wr w4) := Lib.hid (But.of_below hb4)
                           have HBel4 : Hid (Below w.heap.size w w4) := Lib.hid (HBel.out.trans (hb4.mono HBel.out.size))
                           have k1 := (hb4.cell (p := ⟨b, off + k * 4, none⟩) hbw1).trans g1
                           have k2 := (hb4.cell (p := ⟨b, off + k * 4 + 1, none⟩) hbw1).trans g2
                           have k3 := (hb4.cell (p := ⟨b, off + k * 4 + 2, none⟩) hbw1).trans g3
                           have k4 := (hb4.cell (p := ⟨b, off + k * 4 + 3, none⟩) hbw1).trans g4
                           clear hb4)
              have HPl : Hid (Calls Try.prog 31 #[.pointer (some ⟨dB, 0, none⟩), .agg #[.int .i64 x.kind, .int .i64 x.i, .slice x.aB x.m x.c, .slice x.aL x.k x.cL]] w4 fun e w' => e = .returned (.tuple #[]) ∧ DevAt w' dB sB mB n (M.play n d x) ∧ But [dB, sB, mB] w4 w') := Lib.hid
                (play_any w4 (HDv.out.but HBO.out (by simp) (by simp) (by simp)) x (HX.out.2.2.1.but HBO.out (by simp)) (row_old HX.out.2.1.row (by have := HL.out; simp; omega)) (krow_old HX.out.2.1.keep (by have := HL.out; simp; omega)))
              refine HPl.out.mono ?_
              rintro e w5 ⟨rfl, hd5, hb5⟩
              have HD5 := Lib.hid hd5
              have HB5 : Hid (But [dB, sB, mB] w2 w5) := Lib.hid ((HBw.out.trans (HBO.out.mono (by simp))).trans hb5)
              clear hd5 hb5
              go_wp2_with fail
              go_roundw
              case rel => exact ⟨k + 1, _, by omega, by omega, by go_num, HD5.out, HB5.out⟩
              case measure => simp [intOf]; omega
    case rest =>
      obtain ⟨d, hdv, hbw⟩ := hcut
      have HDv := Lib.hid hdv
      have HBw := Lib.hid hbw
      clear hdv hbw
      go_wp2_with fail
      refine (crash_any _ HDv.out none 0 0 [] (krow_nil _) (.inl rfl)).mono ?_
      rintro e w5 ⟨rfl, hd5, hb5⟩
      have HF := Lib.hid (Free.crash n d [])
      generalize M.crashD n d [] = d5 at hd5 HF
      have HD5 := Lib.hid hd5
      have HB5 : Hid (But [dB, sB, mB] w2 w5) := Lib.hid (HBw.out.trans hb5)
      have HBel5 : Hid (Below w.heap.size w w5) := Lib.hid (HB2.out.trans (HB5.out.to_below (by have := HL.out; simp; omega) HB2.out.size))
      clear hd5 hb5
      go_wp2_with fail
      refine (write_any _ HD5.out x2 HX2.out.1 HX2.out.2 a3 n3 c3 l3 (row_but HW3.out (But.of_below HBel5.out) (.inr (by simp))) (row_old HW3.out (by have := HL.out; simp; omega))).mono ?_
      rintro e w6 ⟨rfl, hd6, hb6⟩
      have HD6 := Lib.hid hd6
      have HB6 : Hid (But [dB, sB, mB] w2 w6) := Lib.hid (HB5.out.trans (hb6.mono (by simp)))
      have HBel6 : Hid (Below w.heap.size w w6) := Lib.hid (HB2.out.trans (HB6.out.to_below (by have := HL.out; simp; omega) HB2.out.size))
      have HE := Lib.hid (HF.out.writeE n x2 l3)
      clear hd6 hb6
      have Hn3 : Hid (n3 = l3.length) := Lib.hid (by rw [← HW3.out.1, u8s_length])
      by_cases c1 : x2 < 0
      · rw [HE.out, if_pos (.inl c1)]
        go_wp2_with fail
        go_ret
        exact ⟨rfl, HBel6.out⟩
      · by_cases c2 : (n : Int) ≤ x2
        · rw [HE.out, if_pos (.inr c2)]
          have c1' : 0 ≤ x2 := by omega
          clear c1
          go_wp2_with fail
          go_ret
          exact ⟨rfl, HBel6.out⟩
        · by_cases c3 : 144 < l3.length
          · rw [HE.out, if_neg (by omega), if_pos c3]
            have c3' : (144 : Int) < (n3 : Int) := by have := Hn3.out; omega
            clear c1 c2 c3
            go_wp2_with fail
            go_ret
            exact ⟨rfl, HBel6.out⟩
          · have he0 : M.writeE n d5 x2 l3 = 0 := by rw [HE.out, if_neg (by omega), if_neg c3]
            rw [he0]
            obtain ⟨i, rfl⟩ : ∃ i : Nat, x2 = (i : Int) := ⟨x2.toNat, by omega⟩
            have HF6 := Lib.hid (HF.out.write n i l3)
            have HS6 := Lib.hid (seen_write_same HF.out n l3 he0)
            have Hi : Hid (i < n ∧ l3.length ≤ 144) := Lib.hid ⟨by omega, by omega⟩
            clear c1 c2 c3 he0
            generalize M.writeD n d5 i l3 = d6 at *
            go_upto_block 2 with fail
            go_cut [14] (fun _ wx => ∃ d, DevAt wx dB sB mB n d ∧ But [dB, sB, mB] w2 wx ∧ Free d ∧ M.seen d i = M.pad l3)
            case first =>
              go_wp2_with fail
              go_loopw [14] (fun t wr => ∃ (k : Nat) (d : M.Dv), k ≤ 80 ∧ k ≤ n4 ∧ t = .int .i64 k ∧ DevAt wr dB sB mB n d ∧ But [dB, sB, mB] w2 wr ∧ Free d ∧ M.seen d i = M.pad l3) (fun t _ => 80 - (intOf t).toNat)
              case atStart => exact ⟨0, d6, by omega, by omega, rfl, HD6.out, HB6.out, HF6.out, HS6.out⟩
              case round =>
                obtain ⟨k, d, hk, hkn, rfl, hdv, hbw, hf, hs⟩ := hrel
                have HDv := Lib.hid hdv
                have HBw := Lib.hid hbw
                have HFr := Lib.hid hf
                have HSn := Lib.hid hs
                have HBel : Hid (Below w.heap.size w wr) := Lib.hid (HB2.out.trans (hbw.to_below (by have := HL.out; simp; omega) HB2.out.size))
                clear hdv hbw hf hs
                have hk0 : (0 : Int) ≤ (k : Int) := by omega
                by_cases hend : k = n4
                · have hge : ¬ ((k : Int) < (n4 : Int)) := by omega
                  clear hend
                  go_wp2_with fail
                  go_meet
                  exact ⟨d, HDv.out, HBw.out, HFr.out, HSn.out⟩
                · have hlt : (k : Int) < (n4 : Int) := by omega
                  by_cases h80 : k = 80
                  · have hge : ¬ ((k : Int) < 80) := by omega
                    clear h80 hend
                    go_wp2_with fail
                    go_meet
                    exact ⟨d, HDv.out, HBw.out, HFr.out, HSn.out⟩
                  · have hlt8 : (k : Int) < 80 := by omega
                    obtain ⟨b, off, x, rfl, hx, hok0, hok, g1, g2, g3, g4, hbl⟩ := acts_at HW4.out HBel.out (show k < n4 by omega)
                    have HX := Lib.hid (And.intro hx (And.intro hok0 (And.intro hok hbl)))
                    have hbw1 : b < wr.heap.size := Nat.lt_of_lt_of_le hbl HBel.out.size
                    clear hx hok0 hok hbl hend h80
                    have HLg : Hid (∀ w', Calls Try.prog 12 #[.agg #[.int .i64 x.kind, .int .i64 x.i, .slice x.aB x.m x.c, .slice x.aL x.k x.cL]] w' fun e w'' => e = .returned (.bool (largeB x)) ∧ Below w'.heap.size w' w'') := Lib.hid (fun w' => large_any w' x)
                    by_cases hxi : x.i = (i : Int)
                    · have hne : (x.i != (i : Int)) = false := by simp [hxi]
                      have Hxi := Lib.hid hxi
                      clear hxi
                      have HD8 := Lib.hid HDv.out
                      have HB8 := Lib.hid HBw.out
                      have HF8 := Lib.hid HFr.out
                      have HS8 := Lib.hid HSn.out
                      by_cases hk1 : x.kind = 1
                      · have hkb : (x.kind == 1) = true := by simp [hk1]
                        have Hk1 := Lib.hid hk1
                        clear hk1
                        go_wp2_with fail
                        refine (barrier_any _ HD8.out).mono ?_
                        rintro e w9 ⟨rfl, hd9, hb9⟩
                        have HD9 := Lib.hid hd9
                        have HB9 := Lib.hid (HB8.out.trans hb9)
                        clear hd9 hb9
                        go_wp2_with fail
                        go_roundw
                        case rel => exact ⟨k + 1, _, by omega, by omega, by go_num, HD9.out, HB9.out, HF8.out.barrier, (seen_barrier HF8.out i).trans HS8.out⟩
                        case measure => simp [intOf]; omega
                      · have hkb : (x.kind == 1) = false := by simp [hk1]
                        have Hk1 := Lib.hid hk1
                        clear hk1
                        go_wp2_with fail
                        go_roundw
                        case rel => exact ⟨k + 1, _, by omega, by omega, by go_num, HD8.out, HB8.out, HF8.out, HS8.out⟩
                        case measure => simp [intOf]; omega
                    · have hne : (x.i != (i : Int)) = true := by simp [hxi]
                      have Hxi := Lib.hid hxi
                      clear hxi
                      cases hlg : largeB x with
                      | true =>
                        rw [hlg] at HLg
                        clear hlg
                        by_cases hk1 : x.kind = 1
                        · have hkb : (x.kind == 1) = true := by simp [hk1]
                          have Hk1 := Lib.hid hk1
                          clear hk1
                          go_wp2_with (go_at_call 12; refine (HLg.out _).mono ?_; rintro e w7 ⟨rfl, hb4⟩
                                       have HBO : Hid (But [] wr w7) := Lib.hid (But.of_below hb4)
                                       have k1 := (hb4.cell (p := ⟨b, off + k * 4, none⟩) hbw1).trans g1
                                       have k2 := (hb4.cell (p := ⟨b, off + k * 4 + 1, none⟩) hbw1).trans g2
                                       have k3 := (hb4.cell (p := ⟨b, off + k * 4 + 2, none⟩) hbw1).trans g3
                                       have HD7 : Hid (DevAt w7 dB sB mB n d) := Lib.hid (HDv.out.but HBO.out (by simp) (by simp) (by simp))
                                       have HB7 : Hid (But [dB, sB, mB] w2 w7) := Lib.hid (HBw.out.trans (HBO.out.mono (by simp)))
                                       have HX7 := Lib.hid (HX.out.2.2.1.but HBO.out (by simp))
                                       clear hb4)
                          refine (barrier_any _ HD7.out).mono ?_
                          rintro e w9 ⟨rfl, hd9, hb9⟩
                          have HD9 := Lib.hid hd9
                          have HB9 := Lib.hid (HB7.out.trans hb9)
                          clear hd9 hb9
                          go_wp2_with fail
                          go_roundw
                          case rel => exact ⟨k + 1, _, by omega, by omega, by go_num, HD9.out, HB9.out, HFr.out.barrier, (seen_barrier HFr.out i).trans HSn.out⟩
                          case measure => simp [intOf]; omega
                        · have hkb : (x.kind == 1) = false := by simp [hk1]
                          have Hk1 := Lib.hid hk1
                          clear hk1
                          go_wp2_with (go_at_call 12; refine (HLg.out _).mono ?_; rintro e w7 ⟨rfl, hb4⟩
                                       have HBO : Hid (But [] wr w7) := Lib.hid (But.of_below hb4)
                                       have k1 := (hb4.cell (p := ⟨b, off + k * 4, none⟩) hbw1).trans g1
                                       have k2 := (hb4.cell (p := ⟨b, off + k * 4 + 1, none⟩) hbw1).trans g2
                                       have k3 := (hb4.cell (p := ⟨b, off + k * 4 + 2, none⟩) hbw1).trans g3
                                       have HD7 : Hid (DevAt w7 dB sB mB n d) := Lib.hid (HDv.out.but HBO.out (by simp) (by simp) (by simp))
                                       have HB7 : Hid (But [dB, sB, mB] w2 w7) := Lib.hid (HBw.out.trans (HBO.out.mono (by simp)))
                                       have HX7 := Lib.hid (HX.out.2.2.1.but HBO.out (by simp))
                                       clear hb4)
                          go_roundw
                          case rel => exact ⟨k + 1, _, by omega, by omega, by go_num, HD7.out, HB7.out, HFr.out, HSn.out⟩
                          case measure => simp [intOf]; omega
                      | false =>
                        rw [hlg] at HLg
                        clear hlg
                        go_wp2_with (go_at_call 12; refine (HLg.out _).mono ?_; rintro e w7 ⟨rfl, hb4⟩
                                     have HBO : Hid (But [] wr w7) := Lib.hid (But.of_below hb4)
                                     have k1 := (hb4.cell (p := ⟨b, off + k * 4, none⟩) hbw1).trans g1
                                     have k2 := (hb4.cell (p := ⟨b, off + k * 4 + 1, none⟩) hbw1).trans g2
                                     have k3 := (hb4.cell (p := ⟨b, off + k * 4 + 2, none⟩) hbw1).trans g3
                                     have HD7 : Hid (DevAt w7 dB sB mB n d) := Lib.hid (HDv.out.but HBO.out (by simp) (by simp) (by simp))
                                     have HB7 : Hid (But [dB, sB, mB] w2 w7) := Lib.hid (HBw.out.trans (HBO.out.mono (by simp)))
                                     have HX7 := Lib.hid (HX.out.2.2.1.but HBO.out (by simp))
                                     clear hb4)
                        refine wp_region_still_tail 11 (by kernel_rfl) (by kernel_rfl) ?_
                        simp only [List.take_succ_cons, List.take_zero, List.drop_succ_cons, List.drop_zero]
                        iterate 11 still_step
                        refine wpStill_nil ?_
                        change wpList _ _ _ _ _ w7.drew
                        have k1d : w7.drew.cell? ⟨b, off + k * 4, none⟩ = some (.int .i64 x.kind) := k1
                        have HW7 := Lib.hid (write_any w7.drew HD7.out.drew x.i HX7.out.i1 HX7.out.i2 _ _ _ x.b (HX7.out.but ((But.refl [] w7).drew) (by simp)).row (row_old HX.out.2.1.row (by have := HL.out; simp; omega)))
                        have HB7d : Hid (But [dB, sB, mB] w2 w7.drew) := Lib.hid HB7.out.drew
                        have Hbn : Hid (b ∉ [dB, mB] ∧ b < w7.drew.heap.size) := Lib.hid ⟨by have := HL.out; have := HX.out.2.2.2; simp; omega, Nat.lt_of_lt_of_le hbw1 HBO.out.size⟩
                        clear k2 k3
                        generalize w7.drew = w7d at *
                        go_wp2_with fail
                        refine HW7.out.mono ?_
                        rintro e w8 ⟨rfl, hd8, hb8⟩
                        have k1e := (hb8.cell (b := b) (o := off + k * 4) Hbn.out.2 Hbn.out.1).trans k1d
                        have HD8 := Lib.hid hd8
                        have HB8 : Hid (But [dB, sB, mB] w2 w8) := Lib.hid (HB7d.out.trans (hb8.mono (by simp)))
                        have HF8 := Lib.hid (HFr.out.write n x.i x.b)
                        have HS8 := Lib.hid ((seen_write HFr.out n (i := i) (j := x.i) Hxi.out x.b).trans HSn.out)
                        clear hd8 hb8 k1d k1
                        generalize M.writeD n d x.i x.b = d8 at *
                        generalize M.writeE n d x.i x.b = e8 at *
                        by_cases hk1 : x.kind = 1
                        · have hkb : (x.kind == 1) = true := by simp [hk1]
                          have Hk1 := Lib.hid hk1
                          clear hk1
                          go_wp2_with fail
                          refine (barrier_any _ HD8.out).mono ?_
                          rintro e w9 ⟨rfl, hd9, hb9⟩
                          have HD9 := Lib.hid hd9
                          have HB9 := Lib.hid (HB8.out.trans hb9)
                          clear hd9 hb9
                          go_wp2_with fail
                          go_roundw
                          case rel => exact ⟨k + 1, _, by omega, by omega, by go_num, HD9.out, HB9.out, HF8.out.barrier, (seen_barrier HF8.out i).trans HS8.out⟩
                          case measure => simp [intOf]; omega
                        · have hkb : (x.kind == 1) = false := by simp [hk1]
                          have Hk1 := Lib.hid hk1
                          clear hk1
                          go_wp2_with fail
                          go_roundw
                          case rel => exact ⟨k + 1, _, by omega, by omega, by go_num, HD8.out, HB8.out, HF8.out, HS8.out⟩
                          case measure => simp [intOf]; omega
            case rest =>
              obtain ⟨d9, hd9, hb9, hf9, hs9⟩ := hcut
              have hr9 : M.reach n d9 (i : Int) = 0 := by rw [hf9.reach, if_neg (by have := Hi.out.1; omega)]
              have HRd := Lib.hid (read_yes _ hd9 i hr9)
              have HB9 := Lib.hid hb9
              have HBel9 : Hid (Below w.heap.size w wc) := Lib.hid (HB2.out.trans (hb9.to_below (by have := HL.out; simp; omega) HB2.out.size))
              rw [hs9] at HRd
              clear hd9 hb9 hf9 hs9 hr9
              go_wp2_with fail
              refine HRd.out.mono ?_
              rintro e w10 ⟨bR, rfl, hbR, hltR, hrg, _, hb10⟩
              have HBel10 : Hid (Below w.heap.size w w10) := Lib.hid (HBel9.out.trans (hb10.mono HBel9.out.size))
              have hc1 : ∀ m, (convert 28 9 (.slice (some ⟨bR, 0, none⟩) n3 144)).run Try.prog (w10.drewN m) = .ok (.string (str l3)) (w10.drewN m) := fun m => by
                have h1 := conv_take (w := w10.drewN m) (k := n3) (rangeAt_block hrg rfl) hltR (M.pad_len Hi.out.2) (by rw [Hn3.out]; exact Hi.out.2)
                rw [Hn3.out, pad_take Hi.out.2] at h1
                rw [Hn3.out]
                exact h1
              have hc2 : ∀ m, (convert 28 9 (.slice a3 n3 c3)).run Try.prog (w10.drewN m) = .ok (.string (str l3)) (w10.drewN m) := fun m =>
                conv_row (row_but (row_but HW3.out (But.of_below HBel10.out) (.inr (by simp))) ((But.refl [] w10).drewN m) (.inr (by simp)))
              have HRg := Lib.hid hrg
              have hn30 : (0 : Int) ≤ (n3 : Int) := by omega
              have hn31 : (n3 : Int) ≤ 144 := by have := Hn3.out; have := Hi.out.2; omega
              clear hbR hltR hrg hb10
              go_wp2_with fail
              go_quiet (fail)
              clear hc1 hc2
              go_wp2_with fail
              go_loopw [17] (fun t wx => ∃ (k m : Nat), n3 ≤ k ∧ k ≤ 144 ∧ t = .int .i64 k ∧ wx = w10.drewN m) (fun t _ => 144 - (intOf t).toNat)
              case atStart => exact ⟨n3, _, by omega, by omega, rfl, rfl⟩
              case round =>
                obtain ⟨k, m, hk, hk4, rfl, rfl⟩ := hrel
                have hk0 : (0 : Int) ≤ (k : Int) := by omega
                by_cases hke : k = 144
                · have hge : ¬ ((k : Int) < 144) := by omega
                  clear hke
                  go_wp2_with fail
                  go_ret
                  exact ⟨rfl, HBel10.out.trans ⟨rfl, rfl, rfl, Nat.le_refl _, fun _ _ => rfl⟩⟩
                · have hlt : (k : Int) < 144 := by omega
                  have hcell : w10.cell? ⟨bR, k, none⟩ = some (.int .u8 0) := by
                    have := range_byte HRg.out (pad_zero (b := l3) (j := k) (by have := Hn3.out; omega) (by omega))
                    rw [Nat.zero_add] at this
                    exact this
                  clear hke
                  go_wp2_with fail
                  go_roundw
                  case rel => exact ⟨k + 1, _, by omega, by omega, by go_num, rfl⟩
                  case measure => simp [intOf]; omega

set_option maxRecDepth 100000 in
theorem lifted (os : Os) (started : os.Started) (H : Type) (enc : TypeId × Value → H) :
    ReturnsInHanded {} Try.checked os 6 .any (Rows.sectorAloneSpec.pre6 enc Try.prog Try.f6 Rows.sectorAloneRow.domain false) (Rows.sectorAloneSpec.post enc Try.prog Try.f6 false true false false) := by
  refine returnsInHanded_of_change (C := Try.checked) own started (by kernel_rfl) Try.func6
    (ChangeSpec.witness6 (enc := enc) (C := Try.checked) false ⟨#[], #[.int .i64 0, .slice none 0 0, .int .i64 0, .slice none 0 0, .slice none 0 0], []⟩ 8 (by kernel_rfl) (by kernel_rfl) (by kernel_rfl) (by kernel_rfl)) ?_
  intro W base args ds gs before hval0 hW hcnd _
  have hval : ∀ (j : Nat) t v, Try.f6.params[j]? = some t → args[j]? = some v → Value.okWide Try.prog W .any base t v := hval0
  have hW' := hW
  obtain ⟨p, q, hA0, hV, rfl, hfz, hnd⟩ := hW
  have hA : DataW.TrodAll enc Try.prog W 0 (fun _ => true) true Try.f6.params.toList args.toList ds p := hA0
  rw [Try.params6] at hA hval
  obtain ⟨v0, vs0, d0, ds0, p0, q0, hargs, rfl, rfl, h0, r0'⟩ := trodAll_cons hA
  obtain ⟨v1, vs1, d1, ds1, p1, q1, rfl, rfl, rfl, h1, r1'⟩ := trodAll_cons r0'
  obtain ⟨v2, vs2, d2, ds2, p2, q2, rfl, rfl, rfl, h2, r2'⟩ := trodAll_cons r1'
  obtain ⟨v3, vs3, d3, ds3, p3, q3, rfl, rfl, rfl, h3, r3'⟩ := trodAll_cons r2'
  obtain ⟨v4, vs4, d4, ds4, p4, q4, rfl, rfl, rfl, h4, r4'⟩ := trodAll_cons r3'
  obtain ⟨rfl, rfl, rfl⟩ := trodAll_nil r4'
  obtain rfl : args = #[v0, v1, v2, v3, v4] := by cases args; simp_all
  obtain ⟨rfl, rfl⟩ := trodVars_none hV
  obtain ⟨x0, rfl, rfl, rfl, w0⟩ := open_int Try.underlying3 (hval 0 3 v0 rfl rfl) h0
  have k1 := h1
  have lt1 : ∀ x ∈ p1, x.block < W.heap.size := by obtain ⟨m, hm⟩ := k1; exact DataW.trod_lt m _ _ _ hm
  obtain ⟨a1, n1, c1, l1, rfl, w1⟩ := open_lot h1 (okWide_slice Try.underlying22 (hval 1 22 v1 rfl rfl))
  obtain ⟨x2, rfl, rfl, rfl, w2⟩ := open_int Try.underlying3 (hval 2 3 v2 rfl rfl) h2
  have k3 := h3
  have lt3 : ∀ x ∈ p3, x.block < W.heap.size := by obtain ⟨m, hm⟩ := k3; exact DataW.trod_lt m _ _ _ hm
  obtain ⟨a3, n3, c3, l3, rfl, w3⟩ := open_bytes h3 (okWide_slice Try.underlying28 (hval 3 28 v3 rfl rfl))
  have k4 := h4
  have lt4 : ∀ x ∈ p4, x.block < W.heap.size := by obtain ⟨m, hm⟩ := k4; exact DataW.trod_lt m _ _ _ hm
  obtain ⟨a4, n4, c4, l4, rfl, w4⟩ := open_lot h4 (okWide_slice Try.underlying22 (hval 4 22 v4 rfl rfl))
  clear hA0 hval0
  refine (walk x0 a1 n1 c1 l1 x2 a3 n3 c3 l3 a4 n4 c4 l4 W w0 w1 w2 w3 w4).mono fun e W' ⟨he, bel⟩ => ?_
  subst he
  exact ⟨_, rfl, _, _, _, [], _, [], hW', trodAll_mk1 (shut_bool Try.underlying4 _), (trodAll_cons_mk (shut_int Try.underlying3 w0) (trodAll_cons_mk (Below.trod laidOut (by kernel_rfl) (of_decide_eq_true (by kernel_rfl)) k1 bel lt1) (trodAll_cons_mk (shut_int Try.underlying3 w2) (trodAll_cons_mk (Below.trod laidOut (by kernel_rfl) (of_decide_eq_true (by kernel_rfl)) k3 bel lt3) (trodAll_cons_mk (Below.trod laidOut (by kernel_rfl) (of_decide_eq_true (by kernel_rfl)) k4 bel lt4) trodAll_mk0))))), rfl, bel.frame _, fun h => by cases h⟩

theorem over : Rows.sectorAloneRow.holds Try.pinned (OpenSpec.ofChange Rows.sectorAloneSpec) :=
  OpenClaim.holds_of_wide 6 Try.f6 rfl rfl rfl rfl rfl rfl rfl ⟨rfl, rfl, rfl, rfl, rfl⟩ rfl rfl rfl rfl rfl (by kernel_rfl) Try.func6 (by kernel_rfl)
    (of_decide_eq_true (by kernel_rfl)) (by unfold Func.isWrapper; first | (rw [if_pos (by decide +kernel)]; kernel_rfl) | (rw [if_neg (by decide +kernel)]; exact ⟨rfl, rfl⟩))
    (fun os started H enc _ => lifted os started H enc)

/-- the statement -/
theorem proved : Rows.SectorAloneSaid := over
#print axioms proved
end Go.Proofs.Ytbcblcnnffdjdaa.sectorAlone
