/-
  PROVED: A device that was crashed with nothing pending reads as it did, and one that lost all reads 0 everywhere, is not dead and has nothing pending. CONDITIONS: none (any number of sectors, any acts, whatever the crash says).
-/
import Derived.Test.YtbcblcnnffdjdaaOpen
import Derived.Test.YtbcblcnnffdjdaaOwn
import Derived.Deep.CutBlock
import Derived.Deep.DeepCutAuto
namespace Go.Proofs.Ytbcblcnnffdjdaa.sectorAnew
open Go.ChangeShapes Go.WideShapes Go.ChangeAt Go.RowKit Go.Joins
set_option linter.unusedVariables false
set_option linter.unusedSimpArgs false
set_option maxRecDepth 20000


set_option maxHeartbeats 4000000 in
theorem walk (x0 : Int) (a1 : Option Addr) (n1 c1 : Nat) (l1 : List A) (a2 : Option Addr) (n2 c2 : Nat) (l2 : List (Int × Int)) (w : World) (w0 : (Lit.int .i64 x0).wf = true) (w1 : Acts w a1 n1 c1 l1) (w2 : KRow w a2 n2 c2 l2) :
    Calls Try.prog 7 #[.int .i64 x0, .slice a1 n1 c1, .slice a2 n2 c2] w fun e w' => e = .returned (.bool true) ∧ Below w.heap.size w w' := by
  have HA := Lib.hid (awake_any w)
  have HW1 := Lib.hid w1
  have HW2 := Lib.hid w2
  have HX0 := Lib.hid (wf_int w0)
  clear w0 w1 w2
  by_cases hn : x0 < 0 ∨ 512 < x0
  · have HN := Lib.hid hn
    clear hn
    go_enter Try.func7, Try.ntmps7
    go_wp2_with (first
      | (go_at_call 9; refine HA.out.mono ?_; rintro e w1 ⟨rfl, hb1⟩; have HB1 := Lib.hid hb1; clear hb1)
      | (go_at_call 10; refine (new_no x0 HN.out _).mono ?_; rintro e w2 ⟨rfl, rfl⟩))
    go_ret
    exact ⟨rfl, HB1.out⟩
  · obtain ⟨n, rfl⟩ : ∃ n : Nat, x0 = (n : Int) := ⟨x0.toNat, by omega⟩
    have hn512 : n ≤ 512 := by omega
    have HN := Lib.hid hn512
    clear hn hn512
    by_cases hbig : 600 < n2
    · have hbigI : (600 : Int) < (n2 : Int) := by omega
      clear hbig
      go_enter Try.func7, Try.ntmps7
      go_wp2_with (first
        | (go_at_call 9; refine HA.out.mono ?_; rintro e w1 ⟨rfl, hb1⟩; have HB1 := Lib.hid hb1; clear hb1)
        | (go_at_call 10; refine (new_yes n HN.out _).mono ?_; rintro e w2 ⟨dB, sB, mB, rfl, hd2, hb2, l1, l2, l3⟩
           have HB2 := Lib.hid (HB1.out.trans (hb2.mono HB1.out.size))
           clear hd2 hb2 l1 l2 l3))
      go_ret
      exact ⟨rfl, HB2.out⟩
    · have hbigI : ¬ ((600 : Int) < (n2 : Int)) := by omega
      clear hbig
      go_enter Try.func7, Try.ntmps7
      go_upto_block 0 with (first
        | (go_at_call 9; refine HA.out.mono ?_; rintro e w1 ⟨rfl, hb1⟩; have HB1 := Lib.hid hb1; clear hb1)
        | (go_at_call 10; refine (new_yes n HN.out _).mono ?_; rintro e w2 ⟨dB, sB, mB, rfl, hd2, hb2, l1, l2, l3⟩
           have HD2 := Lib.hid hd2
           have HB2 := Lib.hid (HB1.out.trans (hb2.mono HB1.out.size))
           have HL : Hid (w.heap.size ≤ dB ∧ w.heap.size ≤ sB ∧ w.heap.size ≤ mB) := Lib.hid ⟨by have := HB1.out.size; omega, by have := HB1.out.size; omega, by have := HB1.out.size; omega⟩
           clear hd2 hb2 l1 l2 l3))
      go_cut [8] (fun _ wx => ∃ d, DevAt wx dB sB mB n d ∧ But [dB, sB, mB] w2 wx)
      case first =>
        go_wp2_with fail
        go_loopw [8] (fun i wr => ∃ (k : Nat) (d : M.Dv), k ≤ 80 ∧ k ≤ n1 ∧ i = .int .i64 k ∧ DevAt wr dB sB mB n d ∧ But [dB, sB, mB] w2 wr) (fun i _ => 80 - (intOf i).toNat)
        case atStart => exact ⟨0, M.fresh, by omega, by omega, rfl, HD2.out, But.refl _ _⟩
        case round =>
          obtain ⟨k, d, hk, hkn, rfl, hdv, hbw⟩ := hrel
          have HDv := Lib.hid hdv
          have HBw := Lib.hid hbw
          have HBel : Hid (Below w.heap.size w wr) := Lib.hid (HB2.out.trans (hbw.to_below (by have := HL.out; simp; omega) HB2.out.size))
          clear hdv hbw
          have hk0 : (0 : Int) ≤ (k : Int) := by omega
          by_cases hend : k = n1
          · have hge : ¬ ((k : Int) < (n1 : Int)) := by omega
            clear hend
            go_wp2_with fail
            go_meet
            exact ⟨d, HDv.out, HBw.out⟩
          · have hlt : (k : Int) < (n1 : Int) := by omega
            by_cases h80 : k = 80
            · have hge : ¬ ((k : Int) < 80) := by omega
              clear h80 hend
              go_wp2_with fail
              go_meet
              exact ⟨d, HDv.out, HBw.out⟩
            · have hlt8 : (k : Int) < 80 := by omega
              obtain ⟨b, off, x, rfl, hx, hok0, hok, g1, g2, g3, g4, hbl⟩ := acts_at HW1.out HBel.out (show k < n1 by omega)
              have HX := Lib.hid (And.intro hx (And.intro hok0 (And.intro hok hbl)))
              have hbw1 : b < wr.heap.size := Nat.lt_of_lt_of_le hbl HBel.out.size
              clear hx hok0 hok hbl hend h80
              have HLg : Hid (∀ w', Calls Try.prog 12 #[.agg #[.int .i64 x.kind, .int .i64 x.i, .slice x.aB x.m x.c, .slice x.aL x.k x.cL]] w' fun e w'' => e = .returned (.bool (largeB x)) ∧ Below w'.heap.size w' w'') := Lib.hid (fun w' => large_any w' x)
              cases hlg : largeB x with
              | true =>
                rw [hlg] at HLg
                clear hlg
                go_wp2_with (go_at_call 12; refine (HLg.out _).mono ?_; rintro e w4 ⟨rfl, hb4⟩; have HB4 := Lib.hid hb4; clear hb4)
                go_ret
                exact ⟨rfl, HBel.out.trans (HB4.out.mono HBel.out.size)⟩
              | false =>
                rw [hlg] at HLg
                clear hlg
                go_wp2_with (go_at_call 12; refine (HLg.out _).mono ?_; rintro e w4 ⟨rfl, hb4⟩
                             have HBO : Hid (But [] wr w4) := Lib.hid (But.of_below hb4)
                             have HBel4 : Hid (Below w.heap.size w w4) := Lib.hid (HBel.out.trans (hb4.mono HBel.out.size))
                             have k1 := (hb4.cell (p := ⟨b, off + k * 4, none⟩) hbw1).trans g1
                             have k2 := (hb4.cell (p := ⟨b, off + k * 4 + 1, none⟩) hbw1).trans g2
                             have k3 := (hb4.cell (p := ⟨b, off + k * 4 + 2, none⟩) hbw1).trans g3
                             have k4 := (hb4.cell (p := ⟨b, off + k * 4 + 3, none⟩) hbw1).trans g4
                             clear hb4)
                have HPl : Hid (Calls Try.prog 31 #[.pointer (some ⟨dB, 0, none⟩), .agg #[.int .i64 x.kind, .int .i64 x.i, .slice x.aB x.m x.c, .slice x.aL x.k x.cL]] w4 fun e w' => e = .returned (.tuple #[]) ∧ DevAt w' dB sB mB n (M.play n d x) ∧ But [dB, sB, mB] w4 w') := Lib.hid
                  (play_any w4 (HDv.out.but HBO.out (by simp) (by simp) (by simp)) x (HX.out.2.2.1.but HBO.out (by simp)) (row_old HX.out.2.1.row (by have := HL.out; simp; omega)) (krow_old HX.out.2.1.keep (by have := HL.out; simp; omega)))
                refine HPl.out.mono ?_
                rintro e w5 ⟨rfl, hd5, hb5⟩
                have HD5 := Lib.hid hd5
                have HB5 : Hid (But [dB, sB, mB] w2 w5) := Lib.hid ((HBw.out.trans (HBO.out.mono (by simp))).trans hb5)
                clear hd5 hb5
                go_wp2_with fail
                go_roundw
                case rel => exact ⟨k + 1, _, by omega, by omega, by go_num, HD5.out, HB5.out⟩
                case measure => simp [intOf]; omega
      case rest =>
        obtain ⟨d, hdv, hbw⟩ := hcut
        have HDv := Lib.hid hdv
        have HBw := Lib.hid hbw
        clear hdv hbw
        go_wp2_with fail
        refine (crash_any _ HDv.out none 0 0 [] (krow_nil _) (.inl rfl)).mono ?_
        rintro e w5 ⟨rfl, hd5, hb5⟩
        have HF := Lib.hid (Free.crash n d [])
        have HP : Hid (∀ k, (M.crashD n d []).P k = none) := Lib.hid (fun k => rfl)
        generalize M.crashD n d [] = d5 at hd5 HF HP
        have HD5 := Lib.hid hd5
        have HB5 : Hid (But [dB, sB, mB] w2 w5) := Lib.hid (HBw.out.trans hb5)
        have HBel5 : Hid (Below w.heap.size w w5) := Lib.hid (HB2.out.trans (HB5.out.to_below (by have := HL.out; simp; omega) HB2.out.size))
        clear hd5 hb5
        have Hlt : Hid (dB < w2.heap.size ∧ sB < w2.heap.size ∧ mB < w2.heap.size) := Lib.hid ⟨HD2.out.ltD, HD2.out.lt, HD2.out.pend.lt⟩
        have HO5 : Hid (Own 9 (w5.alloc (.cells #[] 9)) w2.heap.size (some ⟨w5.heap.size, 0, none⟩) 0 0 (strs (seenL d5 0))) := Lib.hid (own_lit 9 w5 w2.heap.size [] HB5.out.size (by simp))
        have HD5' := Lib.hid (HD5.out.alloc (.cells #[] 9))
        have HB5' := Lib.hid (HB5.out.alloc (.cells #[] 9))
        go_wp2_with fail
        go_loopw [9, 10] (fun v t wr => ∃ (k cap : Nat) (a : Option Addr), k ≤ n ∧ t = .int .i64 k ∧ v = .slice a k cap ∧ Own 9 wr w2.heap.size a k cap (strs (seenL d5 k)) ∧ DevAt wr dB sB mB n d5 ∧ But [dB, sB, mB] w2 wr) (fun _ t _ => n - (intOf t).toNat)
        case atStart => exact ⟨0, 0, _, by omega, rfl, rfl, HO5.out, HD5'.out, HB5'.out⟩
        case round =>
          obtain ⟨k, cap, a, hk, rfl, rfl, ho, hdv, hbw⟩ := hrel
          have HO := Lib.hid ho
          have HDr := Lib.hid hdv
          have HBr := Lib.hid hbw
          have HBelr : Hid (Below w.heap.size w wr) := Lib.hid (HB2.out.trans (hbw.to_below (by have := HL.out; simp; omega) HB2.out.size))
          clear ho hdv hbw HO5 HD5' HB5'
          have hk0 : (0 : Int) ≤ (k : Int) := by omega
          have hk512 : (k : Int) ≤ 512 := by have := HN.out; omega
          by_cases hke : k = n
          · have hge : ¬ ((k : Int) < (n : Int)) := by omega
            rw [hke] at HO ⊢
            clear hk hk0 hk512 hge hke
            have hge : ¬ ((n : Int) < (n : Int)) := by omega
            have HK2 := Lib.hid (krow_but HW2.out (But.of_below HBelr.out) (.inr (by simp)))
            go_wp2_with fail
            refine (crash_any _ HDr.out a2 n2 c2 l2 HK2.out (krow_old HW2.out (by have := HL.out; simp; omega))).mono ?_
            rintro e w6 ⟨rfl, hd6, hb6⟩
            have HF6 := Lib.hid (Free.crash n d5 l2)
            have HS6 : Hid (∀ i, M.seen (M.crashD n d5 l2) i = M.seen d5 i) := Lib.hid (fun i => seen_crash HP.out n l2 i)
            generalize M.crashD n d5 l2 = d6 at hd6 HF6 HS6
            have HD6 := Lib.hid hd6
            have HB6 := Lib.hid (HBr.out.trans hb6)
            have HO6 := Lib.hid (HO.out.but hb6 (by have := Hlt.out; simp; omega))
            clear hd6 hb6
            go_wp2_with fail
            go_loopw [13] (fun t wx => ∃ k : Nat, k ≤ n ∧ t = .int .i64 k ∧ Own 9 wx w2.heap.size a n cap (strs (seenL d5 n)) ∧ DevAt wx dB sB mB n d6 ∧ But [dB, sB, mB] w2 wx) (fun t _ => n - (intOf t).toNat)
            case atStart => exact ⟨0, by omega, rfl, HO6.out, HD6.out, HB6.out⟩
            case round =>
              obtain ⟨k, hk, rfl, ho, hdv, hbw⟩ := hrel
              have HO7 := Lib.hid ho
              have HD7 := Lib.hid hdv
              have HB7 := Lib.hid hbw
              have HBel7 : Hid (Below w.heap.size w wr) := Lib.hid (HB2.out.trans (hbw.to_below (by have := HL.out; simp; omega) HB2.out.size))
              clear ho hdv hbw HO6 HD6 HB6
              have hk0 : (0 : Int) ≤ (k : Int) := by omega
              have hk512 : (k : Int) ≤ 512 := by have := HN.out; omega
              by_cases hke : k = n
              · have hge : ¬ ((k : Int) < (n : Int)) := by omega
                clear hke
                go_wp2_with fail
                refine (lose_any _ HD7.out).mono ?_
                rintro e w8 ⟨rfl, hd8, hb8⟩
                have HD8 := Lib.hid hd8
                have HB8 := Lib.hid (HB7.out.trans hb8)
                clear hd8 hb8
                go_wp2_with fail
                go_loopw [16] (fun t wx => ∃ k : Nat, k ≤ n ∧ t = .int .i64 k ∧ DevAt wx dB sB mB n M.fresh ∧ But [dB, sB, mB] w2 wx) (fun t _ => n - (intOf t).toNat)
                case atStart => exact ⟨0, by omega, rfl, HD8.out, HB8.out⟩
                case round =>
                  obtain ⟨k, hk, rfl, hdv, hbw⟩ := hrel
                  have HD9 := Lib.hid hdv
                  have HB9 := Lib.hid hbw
                  have HBel9 : Hid (Below w.heap.size w wr) := Lib.hid (HB2.out.trans (hbw.to_below (by have := HL.out; simp; omega) HB2.out.size))
                  clear hdv hbw HD8 HB8
                  have hk0 : (0 : Int) ≤ (k : Int) := by omega
                  have hk512 : (k : Int) ≤ 512 := by have := HN.out; omega
                  by_cases hke : k = n
                  · have hge : ¬ ((k : Int) < (n : Int)) := by omega
                    clear hke
                    have HDe := Lib.hid (dead_any _ HD9.out)
                    have HPe := Lib.hid (pending_any _ HD9.out)
                    have hpl : M.pendL n M.fresh.P = [] := by
                      unfold M.pendL
                      rw [List.filter_eq_nil_iff]
                      intro k _
                      simp [M.fresh]
                    rw [hpl] at HPe
                    rw [show M.fresh.dead = false from rfl] at HDe
                    clear hpl
                    go_wp2_with (first
                      | (go_at_call 29; refine HDe.out.mono ?_; rintro e w' ⟨rfl, rfl⟩)
                      | (go_at_call 27; refine HPe.out.mono ?_; rintro e w10 ⟨v, rfl, hrow, hb10⟩
                         obtain ⟨aP, cP, rfl, _, _⟩ := own_row hrow (by simp [ints])
                         have HB10 := Lib.hid (HBel9.out.trans (hb10.mono HBel9.out.size))
                         clear hrow hb10))
                    go_ret
                    exact ⟨rfl, HB10.out⟩
                  · have hlt : (k : Int) < (n : Int) := by omega
                    have hkn : k < n := by omega
                    clear hke
                    have HRd := Lib.hid (read_yes _ HD9.out k (by rw [Free.fresh.reach, if_neg (by omega)]))
                    rw [seen_fresh] at HRd
                    go_wp2_with fail
                    refine HRd.out.mono ?_
                    rintro e w10 ⟨bR, rfl, hbR, hltR, hrg, _, hb10⟩
                    have HD10 := Lib.hid (HD9.out.but (But.of_below hb10) (by simp) (by simp) (by simp))
                    have HB10 : Hid (But [dB, sB, mB] w2 w10) := Lib.hid (HB9.out.trans ((But.of_below hb10).mono (by simp)))
                    have HRg := Lib.hid hrg
                    clear hbR hltR hrg hb10
                    go_wp2_with fail
                    go_loopw [19, 111] (fun _ t wx => ∃ j : Nat, j ≤ 144 ∧ t = .int .i64 j ∧ wx = w10) (fun _ t _ => 144 - (intOf t).toNat)
                    case atStart => exact ⟨0, by omega, rfl, rfl⟩
                    case round =>
                      obtain ⟨j, hj, rfl, rfl⟩ := hrel
                      have hj0 : (0 : Int) ≤ (j : Int) := by omega
                      by_cases hje : j = 144
                      · have hge : ¬ ((j : Int) < 144) := by omega
                        clear hje
                        go_wp2_with fail
                        go_roundw
                        case rel => exact ⟨k + 1, by omega, by go_num, HD10.out, HB10.out⟩
                        case measure => simp [intOf]; omega
                      · have hlt' : (j : Int) < 144 := by omega
                        have hcell : wr.cell? ⟨bR, j, none⟩ = some (.int .u8 0) := by
                          have := range_byte HRg.out (zero_get (j := j) (by omega))
                          rw [Nat.zero_add] at this
                          exact this
                        clear hje
                        go_wp2_with fail
                        go_roundw
                        case rel => exact ⟨j + 1, by omega, by go_num, by first | rfl | trivial⟩
                        case measure => simp [intOf]; omega
              · have hlt : (k : Int) < (n : Int) := by omega
                have hkn : k < n := by omega
                clear hke
                have HRd := Lib.hid (read_yes _ HD7.out k (by rw [HF6.out.reach, if_neg (by omega)]))
                rw [HS6.out] at HRd
                go_wp2_with fail
                refine HRd.out.mono ?_
                rintro e w10 ⟨bR, rfl, hbR, hltR, hrg, _, hb10⟩
                have HD10 := Lib.hid (HD7.out.but (But.of_below hb10) (by simp) (by simp) (by simp))
                have HB10 : Hid (But [dB, sB, mB] w2 w10) := Lib.hid (HB7.out.trans ((But.of_below hb10).mono (by simp)))
                have HO10 := Lib.hid (HO7.out.but (But.of_below hb10) (by simp))
                have hsl := seen_len HD5.out.wf k
                have hc1 : ∀ m, (convert 28 9 (.slice (some ⟨bR, 0, none⟩) 144 144)).run Try.prog (w10.drewN m) = .ok (.string (str (M.seen d5 k))) (w10.drewN m) := fun m => by
                  have h1 := conv_take (w := w10.drewN m) (k := 144) (rangeAt_block hrg rfl) hltR hsl (by omega)
                  rw [List.take_of_length_le (by omega)] at h1
                  exact h1
                obtain ⟨bW, rfl, hcW⟩ : ∃ bW, a = some ⟨bW, 0, none⟩ ∧ w10.cell? ⟨bW, k, none⟩ = some (.string (str (M.seen d5 k))) := by
                  obtain ⟨hrow, hab⟩ := HO10.out.row
                  rcases hrow.2.2.2 with h0 | ⟨b, off, e, hb, hc⟩
                  · have := seenL_len d5 n
                    rw [h0] at this
                    simp at this
                    omega
                  · obtain ⟨_, rfl⟩ := hab b off e
                    refine ⟨b, e, ?_⟩
                    have := hc k hkn
                    rw [Nat.zero_add] at this
                    rw [this, seenL_get hkn]
                clear hbR hltR hrg hb10 hsl
                go_wp2_with fail
                go_quiet (fail)
                clear hc1
                go_wp2_with fail
                go_roundw
                case rel => exact ⟨k + 1, by omega, by go_num, HO10.out.but ((But.refl [] w10).drewN nq) (by simp), HD10.out.drewN nq, HB10.out.drewN nq⟩
                case measure => simp [intOf]; omega
          · have hlt : (k : Int) < (n : Int) := by omega
            have hkn : k < n := by omega
            clear hke
            have HRd := Lib.hid (read_yes _ HDr.out k (by rw [HF.out.reach, if_neg (by omega)]))
            go_wp2_with fail
            refine HRd.out.mono ?_
            rintro e w6 ⟨bR, rfl, hbR, hltR, hrg, _, hb6⟩
            have HD6 := Lib.hid (HDr.out.but (But.of_below hb6) (by simp) (by simp) (by simp))
            have HB6 : Hid (But [dB, sB, mB] w2 w6) := Lib.hid (HBr.out.trans ((But.of_below hb6).mono (by simp)))
            have HO6 := Lib.hid (HO.out.but (But.of_below hb6) (by simp))
            have hsl := seen_len HD5.out.wf k
            have hc1 : (convert 28 9 (.slice (some ⟨bR, 0, none⟩) 144 144)).run Try.prog w6 = .ok (.string (str (M.seen d5 k))) w6 := by
              have h1 := conv_take (k := 144) hrg hltR hsl (by omega)
              rw [List.take_of_length_le (by omega)] at h1
              exact h1
            have HO7 := Lib.hid (HO6.out.but ((But.refl [] w6).alloc (.cells #[.string (str (M.seen d5 k))] 9)) (by simp))
            have HD7 := Lib.hid (HD6.out.alloc (.cells #[.string (str (M.seen d5 k))] 9))
            have HB7 := Lib.hid (HB6.out.alloc (.cells #[.string (str (M.seen d5 k))] 9))
            have HR7 := Lib.hid (row_one w6 9 (.string (str (M.seen d5 k))))
            clear hbR hltR hrg hb6 hsl
            go_wp2_with (refine wpList_append_one rfl (.tmp 66) (.tmp 69) 57 9 rfl (.string ⟨#[]⟩) 16 Try.underlying57 str_info rfl (by omega) w2.heap.size a k cap (strs (seenL d5 k)) rfl HO7.out w6.heap.size 1 (.string (str (M.seen d5 k))) rfl HR7.out rfl (by omega) HB7.out.size ?_
                         intro a8 cap8 w8 hown8 hgr8 hb8
                         have HO8 := Lib.hid hown8
                         have HD8 := Lib.hid (HD7.out.below hb8 Hlt.out)
                         have HB8 := Lib.hid (HB7.out.below hb8 (Nat.le_refl _))
                         clear hown8 hgr8 hb8)
            go_roundw
            case rel => exact ⟨k + 1, cap8, a8, by omega, by go_num, rfl, by rw [seenL_succ]; exact HO8.out, HD8.out, HB8.out⟩
            case measure => simp [intOf]; omega

set_option maxRecDepth 100000 in
theorem lifted (os : Os) (started : os.Started) (H : Type) (enc : TypeId × Value → H) :
    ReturnsInHanded {} Try.checked os 7 .any (Rows.sectorAnewSpec.pre6 enc Try.prog Try.f7 Rows.sectorAnewRow.domain false) (Rows.sectorAnewSpec.post enc Try.prog Try.f7 false true false false) := by
  refine returnsInHanded_of_change (C := Try.checked) own started (by kernel_rfl) Try.func7
    (ChangeSpec.witness6 (enc := enc) (C := Try.checked) false ⟨#[], #[.int .i64 0, .slice none 0 0, .slice none 0 0], []⟩ 8 (by kernel_rfl) (by kernel_rfl) (by kernel_rfl) (by kernel_rfl)) ?_
  intro W base args ds gs before hval0 hW hcnd _
  have hval : ∀ (j : Nat) t v, Try.f7.params[j]? = some t → args[j]? = some v → Value.okWide Try.prog W .any base t v := hval0
  have hW' := hW
  obtain ⟨p, q, hA0, hV, rfl, hfz, hnd⟩ := hW
  have hA : DataW.TrodAll enc Try.prog W 0 (fun _ => true) true Try.f7.params.toList args.toList ds p := hA0
  rw [Try.params7] at hA hval
  obtain ⟨v0, vs0, d0, ds0, p0, q0, hargs, rfl, rfl, h0, r0'⟩ := trodAll_cons hA
  obtain ⟨v1, vs1, d1, ds1, p1, q1, rfl, rfl, rfl, h1, r1'⟩ := trodAll_cons r0'
  obtain ⟨v2, vs2, d2, ds2, p2, q2, rfl, rfl, rfl, h2, r2'⟩ := trodAll_cons r1'
  obtain ⟨rfl, rfl, rfl⟩ := trodAll_nil r2'
  obtain rfl : args = #[v0, v1, v2] := by cases args; simp_all
  obtain ⟨rfl, rfl⟩ := trodVars_none hV
  obtain ⟨x0, rfl, rfl, rfl, w0⟩ := open_int Try.underlying3 (hval 0 3 v0 rfl rfl) h0
  have k1 := h1
  have lt1 : ∀ x ∈ p1, x.block < W.heap.size := by obtain ⟨m, hm⟩ := k1; exact DataW.trod_lt m _ _ _ hm
  obtain ⟨a1, n1, c1, l1, rfl, w1⟩ := open_lot h1 (okWide_slice Try.underlying22 (hval 1 22 v1 rfl rfl))
  have k2 := h2
  have lt2 : ∀ x ∈ p2, x.block < W.heap.size := by obtain ⟨m, hm⟩ := k2; exact DataW.trod_lt m _ _ _ hm
  obtain ⟨a2, n2, c2, l2, rfl, w2⟩ := open_crash h2 (okWide_slice Try.underlying29 (hval 2 29 v2 rfl rfl))
  clear hA0 hval0
  refine (walk x0 a1 n1 c1 l1 a2 n2 c2 l2 W w0 w1 w2).mono fun e W' ⟨he, bel⟩ => ?_
  subst he
  exact ⟨_, rfl, _, _, _, [], _, [], hW', trodAll_mk1 (shut_bool Try.underlying4 _), (trodAll_cons_mk (shut_int Try.underlying3 w0) (trodAll_cons_mk (Below.trod laidOut (by kernel_rfl) (of_decide_eq_true (by kernel_rfl)) k1 bel lt1) (trodAll_cons_mk (Below.trod laidOut (by kernel_rfl) (of_decide_eq_true (by kernel_rfl)) k2 bel lt2) trodAll_mk0))), rfl, bel.frame _, fun h => by cases h⟩

theorem over : Rows.sectorAnewRow.holds Try.pinned (OpenSpec.ofChange Rows.sectorAnewSpec) :=
  OpenClaim.holds_of_wide 7 Try.f7 rfl rfl rfl rfl rfl rfl rfl ⟨rfl, rfl, rfl, rfl, rfl⟩ rfl rfl rfl rfl rfl (by kernel_rfl) Try.func7 (by kernel_rfl)
    (of_decide_eq_true (by kernel_rfl)) (by unfold Func.isWrapper; first | (rw [if_pos (by decide +kernel)]; kernel_rfl) | (rw [if_neg (by decide +kernel)]; exact ⟨rfl, rfl⟩))
    (fun os started H enc _ => lifted os started H enc)

/-- the statement -/
theorem proved : Rows.SectorAnewSaid := over
#print axioms proved
end Go.Proofs.Ytbcblcnnffdjdaa.sectorAnew
