/-
  PROVED: Opened anew, as often as one likes, a log is the same, but for its time. CONDITIONS: none (any ring, any acts, however often).
-/
import Derived.Test.YtbmgaopdahlkkaaLRun2
import Derived.Test.YtbmgaopdahlkkaaLSec
namespace Go.Proofs.Ytbmgaopdahlkkaa.logAnew
open Go.ChangeShapes Go.WideShapes Go.ChangeAt Go.RowKit Go.Joins
open Go.ChangeMaps (open_string shut_string)
set_option linter.unusedVariables false
set_option linter.unusedSimpArgs false
set_option maxRecDepth 20000


set_option maxHeartbeats 4000000 in
theorem walk (x0 : Int) (a1 : Option Addr) (n1 c1 : Nat) (l1 : List A) (x2 : Int) (w : World) (w0 : (Lit.int .u8 x0).wf = true) (w1 : Acts w a1 n1 c1 l1) (w2 : (Lit.int .u8 x2).wf = true) :
    Calls Try.prog 4 #[.int .u8 x0, .slice a1 n1 c1, .int .u8 x2] w fun e w' => e = .returned (.bool true) ∧ Below w.heap.size w w' := by
  obtain ⟨r, hr, hrm⟩ := u8_mod x0 19 (by decide) w0 (kI := 19) rfl
  have HA := Lib.hid (awake_any w)
  have HW := Lib.hid w1
  have hrI : (r : Int) < 19 := by omega
  have hr0 : (0 : Int) ≤ (r : Int) := by omega
  have Hr := Lib.hid hr
  obtain ⟨q, hq, hqm⟩ := u8_mod x2 8 (by decide) w2 (kI := 8) rfl
  have HQ := Lib.hid hq
  have hqI : (q : Int) < 8 := by omega
  have hq0 : (0 : Int) ≤ (q : Int) := by omega
  clear w0 w1 w2 hr hq
  go_enter Try.func4, Try.ntmps4
  go_wp2_with (first
    | (go_at_call 8; refine HA.out.mono ?_; rintro e w1 ⟨rfl, hb1⟩; have HN := Lib.hid (run_new (w0 := w) w1 hb1 (r + 4) (by have := Hr.out; omega) (x := (r : Int) + 2 + 2) (by omega)); clear hb1)
    | (go_at_call 9; with_reducible refine HN.out.mono ?_; rintro e w2 ⟨dB, sB, mB, rfl, hD, _, _⟩
       have HO := Lib.hid (run_open w2 hD (first := 2) (N := r + 2) (a := 0) (b := 1) ⟨by omega, by omega, by omega, by omega, by omega, by omega, by omega, by have := Hr.out; omega⟩ (fun j _ => rfl) (x1 := 2) (x2 := (r : Int) + 2) (x3 := 0) (x4 := 1) rfl (by omega) rfl rfl)
       clear hD)
    | (go_at_call 10; with_reducible refine HO.out.mono ?_; rintro e w3 ⟨lB, cB, rb0, d0, c0, rfl, hR0, _, _, _⟩
       have HR0 := Lib.hid hR0
       clear hR0))
  clear HN HO HA
  go_loopw [11] (fun i wr => ∃ (k : Nat) (d : M.Dv) (rb : Nat) (c : M.Cl) (L : M.Lg), k ≤ n1 ∧ k ≤ 60 ∧ i = .int .i64 k ∧ Run w wr dB sB mB (r + 4) d lB rb cB 2 (r + 2) 0 1 c L (2 + k)) (fun i _ => 60 - (intOf i).toNat)
  case atStart => exact ⟨0, d0, rb0, c0, _, by omega, by omega, rfl, HR0.out.mono (by omega)⟩
  case round =>
    obtain ⟨k, d, rb, c, L, hkn, hk6, rfl, hR⟩ := hrel
    have HR := Lib.hid hR
    have hk0 : (0 : Int) ≤ (k : Int) := by omega
    clear hR HR0
    by_cases hend : k = n1
    · have hge : ¬ ((k : Int) < (n1 : Int)) := by omega
      clear hend
      have HRc := Lib.hid HR.out.records
      have ht1 : 0 ≤ L.time ∧ L.time ≤ 100 := ⟨by have := HR.out.lg.gd.ring.l0; have := HR.out.lg.gd.ring.lt; omega, by have := HR.out.lg.gd.time; omega⟩
      obtain ⟨ht0, ht9⟩ := ht1
      go_wp2_with (first
        | (go_at_call 15; refine HRc.out.mono ?_; rintro e w5 ⟨aR, cR, rfl, hown, hb5⟩
           have hR5 := HR.out.below hb5
           have HRw := Lib.hid (C.own_row hown).1
           have HNb : Hid (∀ b off, aR = some ⟨b, off, none⟩ → b ∉ [dB, sB, mB]) := Lib.hid (fun b off e => by
             have h1 := ((C.own_row hown).2 b off e).1
             have := HR.out.dv.ltD
             have := HR.out.dv.lt
             have := HR.out.dv.pend.lt
             simp; omega)
           have HD5 := Lib.hid hR5.dev
           have HGd := Lib.hid (Good_mono (K' := 100) hR5.lg.gd (by omega))
           have HH5 := Lib.hid (head_lg w5 hR5.lg)
           have HT5 := Lib.hid (time_lg w5 hR5.lg)
           clear hown hb5 hR5)
        | (go_at_call 13; with_reducible refine HH5.out.mono ?_; rintro e w' ⟨rfl, rfl⟩)
        | (go_at_call 17; with_reducible refine HT5.out.mono ?_; rintro e w' ⟨rfl, rfl⟩))
      clear HH5 HT5 HRc
      have HLen : Hid (L.rs.length ≤ 1000000) := Lib.hid (by have := HGd.out.ring.len; have := Hr.out; omega)
      go_loopw [16] (fun i wz => ∃ (j : Nat) (d' : M.Dv) (c' : M.Cl), 1 ≤ j ∧ j ≤ q + 1 ∧ i = .int .i64 j ∧ Dev w wz dB sB mB (r + 4) d' ∧ M.Good (M.seen d') (100 + j) 2 (r + 2) 0 1 c' ⟨L.head, L.time + (j : Int) - 1, L.least, L.rs⟩ ∧ C.Row wz aR L.rs.length cR (C.strs (L.rs.map (·.s)))) (fun i _ => q + 1 - (intOf i).toNat)
      case atStart => exact ⟨1, d, c, by omega, by omega, rfl, HD5.out, by
        have := Good_mono (K' := 100 + ((1 : Nat) : Int)) HGd.out (by omega)
        rw [show L.time + ((1 : Nat) : Int) - 1 = L.time by omega]
        exact this, HRw.out⟩
      case round =>
        obtain ⟨j, d', c', hj1, hjq, rfl, hD, hG, hrw⟩ := hrel
        have HJ : Hid (1 ≤ j ∧ j ≤ q + 1) := Lib.hid ⟨hj1, hjq⟩
        have hj0 : (0 : Int) ≤ (j : Int) := by omega
        have hj9 : (j : Int) ≤ 9 := by have := HQ.out; omega
        by_cases hjj : j ≤ q
        · have hjI : (j : Int) ≤ (q : Int) := by omega
          have HO := Lib.hid (run_again wr hD (first := 2) (N := r + 2) (a := 0) (b := 1) ⟨by omega, by omega, by omega, by omega, by omega, by omega, by omega, by have := Hr.out; omega⟩ (by omega) hG (x1 := 2) (x2 := (r : Int) + 2) (x3 := 0) (x4 := 1) rfl (by omega) rfl rfl)
          have HRw2 := Lib.hid hrw
          have HJq := Lib.hid hjj
          clear hD hG hrw hjj hj1 hjq
          go_wp2_with (first
            | (go_at_call 10; with_reducible refine HO.out.mono ?_; rintro e w6 ⟨lB6, cB6, rb6, d6, c6, rfl, hR6, _, hb6, hs6⟩
               have HR6 := Lib.hid hR6
               have HRw6 := Lib.hid (row_but (row_c HRw2.out) hb6 (.inr HNb.out))
               have HRc6 : Hid (Calls Try.prog 15 #[.pointer (some ⟨lB6, 0, none⟩)] w6 fun e w' => ∃ aR cR, e = .returned (.slice aR L.rs.length cR) ∧ C.Own 9 w' w6.heap.size aR L.rs.length cR (C.strs (L.rs.map (·.s))) ∧ Below w6.heap.size w6 w') := Lib.hid hR6.records
               clear hR6 hb6 hs6))
          refine HRc6.out.mono ?_
          rintro e w7 ⟨aR7, cR7, rfl, hown7, hb7⟩
          have HR7 := Lib.hid (HR6.out.below hb7)
          have HRw7 := Lib.hid (row_below HRw6.out hb7 (Nat.le_refl _))
          have HSm := Lib.hid (same_yes w7 aR7 aR L.rs.length cR7 cR (L.rs.map (·.s)) (C.own_row hown7).1 (c_row HRw7.out) HLen.out)
          have HH7 : Hid (∀ i, Calls Try.prog 13 #[.pointer (some ⟨lB6, 0, none⟩)] (w7.drewN i) fun e w' => e = .returned (.int .i64 L.head) ∧ w7.drewN i = w') := Lib.hid fun i => by
            have := head_lg (w7.drewN i) (HR7.out.below (below_drewN _ _ i)).lg
            exact this
          have HT7 : Hid (∀ i, Calls Try.prog 17 #[.pointer (some ⟨lB6, 0, none⟩)] (w7.drewN i) fun e w' => e = .returned (.int .i64 (L.time + (j : Int))) ∧ w7.drewN i = w') := Lib.hid fun i => by
            have := time_lg (w7.drewN i) (HR7.out.below (below_drewN _ _ i)).lg
            rw [show (M.Lg.anew ⟨L.head, L.time + (j : Int) - 1, L.least, L.rs⟩).time = L.time + (j : Int) by show L.time + (j : Int) - 1 + 1 = _; omega] at this
            exact this
          clear hown7 hb7
          go_wp2_with (first
            | (go_at_call 14; with_reducible refine HSm.out.mono ?_; rintro e w8 ⟨rfl, i8, rfl⟩)
            | (go_at_call 13; with_reducible refine (HH7.out _).mono ?_; rintro e w' ⟨rfl, rfl⟩)
            | (go_at_call 17; with_reducible refine (HT7.out _).mono ?_; rintro e w' ⟨rfl, rfl⟩))
          go_roundw
          case rel => exact ⟨j + 1, d6, c6, by omega, by have := HJq.out; omega, by go_num, (HR7.out.below (below_drewN _ _ _)).dev, by
            have hg7 := HR7.out.lg.gd
            rw [show (M.Lg.anew ⟨L.head, L.time + (j : Int) - 1, L.least, L.rs⟩) = ⟨L.head, L.time + ((j + 1 : Nat) : Int) - 1, L.least, L.rs⟩ by show M.Lg.mk _ _ _ _ = _; congr 1; simp only; omega] at hg7
            exact Good_mono hg7 (by omega), c_row HRw7.out⟩
          case measure => have := HJq.out; simp [intOf]; omega
        · have hjI : ¬ (j : Int) ≤ (q : Int) := by omega
          have HSe := Lib.hid (sectors_all wr hD.dv hD.fr.2)
          have HBe := Lib.hid hD.be
          have hsz : ((r : Int) + 4 == (r : Int) + 2 + 2) = true := by simp; omega
          clear hjj hD hG hrw hj1 hjq
          go_wp2_with (go_at_call 20; with_reducible refine HSe.out.mono ?_; rintro e w6 ⟨aS, cS, rfl, _, hb6⟩; have HB6 := Lib.hid hb6; clear hb6)
          go_ret
          exact ⟨rfl, HBe.out.trans (HB6.out.mono HBe.out.size)⟩
    · have hlt : (k : Int) < (n1 : Int) := by omega
      by_cases h60 : k = 60
      · have hge : ¬ ((k : Int) < 60) := by omega
        clear h60 hend
        have HRc := Lib.hid HR.out.records
        have ht1 : 0 ≤ L.time ∧ L.time ≤ 100 := ⟨by have := HR.out.lg.gd.ring.l0; have := HR.out.lg.gd.ring.lt; omega, by have := HR.out.lg.gd.time; omega⟩
        obtain ⟨ht0, ht9⟩ := ht1
        go_wp2_with (first
          | (go_at_call 15; refine HRc.out.mono ?_; rintro e w5 ⟨aR, cR, rfl, hown, hb5⟩
             have hR5 := HR.out.below hb5
             have HRw := Lib.hid (C.own_row hown).1
             have HNb : Hid (∀ b off, aR = some ⟨b, off, none⟩ → b ∉ [dB, sB, mB]) := Lib.hid (fun b off e => by
               have h1 := ((C.own_row hown).2 b off e).1
               have := HR.out.dv.ltD
               have := HR.out.dv.lt
               have := HR.out.dv.pend.lt
               simp; omega)
             have HD5 := Lib.hid hR5.dev
             have HGd := Lib.hid (Good_mono (K' := 100) hR5.lg.gd (by omega))
             have HH5 := Lib.hid (head_lg w5 hR5.lg)
             have HT5 := Lib.hid (time_lg w5 hR5.lg)
             clear hown hb5 hR5)
          | (go_at_call 13; with_reducible refine HH5.out.mono ?_; rintro e w' ⟨rfl, rfl⟩)
          | (go_at_call 17; with_reducible refine HT5.out.mono ?_; rintro e w' ⟨rfl, rfl⟩))
        clear HH5 HT5 HRc
        have HLen : Hid (L.rs.length ≤ 1000000) := Lib.hid (by have := HGd.out.ring.len; have := Hr.out; omega)
        go_loopw [16] (fun i wz => ∃ (j : Nat) (d' : M.Dv) (c' : M.Cl), 1 ≤ j ∧ j ≤ q + 1 ∧ i = .int .i64 j ∧ Dev w wz dB sB mB (r + 4) d' ∧ M.Good (M.seen d') (100 + j) 2 (r + 2) 0 1 c' ⟨L.head, L.time + (j : Int) - 1, L.least, L.rs⟩ ∧ C.Row wz aR L.rs.length cR (C.strs (L.rs.map (·.s)))) (fun i _ => q + 1 - (intOf i).toNat)
        case atStart => exact ⟨1, d, c, by omega, by omega, rfl, HD5.out, by
          have := Good_mono (K' := 100 + ((1 : Nat) : Int)) HGd.out (by omega)
          rw [show L.time + ((1 : Nat) : Int) - 1 = L.time by omega]
          exact this, HRw.out⟩
        case round =>
          obtain ⟨j, d', c', hj1, hjq, rfl, hD, hG, hrw⟩ := hrel
          have HJ : Hid (1 ≤ j ∧ j ≤ q + 1) := Lib.hid ⟨hj1, hjq⟩
          have hj0 : (0 : Int) ≤ (j : Int) := by omega
          have hj9 : (j : Int) ≤ 9 := by have := HQ.out; omega
          by_cases hjj : j ≤ q
          · have hjI : (j : Int) ≤ (q : Int) := by omega
            have HO := Lib.hid (run_again wr hD (first := 2) (N := r + 2) (a := 0) (b := 1) ⟨by omega, by omega, by omega, by omega, by omega, by omega, by omega, by have := Hr.out; omega⟩ (by omega) hG (x1 := 2) (x2 := (r : Int) + 2) (x3 := 0) (x4 := 1) rfl (by omega) rfl rfl)
            have HRw2 := Lib.hid hrw
            have HJq := Lib.hid hjj
            clear hD hG hrw hjj hj1 hjq
            go_wp2_with (first
              | (go_at_call 10; with_reducible refine HO.out.mono ?_; rintro e w6 ⟨lB6, cB6, rb6, d6, c6, rfl, hR6, _, hb6, hs6⟩
                 have HR6 := Lib.hid hR6
                 have HRw6 := Lib.hid (row_but (row_c HRw2.out) hb6 (.inr HNb.out))
                 have HRc6 : Hid (Calls Try.prog 15 #[.pointer (some ⟨lB6, 0, none⟩)] w6 fun e w' => ∃ aR cR, e = .returned (.slice aR L.rs.length cR) ∧ C.Own 9 w' w6.heap.size aR L.rs.length cR (C.strs (L.rs.map (·.s))) ∧ Below w6.heap.size w6 w') := Lib.hid hR6.records
                 clear hR6 hb6 hs6))
            refine HRc6.out.mono ?_
            rintro e w7 ⟨aR7, cR7, rfl, hown7, hb7⟩
            have HR7 := Lib.hid (HR6.out.below hb7)
            have HRw7 := Lib.hid (row_below HRw6.out hb7 (Nat.le_refl _))
            have HSm := Lib.hid (same_yes w7 aR7 aR L.rs.length cR7 cR (L.rs.map (·.s)) (C.own_row hown7).1 (c_row HRw7.out) HLen.out)
            have HH7 : Hid (∀ i, Calls Try.prog 13 #[.pointer (some ⟨lB6, 0, none⟩)] (w7.drewN i) fun e w' => e = .returned (.int .i64 L.head) ∧ w7.drewN i = w') := Lib.hid fun i => by
              have := head_lg (w7.drewN i) (HR7.out.below (below_drewN _ _ i)).lg
              exact this
            have HT7 : Hid (∀ i, Calls Try.prog 17 #[.pointer (some ⟨lB6, 0, none⟩)] (w7.drewN i) fun e w' => e = .returned (.int .i64 (L.time + (j : Int))) ∧ w7.drewN i = w') := Lib.hid fun i => by
              have := time_lg (w7.drewN i) (HR7.out.below (below_drewN _ _ i)).lg
              rw [show (M.Lg.anew ⟨L.head, L.time + (j : Int) - 1, L.least, L.rs⟩).time = L.time + (j : Int) by show L.time + (j : Int) - 1 + 1 = _; omega] at this
              exact this
            clear hown7 hb7
            go_wp2_with (first
              | (go_at_call 14; with_reducible refine HSm.out.mono ?_; rintro e w8 ⟨rfl, i8, rfl⟩)
              | (go_at_call 13; with_reducible refine (HH7.out _).mono ?_; rintro e w' ⟨rfl, rfl⟩)
              | (go_at_call 17; with_reducible refine (HT7.out _).mono ?_; rintro e w' ⟨rfl, rfl⟩))
            go_roundw
            case rel => exact ⟨j + 1, d6, c6, by omega, by have := HJq.out; omega, by go_num, (HR7.out.below (below_drewN _ _ _)).dev, by
              have hg7 := HR7.out.lg.gd
              rw [show (M.Lg.anew ⟨L.head, L.time + (j : Int) - 1, L.least, L.rs⟩) = ⟨L.head, L.time + ((j + 1 : Nat) : Int) - 1, L.least, L.rs⟩ by show M.Lg.mk _ _ _ _ = _; congr 1; simp only; omega] at hg7
              exact Good_mono hg7 (by omega), c_row HRw7.out⟩
            case measure => have := HJq.out; simp [intOf]; omega
          · have hjI : ¬ (j : Int) ≤ (q : Int) := by omega
            have HSe := Lib.hid (sectors_all wr hD.dv hD.fr.2)
            have HBe := Lib.hid hD.be
            have hsz : ((r : Int) + 4 == (r : Int) + 2 + 2) = true := by simp; omega
            clear hjj hD hG hrw hj1 hjq
            go_wp2_with (go_at_call 20; with_reducible refine HSe.out.mono ?_; rintro e w6 ⟨aS, cS, rfl, _, hb6⟩; have HB6 := Lib.hid hb6; clear hb6)
            go_ret
            exact ⟨rfl, HBe.out.trans (HB6.out.mono HBe.out.size)⟩
      · have hlt6 : (k : Int) < 60 := by omega
        obtain ⟨b, off, x, rfl, hx, hok0, hok, g1, g2, g3, g4, hbl⟩ := acts_at HW.out HR.out.be (show k < n1 by omega)
        have HKn : Hid (k < n1 ∧ k < 60) := Lib.hid ⟨by omega, by omega⟩
        clear hx hok0 hok hbl hend h60
        have HLg : Hid (∀ w', Calls Try.prog 18 #[.agg #[.int .i64 x.kind, .int .i64 x.i, .string x.s, .slice x.aL x.k x.cL]] w' fun e w'' => e = .returned (.bool (largeB x)) ∧ Below w'.heap.size w' w'') := Lib.hid (fun w' => large_any w' x)
        cases hlg : largeB x with
        | true =>
          rw [hlg] at HLg
          clear hlg
          go_wp2_with (go_at_call 18; refine (HLg.out _).mono ?_; rintro e w4 ⟨rfl, hb4⟩; have HB4 := Lib.hid hb4; clear hb4)
          go_ret
          exact ⟨rfl, HR.out.be.trans ((((Below.refl _ _).alloc (Nat.le_refl _) _).trans (HB4.out.mono (by simp))).mono HR.out.be.size)⟩
        | false =>
          rw [hlg] at HLg
          clear hlg
          obtain ⟨m, hm32, hm⟩ := and31 x.i
          have Hm := Lib.hid hm32
          have hmI : (m : Int) < 32 := by omega
          have hm0 : (0 : Int) ≤ (m : Int) := by omega
          clear hm32
          by_cases c0 : x.kind = 0
          · have d0 : (x.kind == 0) = true := by simpa using c0
            clear c0
            go_wp2_with (first
              | (go_at_call 18; refine (HLg.out _).mono ?_; rintro e w4 ⟨rfl, hb4⟩
                 have HO4 : Hid (Below wr.heap.size wr w4) := Lib.hid (((Below.refl _ _).alloc (Nat.le_refl _) _).trans (hb4.mono (by simp)))
                 have HZ4 : Hid (wr.heap.size < w4.heap.size) := Lib.hid (by have := hb4.size; simp at this; omega)
                 obtain ⟨hx0, hx1, hx2⟩ := act_cells x (hb4.mono (by simp))
                 have HR4 := Lib.hid (HR.out.below HO4.out)
                 clear hb4)
              | (go_at_call 11; refine (HR4.out.append (by omega) x.s).mono ?_; rintro e w5 ⟨d5, rb5, rfl, hR5, _, _, _⟩; have HR5 := Lib.hid hR5; clear hR5))
            go_roundw
            case rel => exact ⟨k + 1, d5, rb5, c, _, by have := HKn.out; omega, by have := HKn.out; omega, by go_num, HR5.out.mono (by omega)⟩
            case measure => have := HKn.out; simp [intOf]; omega
          · have d0 : (x.kind == 0) = false := by simpa using c0
            clear c0
            by_cases c1 : x.kind = 1
            · have d1 : (x.kind == 1) = true := by simpa using c1
              clear c1
              go_wp2_with (first
                | (go_at_call 18; refine (HLg.out _).mono ?_; rintro e w4 ⟨rfl, hb4⟩
                   have HO4 : Hid (Below wr.heap.size wr w4) := Lib.hid (((Below.refl _ _).alloc (Nat.le_refl _) _).trans (hb4.mono (by simp)))
                   have HZ4 : Hid (wr.heap.size < w4.heap.size) := Lib.hid (by have := hb4.size; simp at this; omega)
                   obtain ⟨hx0, hx1, hx2⟩ := act_cells x (hb4.mono (by simp))
                   have HR4 := Lib.hid (HR.out.below HO4.out)
                   clear hb4)
                | (go_at_call 19; refine (HR4.out.sync).mono ?_; rintro e w5 ⟨d5, rfl, hR5, _, _⟩; have HR5 := Lib.hid hR5; clear hR5))
              go_roundw
              case rel => exact ⟨k + 1, d5, rb, c, L, by have := HKn.out; omega, by have := HKn.out; omega, by go_num, HR5.out.mono (by omega)⟩
              case measure => have := HKn.out; simp [intOf]; omega
            · have d1 : (x.kind == 1) = false := by simpa using c1
              clear c1
              by_cases c2 : x.kind = 2
              · have d2 : (x.kind == 2) = true := by simpa using c2
                clear c2
                go_wp2_with (first
                  | (go_at_call 18; refine (HLg.out _).mono ?_; rintro e w4 ⟨rfl, hb4⟩
                     have HO4 : Hid (Below wr.heap.size wr w4) := Lib.hid (((Below.refl _ _).alloc (Nat.le_refl _) _).trans (hb4.mono (by simp)))
                     have HZ4 : Hid (wr.heap.size < w4.heap.size) := Lib.hid (by have := hb4.size; simp at this; omega)
                     obtain ⟨hx0, hx1, hx2⟩ := act_cells x (hb4.mono (by simp))
                     have HR4 := Lib.hid (HR.out.below HO4.out)
                     clear hb4)
                  | fail)
                have hgd := HR4.out.lg.gd
                have hh1 : 1 ≤ L.head := hgd.ring.h1
                have hh2 : L.head ≤ 100 := by have := hgd.tail; have := HKn.out; unfold M.Lg.tail at *; omega
                clear hgd
                have HAp : Hid (dB < wr.heap.size ∧ sB < wr.heap.size ∧ mB < wr.heap.size ∧ cB < wr.heap.size ∧ lB < wr.heap.size ∧ rb < wr.heap.size) := Lib.hid ⟨HR.out.dv.ltD, HR.out.dv.lt, HR.out.dv.pend.lt, HR.out.lg.ca.lt, HR.out.lg.la.lt.1, HR.out.lg.la.lt.2⟩
                have HHq : Hid (Calls Try.prog 13 #[.pointer (some ⟨lB, 0, none⟩)] w4.drew fun e w'' => e = .returned (.int .i64 L.head) ∧ w4.drew = w'') := Lib.hid (head_lg w4.drew (HR4.out.below (Below.refl _ _).drew).lg)
                have HTq := Lib.hid ((HR4.out.below (Below.refl _ _).drew).trim' (by have := HKn.out; omega) m (x := IntKind.i64.wrap (L.head + (m : Int))) (by simp [IntKind.wrap, IntKind.bits, IntKind.signed]; omega))
                have hy1 : w4.drew.cell? ⟨wr.heap.size, 1, none⟩ = some (.int .i64 x.i) := hx1
                go_region_held3 (fun w' => w'.cell? ⟨wr.heap.size, 1, none⟩ = some (.int .i64 x.i))
                  (first
                    | exact hy1
                    | exact hz1)
                  (first
                    | (go_at_call 13; with_reducible refine HHq.out.mono ?_; rintro e w' ⟨rfl, rfl⟩)
                    | (go_at_call 12; with_reducible refine HTq.out.mono ?_; rintro e w5 ⟨d5, c5, rfl, hR5, hb5, hs5⟩
                       have HR5 := Lib.hid hR5
                       have HS5 := Lib.hid hs5
                       have hz1 : w5.cell? ⟨wr.heap.size, 1, none⟩ = some (.int .i64 x.i) := by rw [hb5.cell (by exact HZ4.out) (by have := HAp.out; simp; omega)]; exact hx1
                       clear hR5 hb5 hs5))
                go_wp2_with fail

                go_roundw
                case rel => exact ⟨k + 1, d5, rb, c5, _, by have := HKn.out; omega, by have := HKn.out; omega, by go_num, HR5.out.mono (by omega)⟩
                case measure => have := HKn.out; simp [intOf]; omega
              · have d2 : (x.kind == 2) = false := by simpa using c2
                clear c2
                go_wp2_with (first
                  | (go_at_call 18; refine (HLg.out _).mono ?_; rintro e w4 ⟨rfl, hb4⟩
                     have HO4 : Hid (Below wr.heap.size wr w4) := Lib.hid (((Below.refl _ _).alloc (Nat.le_refl _) _).trans (hb4.mono (by simp)))
                     have HZ4 : Hid (wr.heap.size < w4.heap.size) := Lib.hid (by have := hb4.size; simp at this; omega)
                     obtain ⟨hx0, hx1, hx2⟩ := act_cells x (hb4.mono (by simp))
                     have HR4 := Lib.hid (HR.out.below HO4.out)
                     clear hb4)
                  | fail)
                go_roundw
                case rel => exact ⟨k + 1, d, rb, c, L, by have := HKn.out; omega, by have := HKn.out; omega, by go_num, HR4.out.mono (by omega)⟩
                case measure => have := HKn.out; simp [intOf]; omega

set_option maxRecDepth 100000 in
theorem lifted (os : Os) (started : os.Started) (H : Type) (enc : TypeId × Value → H) :
    ReturnsInHanded {} Try.checked os 4 .any (Rows.logAnewSpec.pre6 enc Try.prog Try.f4 Rows.logAnewRow.domain false) (Rows.logAnewSpec.post enc Try.prog Try.f4 false true false false) := by
  refine returnsInHanded_of_change (C := Try.checked) own started (by kernel_rfl) Try.func4
    (ChangeSpec.witness6 (enc := enc) (C := Try.checked) false ⟨#[], #[.int .u8 0, .slice none 0 0, .int .u8 0], []⟩ 8 (by kernel_rfl) (by kernel_rfl) (by kernel_rfl) (by kernel_rfl)) ?_
  intro W base args ds gs before hval0 hW hcnd _
  have hval : ∀ (j : Nat) t v, Try.f4.params[j]? = some t → args[j]? = some v → Value.okWide Try.prog W .any base t v := hval0
  have hW' := hW
  obtain ⟨p, q, hA0, hV, rfl, hfz, hnd⟩ := hW
  have hA : DataW.TrodAll enc Try.prog W 0 (fun _ => true) true Try.f4.params.toList args.toList ds p := hA0
  rw [Try.params4] at hA hval
  obtain ⟨v0, vs0, d0, ds0, p0, q0, hargs, rfl, rfl, h0, r0'⟩ := trodAll_cons hA
  obtain ⟨v1, vs1, d1, ds1, p1, q1, rfl, rfl, rfl, h1, r1'⟩ := trodAll_cons r0'
  obtain ⟨v2, vs2, d2, ds2, p2, q2, rfl, rfl, rfl, h2, r2'⟩ := trodAll_cons r1'
  obtain ⟨rfl, rfl, rfl⟩ := trodAll_nil r2'
  obtain rfl : args = #[v0, v1, v2] := by cases args; simp_all
  obtain ⟨rfl, rfl⟩ := trodVars_none hV
  obtain ⟨x0, rfl, rfl, rfl, w0⟩ := open_int Try.underlying5 (hval 0 5 v0 rfl rfl) h0
  have k1 := h1
  have lt1 : ∀ x ∈ p1, x.block < W.heap.size := by obtain ⟨m, hm⟩ := k1; exact DataW.trod_lt m _ _ _ hm
  obtain ⟨a1, n1, c1, l1, rfl, w1⟩ := open_lot h1 (okWide_slice Try.underlying37 (hval 1 37 v1 rfl rfl))
  obtain ⟨x2, rfl, rfl, rfl, w2⟩ := open_int Try.underlying5 (hval 2 5 v2 rfl rfl) h2
  clear hA0 hval0
  refine (walk x0 a1 n1 c1 l1 x2 W w0 w1 w2).mono fun e W' ⟨he, bel⟩ => ?_
  subst he
  exact ⟨_, rfl, _, _, _, [], _, [], hW', trodAll_mk1 (shut_bool Try.underlying4 _), (trodAll_cons_mk (shut_int Try.underlying5 w0) (trodAll_cons_mk (Below.trod laidOut (by kernel_rfl) (of_decide_eq_true (by kernel_rfl)) k1 bel lt1) (trodAll_cons_mk (shut_int Try.underlying5 w2) trodAll_mk0))), rfl, bel.frame _, fun h => by cases h⟩

theorem over : Rows.logAnewRow.holds Try.pinned (OpenSpec.ofChange Rows.logAnewSpec) :=
  OpenClaim.holds_of_wide 4 Try.f4 rfl rfl rfl rfl rfl rfl rfl ⟨rfl, rfl, rfl, rfl, rfl⟩ rfl rfl rfl rfl rfl (by kernel_rfl) Try.func4 (by kernel_rfl)
    (of_decide_eq_true (by kernel_rfl)) (by unfold Func.isWrapper; first | (rw [if_pos (by decide +kernel)]; kernel_rfl) | (rw [if_neg (by decide +kernel)]; exact ⟨rfl, rfl⟩))
    (fun os started H enc _ => lifted os started H enc)

/-- the statement -/
theorem proved : Rows.LogAnewSaid := over
#print axioms proved
end Go.Proofs.Ytbmgaopdahlkkaa.logAnew
