/-
  PROVED: What was there at a barrier is there behind a crash, in each sector that was not written since; in the others each byte is what it was, or what was written last. CONDITIONS: none (any number of sectors, any acts and writes, whatever the crash leaves).
-/
import Derived.Test.YtbcblcnnffdjdaaOpen
import Derived.Test.YtbcblcnnffdjdaaTabs
import Derived.Test.YtbcblcnnffdjdaaSets
import Derived.Deep.CutBlock
import Derived.Deep.DeepCutAuto
namespace Go.Proofs.Ytbcblcnnffdjdaa.sectorSure
open Go.ChangeShapes Go.WideShapes Go.ChangeAt Go.RowKit Go.Joins
set_option linter.unusedVariables false
set_option linter.unusedSimpArgs false
set_option maxRecDepth 20000

theorem reach_ok {d : M.Dv} (hd : d.dead = false) {n k : Nat} (hk : k < n) : M.reach n d (k : Int) = 0 := by
  unfold M.reach
  rw [hd, if_neg (by simp), if_neg (by omega)]
theorem barrier_bad {d : M.Dv} (h : M.barrierE d ≠ 0) : (M.barrierD d).dead = true := by
  unfold M.barrierE M.barrierD at *
  cases hd : d.dead with
  | true => simp [hd]
  | false =>
    rw [hd] at h
    unfold M.actE M.actD at *
    by_cases hf : d.fuse = 0
    · simp [hf]
    · simp [hf] at h
theorem barrier_good {d : M.Dv} (h : M.barrierE d = 0) : (M.barrierD d).dead = false ∧ ∀ k, (M.barrierD d).P k = none := by
  unfold M.barrierE M.barrierD at *
  cases hd : d.dead with
  | true => rw [hd] at h; simp at h
  | false =>
    rw [hd] at h
    unfold M.actE M.actD at *
    by_cases hf : d.fuse = 0
    · simp [hf] at h
    · simp only [Bool.false_eq_true, if_false, if_neg hf]
      split
      all_goals (refine ⟨hd, fun _ => ?_⟩; first | rfl | trivial)
theorem write_S (n : Nat) (d : M.Dv) (i : Int) (b : List UInt8) : (M.writeD n d i b).S = d.S := by
  unfold M.writeD
  split
  · split
    · rfl
    · split
      · exact M.act_S d
      · exact M.act_S d
  · rfl
/-- a byte behind a crash is what was sure, or what was seen -/
theorem crash_byte {n : Nat} {d : M.Dv} (h : M.Wf n d) (l : List (Int × Int)) (i : Nat) : M.seen (M.crashD n d l) i = M.crashS d.P d.S (M.pendL n d.P) l i ∧
    ((d.P i).isSome = false → M.seen (M.crashD n d l) i = d.S i) ∧ ∀ (j : Nat) (u v x : UInt8), (M.seen (M.crashD n d l) i)[j]? = some u → (d.S i)[j]? = some v → (M.seen d i)[j]? = some x → u = v ∨ u = x := by
  have e : M.seen (M.crashD n d l) i = M.crashS d.P d.S (M.pendL n d.P) l i := rfl
  refine ⟨e, fun hp => ?_, fun j u v x hu hv hx => ?_⟩
  · rw [e]
    refine M.crashS_out d.P _ l d.S i fun hm => ?_
    rw [(M.mem_pendL (fun k s hk => ⟨(h.pend k s hk).1, (h.pend k s hk).2.1⟩) _).1 hm] at hp
    cases hp
  · rw [e] at hu
    obtain ⟨k, hk, hq⟩ := M.crashS_in d.P (M.pendL n d.P) l d.S i (M.pendL_rising n d.P)
    rw [hq, M.mix_get (show ((d.P (i : Int)).getD (d.S i)).length = 144 from M.sure_len h i) (h.len i) hk] at hu
    split at hu
    · right
      have : (M.seen d i)[j]? = some u := hu
      rw [hx] at this
      exact (Option.some.inj this).symm
    · left
      rw [hv] at hu
      exact (Option.some.inj hu).symm
theorem take_mem {pl : List Int} {j : Nat} (hj : j < pl.length) (k : Int) : (if k = pl[j] then true else decide (k ∈ pl.take j)) = decide (k ∈ pl.take (j + 1)) := by
  have h : (k ∈ pl.take (j + 1)) ↔ (k ∈ pl.take j ∨ k = pl[j]) := by rw [List.take_succ_eq_append_getElem hj, List.mem_append, List.mem_singleton]
  by_cases e : k = pl[j]
  · rw [if_pos e]; exact (decide_eq_true (h.2 (.inr e))).symm
  · rw [if_neg e]
    by_cases hk : k ∈ pl.take j
    · rw [decide_eq_true hk, decide_eq_true (h.2 (.inl hk))]
    · rw [decide_eq_false hk, decide_eq_false (fun h' => (h.1 h').elim hk e)]

set_option maxHeartbeats 4000000 in
theorem walk (x0 : Int) (a1 : Option Addr) (n1 c1 : Nat) (l1 : List A) (a2 : Option Addr) (n2 c2 : Nat) (l2 : List A) (a3 : Option Addr) (n3 c3 : Nat) (l3 : List (Int × Int)) (w : World) (w0 : (Lit.int .i64 x0).wf = true) (w1 : Acts w a1 n1 c1 l1) (w2 : Acts w a2 n2 c2 l2) (w3 : KRow w a3 n3 c3 l3) :
    Calls Try.prog 4 #[.int .i64 x0, .slice a1 n1 c1, .slice a2 n2 c2, .slice a3 n3 c3] w fun e w' => e = .returned (.bool true) ∧ Below w.heap.size w w' := by
  have HA := Lib.hid (awake_any w)
  have HW1 := Lib.hid w1
  have HW2 := Lib.hid w2
  have HW3 := Lib.hid w3
  have HX0 := Lib.hid (wf_int w0)
  clear w0 w1 w2 w3
  by_cases hn : x0 < 0 ∨ 512 < x0
  · have HN := Lib.hid hn
    clear hn
    go_enter Try.func4, Try.ntmps4
    go_wp2_with (first
      | (go_at_call 9; refine HA.out.mono ?_; rintro e w1 ⟨rfl, hb1⟩; have HB1 := Lib.hid hb1; clear hb1)
      | (go_at_call 10; refine (new_no x0 HN.out _).mono ?_; rintro e w2 ⟨rfl, rfl⟩))
    go_ret
    exact ⟨rfl, HB1.out⟩
  · obtain ⟨n, rfl⟩ : ∃ n : Nat, x0 = (n : Int) := ⟨x0.toNat, by omega⟩
    have hn512 : n ≤ 512 := by omega
    have HN := Lib.hid hn512
    clear hn hn512
    by_cases hbig : 600 < n3
    · have hbigI : (600 : Int) < (n3 : Int) := by omega
      clear hbig
      go_enter Try.func4, Try.ntmps4
      go_wp2_with (first
        | (go_at_call 9; refine HA.out.mono ?_; rintro e w1 ⟨rfl, hb1⟩; have HB1 := Lib.hid hb1; clear hb1)
        | (go_at_call 10; refine (new_yes n HN.out _).mono ?_; rintro e w2 ⟨dB, sB, mB, rfl, hd2, hb2, l1, l2, l3⟩
           have HB2 := Lib.hid (HB1.out.trans (hb2.mono HB1.out.size))
           clear hd2 hb2 l1 l2 l3))
      go_ret
      exact ⟨rfl, HB2.out⟩
    · have hbigI : ¬ ((600 : Int) < (n3 : Int)) := by omega
      have hmm := @run_makeMap Try.prog
      clear hbig
      go_enter Try.func4, Try.ntmps4
      go_upto_block 0 with (first
        | (go_at_call 9; refine HA.out.mono ?_; rintro e w1 ⟨rfl, hb1⟩; have HB1 := Lib.hid hb1; clear hb1)
        | (go_at_call 10; refine (new_yes n HN.out _).mono ?_; rintro e w2 ⟨dB, sB, mB, rfl, hd2, hb2, l1, l2, l3⟩
           have HD2 := Lib.hid hd2
           have HB2 := Lib.hid (HB1.out.trans (hb2.mono HB1.out.size))
           have HL : Hid (w.heap.size ≤ dB ∧ w.heap.size ≤ sB ∧ w.heap.size ≤ mB) := Lib.hid ⟨by have := HB1.out.size; omega, by have := HB1.out.size; omega, by have := HB1.out.size; omega⟩
           clear hd2 hb2 l1 l2 l3))
      go_cut [10] (fun _ wx => ∃ d, DevAt wx dB sB mB n d ∧ But [dB, sB, mB] w2 wx)
      case first =>
        go_wp2_with fail
        go_loopw [10] (fun i wr => ∃ (k : Nat) (d : M.Dv), k ≤ 80 ∧ k ≤ n1 ∧ i = .int .i64 k ∧ DevAt wr dB sB mB n d ∧ But [dB, sB, mB] w2 wr) (fun i _ => 80 - (intOf i).toNat)
        case atStart => exact ⟨0, M.fresh, by omega, by omega, rfl, HD2.out, But.refl _ _⟩
        case round =>
          obtain ⟨k, d, hk, hkn, rfl, hdv, hbw⟩ := hrel
          have HDv := Lib.hid hdv
          have HBw := Lib.hid hbw
          have HBel : Hid (Below w.heap.size w wr) := Lib.hid (HB2.out.trans (hbw.to_below (by have := HL.out; simp; omega) HB2.out.size))
          clear hdv hbw
          have hk0 : (0 : Int) ≤ (k : Int) := by omega
          by_cases hend : k = n1
          · have hge : ¬ ((k : Int) < (n1 : Int)) := by omega
            clear hend
            go_wp2_with fail
            go_meet
            exact ⟨d, HDv.out, HBw.out⟩
          · have hlt : (k : Int) < (n1 : Int) := by omega
            by_cases h80 : k = 80
            · have hge : ¬ ((k : Int) < 80) := by omega
              clear h80 hend
              go_wp2_with fail
              go_meet
              exact ⟨d, HDv.out, HBw.out⟩
            · have hlt8 : (k : Int) < 80 := by omega
              obtain ⟨b, off, x, rfl, hx, hok0, hok, g1, g2, g3, g4, hbl⟩ := acts_at HW1.out HBel.out (show k < n1 by omega)
              have HX := Lib.hid (And.intro hx (And.intro hok0 (And.intro hok hbl)))
              have hbw1 : b < wr.heap.size := Nat.lt_of_lt_of_le hbl HBel.out.size
              clear hx hok0 hok hbl hend h80
              have HLg : Hid (∀ w', Calls Try.prog 12 #[.agg #[.int .i64 x.kind, .int .i64 x.i, .slice x.aB x.m x.c, .slice x.aL x.k x.cL]] w' fun e w'' => e = .returned (.bool (largeB x)) ∧ Below w'.heap.size w' w'') := Lib.hid (fun w' => large_any w' x)
              cases hlg : largeB x with
              | true =>
                rw [hlg] at HLg
                clear hlg
                go_wp2_with (go_at_call 12; refine (HLg.out _).mono ?_; rintro e w4 ⟨rfl, hb4⟩; have HB4 := Lib.hid hb4; clear hb4)
                go_ret
                exact ⟨rfl, HBel.out.trans (HB4.out.mono HBel.out.size)⟩
              | false =>
                rw [hlg] at HLg
                clear hlg
                go_wp2_with (go_at_call 12; refine (HLg.out _).mono ?_; rintro e w4 ⟨rfl, hb4⟩
                             have HBO : Hid (But [] wr w4) := Lib.hid (But.of_below hb4)
                             have HBel4 : Hid (Below w.heap.size w w4) := Lib.hid (HBel.out.trans (hb4.mono HBel.out.size))
                             have k1 := (hb4.cell (p := ⟨b, off + k * 4, none⟩) hbw1).trans g1
                             have k2 := (hb4.cell (p := ⟨b, off + k * 4 + 1, none⟩) hbw1).trans g2
                             have k3 := (hb4.cell (p := ⟨b, off + k * 4 + 2, none⟩) hbw1).trans g3
                             have k4 := (hb4.cell (p := ⟨b, off + k * 4 + 3, none⟩) hbw1).trans g4
                             clear hb4)
                have HPl : Hid (Calls Try.prog 31 #[.pointer (some ⟨dB, 0, none⟩), .agg #[.int .i64 x.kind, .int .i64 x.i, .slice x.aB x.m x.c, .slice x.aL x.k x.cL]] w4 fun e w' => e = .returned (.tuple #[]) ∧ DevAt w' dB sB mB n (M.play n d x) ∧ But [dB, sB, mB] w4 w') := Lib.hid
                  (play_any w4 (HDv.out.but HBO.out (by simp) (by simp) (by simp)) x (HX.out.2.2.1.but HBO.out (by simp)) (row_old HX.out.2.1.row (by have := HL.out; simp; omega)) (krow_old HX.out.2.1.keep (by have := HL.out; simp; omega)))
                refine HPl.out.mono ?_
                rintro e w5 ⟨rfl, hd5, hb5⟩
                have HD5 := Lib.hid hd5
                have HB5 : Hid (But [dB, sB, mB] w2 w5) := Lib.hid ((HBw.out.trans (HBO.out.mono (by simp))).trans hb5)
                clear hd5 hb5
                go_wp2_with fail
                go_roundw
                case rel => exact ⟨k + 1, _, by omega, by omega, by go_num, HD5.out, HB5.out⟩
                case measure => simp [intOf]; omega
      case rest =>
        obtain ⟨d, hdv, hbw⟩ := hcut
        have HDv := Lib.hid hdv
        have HBw := Lib.hid hbw
        have Hlt : Hid (dB < w2.heap.size ∧ sB < w2.heap.size ∧ mB < w2.heap.size) := Lib.hid ⟨HD2.out.ltD, HD2.out.lt, HD2.out.pend.lt⟩
        clear hdv hbw
        by_cases hE : M.barrierE d = 0
        · have HG := Lib.hid (barrier_good hE)
          go_wp2_with fail
          refine (barrier_any _ HDv.out).mono ?_
          rw [hE]
          rintro e w5 ⟨rfl, hd5, hb5⟩
          clear hE
          generalize M.barrierD d = d1 at hd5 HG
          have HD5 := Lib.hid (hd5.alloc (.cells #[] 28))
          have HB5 := Lib.hid ((HBw.out.trans hb5).alloc (.cells #[] 28))
          have HT5 : Hid (Tab true (w5.alloc (.cells #[] 28)) w2.heap.size (some ⟨w5.heap.size, 0, none⟩) 0 0 (M.seen d1)) := Lib.hid (tab_nil true w5 w2.heap.size (HBw.out.trans hb5).size _)
          have HWf := Lib.hid hd5.wf
          clear hd5 hb5
          go_wp2_with fail
          go_loopw [11, 12] (fun v t wr => ∃ (k cap : Nat) (a : Option Addr), k ≤ n ∧ t = .int .i64 k ∧ v = .slice a k cap ∧ Tab true wr w2.heap.size a k cap (M.seen d1) ∧ DevAt wr dB sB mB n d1 ∧ But [dB, sB, mB] w2 wr) (fun _ t _ => n - (intOf t).toNat)
          case atStart => exact ⟨0, 0, _, by omega, rfl, rfl, HT5.out, HD5.out, HB5.out⟩
          case round =>
            obtain ⟨k, cap, a, hk, rfl, rfl, ht, hdv, hbw⟩ := hrel
            have HT := Lib.hid ht
            have HDr := Lib.hid hdv
            have HBr := Lib.hid hbw
            have HBelr : Hid (Below w.heap.size w wr) := Lib.hid (HB2.out.trans (hbw.to_below (by have := HL.out; simp; omega) HB2.out.size))
            clear ht hdv hbw HT5 HD5 HB5
            have hk0 : (0 : Int) ≤ (k : Int) := by omega
            have hk512 : (k : Int) ≤ 512 := by have := HN.out; omega
            by_cases hke : k = n
            · have hge : ¬ ((k : Int) < (n : Int)) := by omega
              rw [hke] at HT ⊢
              clear hk hk0 hk512 hge hke
              have hge : ¬ ((n : Int) < (n : Int)) := by omega
              go_upto_block 4 with fail
              go_cut [15] (fun _ wx => ∃ d2, DevAt wx dB sB mB n d2 ∧ But [dB, sB, mB] w2 wx ∧ d2.S = d1.S ∧ Tab true wx w2.heap.size a n cap (M.seen d1))
              case first =>
                go_wp2_with fail
                go_loopw [15] (fun t wr => ∃ (k : Nat) (d2 : M.Dv), k ≤ 80 ∧ k ≤ n2 ∧ t = .int .i64 k ∧ DevAt wr dB sB mB n d2 ∧ But [dB, sB, mB] w2 wr ∧ d2.S = d1.S ∧ Tab true wr w2.heap.size a n cap (M.seen d1)) (fun t _ => 80 - (intOf t).toNat)
                case atStart => exact ⟨0, d1, by omega, by omega, rfl, HDr.out, HBr.out, rfl, HT.out⟩
                case round =>
                  obtain ⟨k, d2, hk, hkn, rfl, hdv, hbw, hs, ht⟩ := hrel
                  have HDv := Lib.hid hdv
                  have HBw := Lib.hid hbw
                  have HS := Lib.hid hs
                  have HTv := Lib.hid ht
                  have HBel : Hid (Below w.heap.size w wr) := Lib.hid (HB2.out.trans (hbw.to_below (by have := HL.out; simp; omega) HB2.out.size))
                  clear hdv hbw hs ht
                  have hk0 : (0 : Int) ≤ (k : Int) := by omega
                  by_cases hend : k = n2
                  · have hge : ¬ ((k : Int) < (n2 : Int)) := by omega
                    clear hend
                    go_wp2_with fail
                    go_meet
                    exact ⟨d2, HDv.out, HBw.out, HS.out, HTv.out⟩
                  · have hlt : (k : Int) < (n2 : Int) := by omega
                    by_cases h80 : k = 80
                    · have hge : ¬ ((k : Int) < 80) := by omega
                      clear h80 hend
                      go_wp2_with fail
                      go_meet
                      exact ⟨d2, HDv.out, HBw.out, HS.out, HTv.out⟩
                    · have hlt8 : (k : Int) < 80 := by omega
                      obtain ⟨b, off, x, rfl, hx, hok0, hok, g1, g2, g3, g4, hbl⟩ := acts_at HW2.out HBel.out (show k < n2 by omega)
                      have HX := Lib.hid (And.intro hx (And.intro hok0 (And.intro hok hbl)))
                      have hbw1 : b < wr.heap.size := Nat.lt_of_lt_of_le hbl HBel.out.size
                      clear hx hok0 hok hbl hend h80
                      have HLg : Hid (∀ w', Calls Try.prog 12 #[.agg #[.int .i64 x.kind, .int .i64 x.i, .slice x.aB x.m x.c, .slice x.aL x.k x.cL]] w' fun e w'' => e = .returned (.bool (largeB x)) ∧ Below w'.heap.size w' w'') := Lib.hid (fun w' => large_any w' x)
                      cases hlg : largeB x with
                      | true =>
                        rw [hlg] at HLg
                        clear hlg
                        go_wp2_with (go_at_call 12; refine (HLg.out _).mono ?_; rintro e w7 ⟨rfl, hb4⟩; have HB4 := Lib.hid hb4; clear hb4)
                        go_ret
                        exact ⟨rfl, HBel.out.trans (HB4.out.mono HBel.out.size)⟩
                      | false =>
                        rw [hlg] at HLg
                        clear hlg
                        go_wp2_with (go_at_call 12; refine (HLg.out _).mono ?_; rintro e w7 ⟨rfl, hb4⟩
                                     have HBO : Hid (But [] wr w7) := Lib.hid (But.of_below hb4)
                                     have k2 := (hb4.cell (p := ⟨b, off + k * 4 + 1, none⟩) hbw1).trans g2
                                     have k3 := (hb4.cell (p := ⟨b, off + k * 4 + 2, none⟩) hbw1).trans g3
                                     have HD7 : Hid (DevAt w7 dB sB mB n d2) := Lib.hid (HDv.out.but HBO.out (by simp) (by simp) (by simp))
                                     have HB7 : Hid (But [dB, sB, mB] w2 w7) := Lib.hid (HBw.out.trans (HBO.out.mono (by simp)))
                                     have HT7 := Lib.hid (HTv.out.but HBO.out (by simp))
                                     have HX7 := Lib.hid (HX.out.2.2.1.but HBO.out (by simp))
                                     clear hb4)
                        refine wp_region_still_tail 11 (by kernel_rfl) (by kernel_rfl) ?_
                        simp only [List.take_succ_cons, List.take_zero, List.drop_succ_cons, List.drop_zero]
                        iterate 11 still_step
                        refine wpStill_nil ?_
                        change wpList _ _ _ _ _ w7.drew
                        have HW7 := Lib.hid (write_any w7.drew HD7.out.drew x.i HX7.out.i1 HX7.out.i2 _ _ _ x.b (HX7.out.but ((But.refl [] w7).drew) (by simp)).row (row_old HX.out.2.1.row (by have := HL.out; simp; omega)))
                        have HB7d : Hid (But [dB, sB, mB] w2 w7.drew) := Lib.hid HB7.out.drew
                        have HT7d := Lib.hid (HT7.out.but ((But.refl [] w7).drew) (by simp))
                        clear k2 k3
                        generalize w7.drew = w7d at *
                        go_wp2_with fail
                        refine HW7.out.mono ?_
                        rintro e w8 ⟨rfl, hd8, hb8⟩
                        have HD8 := Lib.hid hd8
                        have HB8 : Hid (But [dB, sB, mB] w2 w8) := Lib.hid (HB7d.out.trans (hb8.mono (by simp)))
                        have HT8 := Lib.hid (HT7d.out.but hb8 (by have := Hlt.out; simp; omega))
                        have HS8 := Lib.hid ((write_S n d2 x.i x.b).trans HS.out)
                        clear hd8 hb8
                        generalize M.writeD n d2 x.i x.b = d8 at *
                        generalize M.writeE n d2 x.i x.b = e8 at *
                        go_wp2_with fail
                        go_roundw
                        case rel => exact ⟨k + 1, _, by omega, by omega, by go_num, HD8.out, HB8.out, HS8.out, HT8.out⟩
                        case measure => simp [intOf]; omega
              case rest =>
                obtain ⟨d2, hdv, hbw, hs, ht⟩ := hcut
                have HDv := Lib.hid hdv
                have HBw := Lib.hid hbw
                have HS := Lib.hid hs
                have HTw := Lib.hid ht
                have HBelc : Hid (Below w.heap.size w wc) := Lib.hid (HB2.out.trans (hbw.to_below (by have := HL.out; simp; omega) HB2.out.size))
                have Hlc : Hid (dB < wc.heap.size ∧ sB < wc.heap.size ∧ mB < wc.heap.size) := Lib.hid ⟨hdv.ltD, hdv.lt, hdv.pend.lt⟩
                have HDe := Lib.hid (dead_any _ (hdv.alloc (.cells #[] 28)))
                obtain ⟨q, hq⟩ : ∃ q, d2.dead = q := ⟨_, rfl⟩
                rw [hq] at HDe
                have Hq := Lib.hid hq
                have HT0 := Lib.hid (tab_nil (!q) wc wc.heap.size (Nat.le_refl _) (M.seen d2))
                have HB0 : Hid (Below wc.heap.size wc (wc.alloc (.cells #[] 28))) := Lib.hid ((Below.refl _ _).alloc (Nat.le_refl _) _)
                clear hdv hbw hs ht hq
                go_wp2_with (go_at_call 29; refine HDe.out.mono ?_; rintro e w' ⟨rfl, rfl⟩)
                go_loopw [16, 18] (fun v t wx => ∃ (k cap1 : Nat) (a1 : Option Addr), k ≤ n ∧ t = .int .i64 k ∧ v = .slice a1 k cap1 ∧ Tab (!q) wx wc.heap.size a1 k cap1 (M.seen d2) ∧ Below wc.heap.size wc wx) (fun _ t _ => n - (intOf t).toNat)
                case atStart => exact ⟨0, 0, _, by omega, rfl, rfl, HT0.out, HB0.out⟩
                case round =>
                  obtain ⟨k, cap1, b1, hk, rfl, rfl, ht, hb⟩ := hrel
                  have HT1 := Lib.hid ht
                  have HB1' := Lib.hid hb
                  have HD1 := Lib.hid (HDv.out.below hb Hlc.out)
                  clear ht hb HT0 HB0
                  have hk0 : (0 : Int) ≤ (k : Int) := by omega
                  have hk512 : (k : Int) ≤ 512 := by have := HN.out; omega
                  by_cases hke : k = n
                  · have hge : ¬ ((k : Int) < (n : Int)) := by omega
                    rw [hke] at HT1 ⊢
                    clear hk hk0 hk512 hge hke
                    have hge : ¬ ((n : Int) < (n : Int)) := by omega
                    obtain ⟨w8, hw8⟩ : ∃ w8, w8 = wr := ⟨_, rfl⟩
                    subst hw8
                    have HSm := Lib.hid (set_made w8)
                    have HDm := Lib.hid (HD1.out.alloc (.map #[] 0))
                    have HPe := Lib.hid (pending_any _ HDm.out)
                    have HMem : Hid (∀ k, k ∈ M.pendL n d2.P ↔ (d2.P k).isSome = true) := Lib.hid (M.mem_pendL (fun k s hk => ⟨(HDv.out.wf.pend k s hk).1, (HDv.out.wf.pend k s hk).2.1⟩))
                    have HRng : Hid (∀ k, k ∈ M.pendL n d2.P → 0 ≤ k ∧ k < 512) := Lib.hid (fun k hk => by
                      obtain ⟨s, hs⟩ := Option.isSome_iff_exists.1 ((HMem.out k).1 hk)
                      have := HDv.out.wf.pend k s hs
                      have := HN.out
                      omega)
                    have HPl : Hid ((M.pendL n d2.P).length ≤ 512) := Lib.hid (Nat.le_trans (M.pendL_len n d2.P) HN.out)
                    generalize M.pendL n d2.P = pl at HPe HMem HRng HPl
                    go_wp2_with (go_at_call 27; refine HPe.out.mono ?_; rintro e w10 ⟨v, rfl, hrow, hb10⟩
                                 obtain ⟨aP, cP, rfl, hr1, hab⟩ := own_row hrow (by simp [ints])
                                 have HR10 := Lib.hid hr1
                                 have HAB := Lib.hid hab
                                 have HS10 := Lib.hid (HSm.out.but (But.of_below hb10) (by simp))
                                 have HB10 : Hid (Below w8.heap.size w8 w10) := Lib.hid (((Below.refl _ _).alloc (Nat.le_refl _) _).trans (hb10.mono (by simp)))
                                 have HD10 := Lib.hid (HDm.out.but (But.of_below hb10) (by simp) (by simp) (by simp))
                                 clear hrow hb10 hr1 hab)
                    have hpl0 : (0 : Int) ≤ (pl.length : Int) := by omega
                    go_loopw [23, 130] (fun _ t wx => ∃ j : Nat, j ≤ pl.length ∧ t = .int .i64 j ∧ SetIs wx w8.heap.size (fun k => decide (k ∈ pl.take j)) ∧ But [w8.heap.size] w10 wx) (fun _ t _ => pl.length - (intOf t).toNat)
                    case atStart => exact ⟨0, by omega, rfl, HS10.out.same (fun k => by simp), But.refl _ _⟩
                    case round =>
                      obtain ⟨j, hj, rfl, hst, hbu⟩ := hrel
                      have HSt := Lib.hid hst
                      have HBu := Lib.hid hbu
                      clear hst hbu HS10
                      have hj0 : (0 : Int) ≤ (j : Int) := by omega
                      have hj512 : (j : Int) ≤ 512 := by have := HPl.out; omega
                      by_cases hje : j = pl.length
                      · have hge' : ¬ ((j : Int) < (pl.length : Int)) := by omega
                        have HSf : Hid (SetIs wr w8.heap.size (fun k => (d2.P k).isSome)) := Lib.hid (HSt.out.same (fun k => by
                          rw [hje, List.take_length]
                          cases hp : (d2.P k).isSome with
                          | true => exact decide_eq_true ((HMem.out k).2 hp)
                          | false => exact decide_eq_false (fun hm => by rw [(HMem.out k).1 hm] at hp; cases hp)))
                        clear hje
                        have HB8x : Hid (Below w8.heap.size w8 wr) := Lib.hid (HB10.out.trans (HBu.out.to_below (by simp) HB10.out.size))
                        have HDx := Lib.hid (HD1.out.but (But.of_below HB8x.out) (by simp) (by simp) (by simp))
                        have HBx : Hid (Below w.heap.size w wr) := Lib.hid (HBelc.out.trans ((HB1'.out.mono HBelc.out.size).trans (HB8x.out.mono (Nat.le_trans HBelc.out.size HB1'.out.size))))
                        have HCr := Lib.hid (crash_any _ HDx.out a3 n3 c3 l3 (krow_but HW3.out (But.of_below HBx.out) (.inr (by simp))) (krow_old HW3.out (by have := HL.out; simp; omega)))
                        go_wp2_with fail
                        refine HCr.out.mono ?_
                        rintro e w11 ⟨rfl, hd11, hb11⟩
                        have HCb := Lib.hid (fun i => crash_byte HDv.out.wf l3 i)
                        have HF11 := Lib.hid (Free.crash n d2 l3)
                        have HP11 : Hid (∀ k, (M.crashD n d2 l3).P k = none) := Lib.hid (fun k => rfl)
                        generalize M.crashD n d2 l3 = d3 at hd11 HCb HF11 HP11
                        have HD11 := Lib.hid hd11
                        have HB11 : Hid (Below w.heap.size w w11) := Lib.hid (HBx.out.trans (hb11.to_below (by have := HL.out; simp; omega) HBx.out.size))
                        have HT11 := Lib.hid (((HTw.out.but (But.of_below HB1'.out) (by simp)).but (But.of_below HB8x.out) (by simp)).but hb11 (by have := Hlt.out; simp; omega))
                        have HN11 := Lib.hid ((HT1.out.but (But.of_below HB8x.out) (by simp)).but hb11 (by have := Hlc.out; simp; omega))
                        have HS11 := Lib.hid (HSf.out.but hb11 (by have := Hlc.out; have := HB1'.out.size; simp; omega))
                        clear hd11 hb11
                        go_wp2_with fail
                        go_loopw [24] (fun t wx => ∃ k : Nat, k ≤ n ∧ t = .int .i64 k ∧ Below w11.heap.size w11 wx) (fun t _ => n - (intOf t).toNat)
                        case atStart => exact ⟨0, by omega, rfl, Below.refl _ _⟩
                        case round =>
                          obtain ⟨i, hi, rfl, hbi⟩ := hrel
                          have HBi := Lib.hid hbi
                          have HDi := Lib.hid (HD11.out.but (But.of_below hbi) (by simp) (by simp) (by simp))
                          have HBel12 : Hid (Below w.heap.size w wr) := Lib.hid (HB11.out.trans (hbi.mono HB11.out.size))
                          clear hbi
                          have hi0 : (0 : Int) ≤ (i : Int) := by omega
                          have hi512 : (i : Int) ≤ 512 := by have := HN.out; omega
                          by_cases hie : i = n
                          · have hge2 : ¬ ((i : Int) < (n : Int)) := by omega
                            clear hie
                            have HDe2 := Lib.hid (dead_any _ HDi.out)
                            have HPe2 := Lib.hid (pending_any _ HDi.out)
                            have hpl2 : M.pendL n d3.P = [] := by
                              unfold M.pendL
                              rw [List.filter_eq_nil_iff]
                              intro k _
                              rw [HP11.out k]
                              simp
                            rw [hpl2] at HPe2
                            rw [HF11.out.2] at HDe2
                            clear hpl2
                            go_wp2_with (first
                              | (go_at_call 27; refine HPe2.out.mono ?_; rintro e w13 ⟨v, rfl, hrow, hb13⟩
                                 obtain ⟨aQ, cQ, rfl, _, _⟩ := own_row hrow (by simp [ints])
                                 have HB13 := Lib.hid (HBel12.out.trans (hb13.mono HBel12.out.size))
                                 have HDe3 := Lib.hid (dead_any _ (HDi.out.but (But.of_below hb13) (by simp) (by simp) (by simp)))
                                 rw [HF11.out.2] at HDe3
                                 clear hrow hb13)
                              | (go_at_call 29; refine HDe3.out.mono ?_; rintro e w' ⟨rfl, rfl⟩))
                            go_ret
                            exact ⟨rfl, HB13.out⟩
                          · have hlt2 : (i : Int) < (n : Int) := by omega
                            have hin : i < n := by omega
                            clear hie
                            have HRd := Lib.hid (read_yes _ HDi.out i (by rw [HF11.out.reach, if_neg (by omega)]))
                            go_wp2_with fail
                            refine HRd.out.mono ?_
                            rintro e w12 ⟨bR, rfl, hbR, hltR, hrg, _, hb12⟩
                            have HB12 : Hid (Below w11.heap.size w11 w12) := Lib.hid (HBi.out.trans (hb12.mono HBi.out.size))
                            obtain ⟨gW, bW, rfl, hgW, hrW, hltW⟩ := (HT11.out.but (But.of_below HB12.out) (by simp)).get hin
                            replace hgW : w12.cell? ⟨gW, i, none⟩ = some (.slice (some ⟨bW, 0, none⟩) 144 144) := hgW
                            have hsn : M.seen d1 i = d2.S i := by
                              rw [HS.out]
                              unfold M.seen
                              rw [HG.out.2]
                              rfl
                            have hl3 := seen_len HD11.out.wf i
                            have hl1 := seen_len HWf.out i
                            have hl2 := seen_len HDv.out.wf i
                            have hlk : ∀ m, (Instr.lookup 53 (.map (some w8.heap.size)) (.int .i64 (i : Int)) false).run Try.prog (w12.drewN m) = .ok (.bool (d2.P (i : Int)).isSome) (w12.drewN m) := fun m =>
                              set_look ((HS11.out.but (But.of_below HB12.out) (by simp)).of_block (w' := w12.drewN m) rfl) (i := (i : Int)) (by omega) (by omega)
                            have hc1 : ∀ m, (convert 28 9 (.slice (some ⟨bR, 0, none⟩) 144 144)).run Try.prog (w12.drewN m) = .ok (.string (str (M.seen d3 i))) (w12.drewN m) := fun m => by
                              have h1 := conv_take (w := w12.drewN m) (k := 144) (rangeAt_block hrg rfl) hltR hl3 (by omega)
                              rw [List.take_of_length_le (by omega)] at h1
                              exact h1
                            have hc2 : ∀ m, (convert 28 9 (.slice (some ⟨bW, 0, none⟩) 144 144)).run Try.prog (w12.drewN m) = .ok (.string (str (M.seen d1 i))) (w12.drewN m) := fun m => by
                              have h1 := conv_take (w := w12.drewN m) (k := 144) (rangeAt_block hrW rfl) hltW hl1 (by omega)
                              rw [List.take_of_length_le (by omega)] at h1
                              exact h1
                            have Hsn := Lib.hid (And.intro hsn (And.intro hl3 (And.intro hl1 hl2)))
                            have HRg := Lib.hid (And.intro hrg hrW)
                            clear hbR hltR hrg hb12 hrW hltW hsn hl3 hl1 hl2
                            cases hp : (d2.P (i : Int)).isSome
                            all_goals
                              rw [hp] at hlk
                              first
                                | (have he : M.seen d3 i = M.seen d1 i := by rw [(HCb.out i).2.1 hp, Hsn.out.1]
                                   rw [he] at hc1
                                   clear he)
                                | clear hc1 hc2
                              have Hp := Lib.hid hp
                              clear hp
                              go_wp2_with fail
                              go_quiet (fail)
                              clear hlk
                              try clear hc1 hc2
                              go_wp2_with fail
                              go_loopw [27, 176] (fun _ t wx => ∃ (j m : Nat), j ≤ 144 ∧ t = .int .i64 j ∧ wx = w12.drewN m) (fun _ t _ => 144 - (intOf t).toNat)
                              case atStart => exact ⟨0, _, by omega, rfl, rfl⟩
                              case round =>
                                obtain ⟨j, m, hj, rfl, rfl⟩ := hrel
                                have hj0 : (0 : Int) ≤ (j : Int) := by omega
                                by_cases hje : j = 144
                                · have hge2 : ¬ ((j : Int) < 144) := by omega
                                  clear hje
                                  go_wp2_with fail
                                  go_roundw
                                  case rel => exact ⟨i + 1, by omega, by go_num, HB12.out.trans ⟨rfl, rfl, rfl, Nat.le_refl _, fun _ _ => rfl⟩⟩
                                  case measure => simp [intOf]; omega
                                · have hlt3 : (j : Int) < 144 := by omega
                                  have hj144 : j < 144 := by omega
                                  clear hje
                                  obtain ⟨u, hu⟩ : ∃ u, (M.seen d3 i)[j]? = some u := ⟨(M.seen d3 i)[j]'(by have := Hsn.out.2.1; omega), List.getElem?_eq_getElem _⟩
                                  obtain ⟨v, hv⟩ : ∃ v, (M.seen d1 i)[j]? = some v := ⟨(M.seen d1 i)[j]'(by have := Hsn.out.2.2.1; omega), List.getElem?_eq_getElem _⟩
                                  obtain ⟨y, hy⟩ : ∃ y, (M.seen d2 i)[j]? = some y := ⟨(M.seen d2 i)[j]'(by have := Hsn.out.2.2.2; omega), List.getElem?_eq_getElem _⟩
                                  have hor := (HCb.out i).2.2 j u v y hu (by rw [← Hsn.out.1]; exact hv) hy
                                  have hcu := range_byte HRg.out.1 hu
                                  have hcv := range_byte HRg.out.2 hv
                                  rw [Nat.zero_add] at hcu hcv
                                  have Hy := Lib.hid hy
                                  clear hu hv hy
                                  by_cases huv : u = v
                                  · subst huv
                                    have hne1 : ((u.toNat : Int) != (u.toNat : Int)) = false := by simp
                                    clear hor
                                    go_wp2_with fail
                                    go_quiet (fail)
                                    go_wp2_with fail
                                    go_roundw
                                    case rel => exact ⟨j + 1, _, by omega, by go_num, rfl⟩
                                    case measure => simp [intOf]; omega
                                  · have hne1 : ((u.toNat : Int) != (v.toNat : Int)) = true := by
                                      have : u.toNat ≠ v.toNat := fun e => huv (UInt8.toNat_inj.1 e)
                                      simp; omega
                                    obtain rfl : u = y := hor.resolve_left huv
                                    clear huv hor
                                    cases q with
                                    | true =>
                                      go_wp2_with fail
                                      go_quiet (fail)
                                      go_wp2_with fail
                                      go_roundw
                                      case rel => exact ⟨j + 1, _, by omega, by go_num, rfl⟩
                                      case measure => simp [intOf]; omega
                                    | false =>
                                      obtain ⟨gN, bN, rfl, hgN, hrN, hltN⟩ := (HN11.out.but (But.of_below HB12.out) (by simp)).get hin
                                      replace hgN : w12.cell? ⟨gN, i, none⟩ = some (.slice (some ⟨bN, 0, none⟩) 144 144) := hgN
                                      have hcy := range_byte hrN Hy.out
                                      rw [Nat.zero_add] at hcy
                                      have hne2 : ((u.toNat : Int) != (u.toNat : Int)) = false := by simp
                                      clear hrN hltN
                                      go_wp2_with fail
                                      go_quiet (fail)
                                      go_wp2_with fail
                                      go_roundw
                                      case rel => exact ⟨j + 1, _, by omega, by go_num, rfl⟩
                                      case measure => simp [intOf]; omega
                      · have hlt' : (j : Int) < (pl.length : Int) := by omega
                        have hjl : j < pl.length := by omega
                        obtain ⟨bP, oP, rfl, hcP⟩ : ∃ bP oP, aP = some ⟨bP, oP, none⟩ ∧ wr.cell? ⟨bP, oP + j, none⟩ = some (.int .i64 pl[j]) := by
                          have hrow := row_but HR10.out HBu.out (.inr fun b off e => by have := (HAB.out b off e).1; simp at this; simp; omega)
                          rcases hrow.2.2.2 with h0 | ⟨b, off, e, hb, hc⟩
                          · have : (ints pl).length = 0 := by rw [h0]; rfl
                            simp [ints] at this
                            rw [this] at hjl
                            simp at hjl
                          · refine ⟨b, off, e, ?_⟩
                            rw [hc j hjl]
                            simp [ints, hjl]
                        have HQ := Lib.hid (HRng.out _ (List.getElem_mem hjl))
                        have HTk : Hid (∀ k, (if k = pl[j] then true else decide (k ∈ pl.take j)) = decide (k ∈ pl.take (j + 1))) := Lib.hid (take_mem hjl)
                        generalize pl[j] = q1 at *
                        clear hje
                        go_wp2_with (refine wpList_set_put rfl (.tmp 134) (.tmp 135) rfl w8.heap.size rfl q1 rfl (F := fun k => decide (k ∈ pl.take j)) HSt.out (fun k hk => HRng.out k (List.mem_of_mem_take (of_decide_eq_true hk))) (by have := HQ.out; omega) (by have := HQ.out; omega) ?_
                                     intro w9 hs9 hb9
                                     have HS9 := Lib.hid (hs9.same HTk.out)
                                     have HB9 := Lib.hid (HBu.out.trans hb9)
                                     clear hs9 hb9)
                        go_roundw
                        case rel => exact ⟨j + 1, by omega, by go_num, HS9.out, HB9.out⟩
                        case measure => simp [intOf]; omega
                  · have hlt : (k : Int) < (n : Int) := by omega
                    have hkn : k < n := by omega
                    clear hke
                    cases q with
                    | true =>
                      have HRd := Lib.hid (read_no _ HD1.out (k : Int) (by omega) (by omega) (by unfold M.reach; rw [Hq.out]; simp))
                      have HT6 := Lib.hid (HT1.out.but ((But.refl [] wr).alloc (.cells #[.slice none 0 0] 28)) (by simp))
                      have HR6 := Lib.hid (row_one wr 28 (.slice none 0 0))
                      have HB6 : Hid (Below wc.heap.size wc (wr.alloc (.cells #[.slice none 0 0] 28))) := Lib.hid (HB1'.out.alloc HB1'.out.size _)
                      go_wp2_with (first
                        | (go_at_call 24; refine HRd.out.mono ?_; rintro e w' ⟨rfl, rfl⟩)
                        | (refine wpList_append_tab rfl (.tmp 122) (.tmp 124) rfl (!true) wc.heap.size b1 k cap1 (M.seen d2) rfl HT6.out wr.heap.size 1 (.slice none 0 0) rfl HR6.out rfl (fun e => absurd e (by simp)) (by omega) HB6.out.size ?_
                           intro a8 cap8 w8 hown8 hgr8 hb8 _
                           have HT8 := Lib.hid hown8
                           have HB8 := Lib.hid (HB6.out.trans hb8)
                           clear hown8 hgr8 hb8))
                      go_roundw
                      case rel => exact ⟨k + 1, cap8, a8, by omega, by go_num, rfl, HT8.out, HB8.out⟩
                      case measure => simp [intOf]; omega
                    | false =>
                      have HRd := Lib.hid (read_yes _ HD1.out k (reach_ok Hq.out hkn))
                      go_wp2_with fail
                      refine HRd.out.mono ?_
                      rintro e w6 ⟨bR, rfl, hbR, hltR, hrg, _, hb6⟩
                      have HB6 : Hid (Below wc.heap.size wc (w6.alloc (.cells #[.slice (some ⟨bR, 0, none⟩) 144 144] 28))) := Lib.hid ((HB1'.out.trans (hb6.mono HB1'.out.size)).alloc (Nat.le_trans HB1'.out.size hb6.size) _)
                      have HT6 := Lib.hid (HT1.out.but ((But.of_below hb6).alloc (.cells #[.slice (some ⟨bR, 0, none⟩) 144 144] 28)) (by simp))
                      have HR6 := Lib.hid (row_one w6 28 (.slice (some ⟨bR, 0, none⟩) 144 144))
                      have HU6 : Hid (∃ b, Value.slice (some ⟨bR, 0, none⟩) 144 144 = cell144 b ∧ wc.heap.size ≤ b ∧ b < (w6.alloc (.cells #[.slice (some ⟨bR, 0, none⟩) 144 144] 28)).heap.size ∧ (w6.alloc (.cells #[.slice (some ⟨bR, 0, none⟩) 144 144] 28)).rangeAt b 0 (u8s (M.seen d2 k)) ∧ ∀ off, b1 ≠ some ⟨b, off, none⟩) := Lib.hid
                        ⟨bR, rfl, Nat.le_trans HB1'.out.size hbR, by simp; omega, World.rangeAt_alloc hrg _, fun off e => by
                          obtain ⟨vs, ho, _⟩ := HT1.out
                          have := ho.1.lt bR (by rw [e]; rfl)
                          omega⟩
                      clear hbR hltR hrg hb6
                      go_wp2_with (refine wpList_append_tab rfl (.tmp 122) (.tmp 124) rfl (!false) wc.heap.size b1 k cap1 (M.seen d2) rfl HT6.out w6.heap.size 1 (.slice (some ⟨bR, 0, none⟩) 144 144) rfl HR6.out rfl (fun _ => HU6.out) (by omega) HB6.out.size ?_
                                   intro a8 cap8 w8 hown8 hgr8 hb8 _
                                   have HT8 := Lib.hid hown8
                                   have HB8 := Lib.hid (HB6.out.trans hb8)
                                   clear hown8 hgr8 hb8)
                      go_roundw
                      case rel => exact ⟨k + 1, cap8, a8, by omega, by go_num, rfl, HT8.out, HB8.out⟩
                      case measure => simp [intOf]; omega
            · have hlt : (k : Int) < (n : Int) := by omega
              have hkn : k < n := by omega
              clear hke
              have HRd := Lib.hid (read_yes _ HDr.out k (reach_ok HG.out.1 hkn))
              go_wp2_with fail
              refine HRd.out.mono ?_
              rintro e w6 ⟨bR, rfl, hbR, hltR, hrg, _, hb6⟩
              have HD6 := Lib.hid ((HDr.out.but (But.of_below hb6) (by simp) (by simp) (by simp)).alloc (.cells #[.slice (some ⟨bR, 0, none⟩) 144 144] 28))
              have HB6 : Hid (But [dB, sB, mB] w2 (w6.alloc (.cells #[.slice (some ⟨bR, 0, none⟩) 144 144] 28))) := Lib.hid ((HBr.out.trans ((But.of_below hb6).mono (by simp))).alloc _)
              have HT6 := Lib.hid (HT.out.but ((But.of_below hb6).alloc (.cells #[.slice (some ⟨bR, 0, none⟩) 144 144] 28)) (by simp))
              have HR6 := Lib.hid (row_one w6 28 (.slice (some ⟨bR, 0, none⟩) 144 144))
              have HU6 : Hid (∃ b, Value.slice (some ⟨bR, 0, none⟩) 144 144 = cell144 b ∧ w2.heap.size ≤ b ∧ b < (w6.alloc (.cells #[.slice (some ⟨bR, 0, none⟩) 144 144] 28)).heap.size ∧ (w6.alloc (.cells #[.slice (some ⟨bR, 0, none⟩) 144 144] 28)).rangeAt b 0 (u8s (M.seen d1 k)) ∧ ∀ off, a ≠ some ⟨b, off, none⟩) := Lib.hid
                (⟨bR, rfl, Nat.le_trans HBr.out.size hbR, by simp; omega, World.rangeAt_alloc hrg _, fun off e => by
                  obtain ⟨vs, ho, _⟩ := HT.out
                  have := ho.1.lt bR (by rw [e]; rfl)
                  omega⟩)
              clear hbR hltR hrg hb6
              go_wp2_with (refine wpList_append_tab rfl (.tmp 77) (.tmp 79) rfl true w2.heap.size a k cap (M.seen d1) rfl HT6.out w6.heap.size 1 (.slice (some ⟨bR, 0, none⟩) 144 144) rfl HR6.out rfl (fun _ => HU6.out) (by omega) HB6.out.size ?_
                           intro a8 cap8 w8 hown8 hgr8 hb8 _
                           have HT8 := Lib.hid hown8
                           have HD8 := Lib.hid (HD6.out.below hb8 Hlt.out)
                           have HB8 := Lib.hid (HB6.out.below hb8 (Nat.le_refl _))
                           clear hown8 hgr8 hb8)
              go_roundw
              case rel => exact ⟨k + 1, cap8, a8, by omega, by go_num, rfl, HT8.out, HD8.out, HB8.out⟩
              case measure => simp [intOf]; omega
        · have HDe : Hid ((M.barrierD d).dead = true) := Lib.hid (barrier_bad hE)
          go_wp2_with fail
          refine (barrier_any _ HDv.out).mono ?_
          rintro e w5 ⟨rfl, hd5, hb5⟩
          generalize M.barrierE d = e0 at hE ⊢
          have hne : (e0 != 0) = true := by simpa using hE
          have HDd := Lib.hid (dead_any _ hd5)
          rw [HDe.out] at HDd
          have HB5 := Lib.hid (HB2.out.trans ((HBw.out.trans hb5).to_below (by have := HL.out; simp; omega) HB2.out.size))
          clear hE hd5 hb5
          go_wp2_with (go_at_call 29; refine HDd.out.mono ?_; rintro e w' ⟨rfl, rfl⟩)
          go_ret
          exact ⟨rfl, HB5.out⟩

set_option maxRecDepth 100000 in
theorem lifted (os : Os) (started : os.Started) (H : Type) (enc : TypeId × Value → H) :
    ReturnsInHanded {} Try.checked os 4 .any (Rows.sectorSureSpec.pre6 enc Try.prog Try.f4 Rows.sectorSureRow.domain false) (Rows.sectorSureSpec.post enc Try.prog Try.f4 false true false false) := by
  refine returnsInHanded_of_change (C := Try.checked) own started (by kernel_rfl) Try.func4
    (ChangeSpec.witness6 (enc := enc) (C := Try.checked) false ⟨#[], #[.int .i64 0, .slice none 0 0, .slice none 0 0, .slice none 0 0], []⟩ 8 (by kernel_rfl) (by kernel_rfl) (by kernel_rfl) (by kernel_rfl)) ?_
  intro W base args ds gs before hval0 hW hcnd _
  have hval : ∀ (j : Nat) t v, Try.f4.params[j]? = some t → args[j]? = some v → Value.okWide Try.prog W .any base t v := hval0
  have hW' := hW
  obtain ⟨p, q, hA0, hV, rfl, hfz, hnd⟩ := hW
  have hA : DataW.TrodAll enc Try.prog W 0 (fun _ => true) true Try.f4.params.toList args.toList ds p := hA0
  rw [Try.params4] at hA hval
  obtain ⟨v0, vs0, d0, ds0, p0, q0, hargs, rfl, rfl, h0, r0'⟩ := trodAll_cons hA
  obtain ⟨v1, vs1, d1, ds1, p1, q1, rfl, rfl, rfl, h1, r1'⟩ := trodAll_cons r0'
  obtain ⟨v2, vs2, d2, ds2, p2, q2, rfl, rfl, rfl, h2, r2'⟩ := trodAll_cons r1'
  obtain ⟨v3, vs3, d3, ds3, p3, q3, rfl, rfl, rfl, h3, r3'⟩ := trodAll_cons r2'
  obtain ⟨rfl, rfl, rfl⟩ := trodAll_nil r3'
  obtain rfl : args = #[v0, v1, v2, v3] := by cases args; simp_all
  obtain ⟨rfl, rfl⟩ := trodVars_none hV
  obtain ⟨x0, rfl, rfl, rfl, w0⟩ := open_int Try.underlying3 (hval 0 3 v0 rfl rfl) h0
  have k1 := h1
  have lt1 : ∀ x ∈ p1, x.block < W.heap.size := by obtain ⟨m, hm⟩ := k1; exact DataW.trod_lt m _ _ _ hm
  obtain ⟨a1, n1, c1, l1, rfl, w1⟩ := open_lot h1 (okWide_slice Try.underlying22 (hval 1 22 v1 rfl rfl))
  have k2 := h2
  have lt2 : ∀ x ∈ p2, x.block < W.heap.size := by obtain ⟨m, hm⟩ := k2; exact DataW.trod_lt m _ _ _ hm
  obtain ⟨a2, n2, c2, l2, rfl, w2⟩ := open_lot h2 (okWide_slice Try.underlying22 (hval 2 22 v2 rfl rfl))
  have k3 := h3
  have lt3 : ∀ x ∈ p3, x.block < W.heap.size := by obtain ⟨m, hm⟩ := k3; exact DataW.trod_lt m _ _ _ hm
  obtain ⟨a3, n3, c3, l3, rfl, w3⟩ := open_crash h3 (okWide_slice Try.underlying29 (hval 3 29 v3 rfl rfl))
  clear hA0 hval0
  refine (walk x0 a1 n1 c1 l1 a2 n2 c2 l2 a3 n3 c3 l3 W w0 w1 w2 w3).mono fun e W' ⟨he, bel⟩ => ?_
  subst he
  exact ⟨_, rfl, _, _, _, [], _, [], hW', trodAll_mk1 (shut_bool Try.underlying4 _), (trodAll_cons_mk (shut_int Try.underlying3 w0) (trodAll_cons_mk (Below.trod laidOut (by kernel_rfl) (of_decide_eq_true (by kernel_rfl)) k1 bel lt1) (trodAll_cons_mk (Below.trod laidOut (by kernel_rfl) (of_decide_eq_true (by kernel_rfl)) k2 bel lt2) (trodAll_cons_mk (Below.trod laidOut (by kernel_rfl) (of_decide_eq_true (by kernel_rfl)) k3 bel lt3) trodAll_mk0)))), rfl, bel.frame _, fun h => by cases h⟩

theorem over : Rows.sectorSureRow.holds Try.pinned (OpenSpec.ofChange Rows.sectorSureSpec) :=
  OpenClaim.holds_of_wide 4 Try.f4 rfl rfl rfl rfl rfl rfl rfl ⟨rfl, rfl, rfl, rfl, rfl⟩ rfl rfl rfl rfl rfl (by kernel_rfl) Try.func4 (by kernel_rfl)
    (of_decide_eq_true (by kernel_rfl)) (by unfold Func.isWrapper; first | (rw [if_pos (by decide +kernel)]; kernel_rfl) | (rw [if_neg (by decide +kernel)]; exact ⟨rfl, rfl⟩))
    (fun os started H enc _ => lifted os started H enc)

/-- the statement -/
theorem proved : Rows.SectorSureSaid := over
#print axioms proved
end Go.Proofs.Ytbcblcnnffdjdaa.sectorSure
