/-
  PROVED: What is pending is what was written since the last barrier, crash or loss, each sector once, rising. CONDITIONS: none (any number of sectors, any acts).
-/
import Derived.Test.YtbcblcnnffdjdaaOpen
import Derived.Test.YtbcblcnnffdjdaaSets
namespace Go.Proofs.Ytbcblcnnffdjdaa.sectorPending
open Go.ChangeShapes Go.WideShapes Go.ChangeAt Go.RowKit Go.Joins
set_option linter.unusedVariables false
set_option linter.unusedSimpArgs false
set_option maxRecDepth 20000

/-- no fuse, and not dead -/
def Free (d : M.Dv) : Prop := d.fuse = -1 ∧ d.dead = false
theorem free_reach {d : M.Dv} (h : Free d) {n : Nat} {i : Int} (hr : M.reach n d i = 0) : 0 ≤ i ∧ i < (n : Int) := ⟨(reach_bounds hr).1, (reach_bounds hr).2.1⟩
theorem free_write {d : M.Dv} (h : Free d) (n : Nat) (i : Int) (b : List UInt8) : Free (M.writeD n d i b) ∧
    ((M.writeE n d i b = 0 ∧ (0 ≤ i ∧ i < (n : Int)) ∧ ∀ k, ((M.writeD n d i b).P k).isSome = if k = i then true else (d.P k).isSome) ∨ (M.writeE n d i b ≠ 0 ∧ (M.writeD n d i b).P = d.P)) := by
  obtain ⟨h1, h2⟩ := h
  unfold M.writeE M.writeD Free
  by_cases hr : M.reach n d i = 0
  · rw [if_pos hr, if_pos hr]
    by_cases hb : 144 < b.length
    · rw [if_pos hb, if_pos hb]
      exact ⟨⟨h1, h2⟩, .inr ⟨by omega, rfl⟩⟩
    · rw [if_neg hb, if_neg hb, if_neg (by omega)]
      refine ⟨⟨by simp [M.actD, h1], by simp [M.actD, h1, h2]⟩, .inl ⟨by simp [M.actE, h1], free_reach ⟨h1, h2⟩ hr, fun k => ?_⟩⟩
      simp only [M.upd]
      by_cases e : k = i <;> simp [e]
  · rw [if_neg hr, if_neg hr]
    exact ⟨⟨h1, h2⟩, .inr ⟨hr, rfl⟩⟩
theorem free_barrier {d : M.Dv} (h : Free d) : Free (M.barrierD d) ∧ ∀ k, (M.barrierD d).P k = none := by
  obtain ⟨h1, h2⟩ := h
  unfold M.barrierD Free
  rw [if_neg (by rw [h2]; simp), if_neg (by omega)]
  exact ⟨⟨by simp [M.actD, h1], by simp [M.actD, h1, h2]⟩, fun k => rfl⟩

set_option maxHeartbeats 4000000 in
theorem walk (x0 : Int) (a1 : Option Addr) (n1 c1 : Nat) (l1 : List A) (w : World) (w0 : (Lit.int .i64 x0).wf = true) (w1 : Acts w a1 n1 c1 l1) :
    Calls Try.prog 8 #[.int .i64 x0, .slice a1 n1 c1] w fun e w' => e = .returned (.bool true) ∧ Below w.heap.size w w' := by
  have HA := Lib.hid (awake_any w)
  have HW := Lib.hid w1
  have HX0 := Lib.hid (wf_int w0)
  clear w0 w1
  by_cases hn : x0 < 0 ∨ 512 < x0
  · have HN := Lib.hid hn
    clear hn
    go_enter Try.func8, Try.ntmps8
    go_wp2_with (first
      | (go_at_call 9; refine HA.out.mono ?_; rintro e w1 ⟨rfl, hb1⟩; have HB1 := Lib.hid hb1; clear hb1)
      | (go_at_call 10; refine (new_no x0 HN.out _).mono ?_; rintro e w2 ⟨rfl, rfl⟩))
    go_ret
    exact ⟨rfl, HB1.out⟩
  · obtain ⟨n, rfl⟩ : ∃ n : Nat, x0 = (n : Int) := ⟨x0.toNat, by omega⟩
    have hn512 : n ≤ 512 := by omega
    have HN := Lib.hid hn512
    have hmm := @run_makeMap Try.prog
    clear hn hn512
    go_enter Try.func8, Try.ntmps8
    go_wp2_with (first
      | (go_at_call 9; refine HA.out.mono ?_; rintro e w1 ⟨rfl, hb1⟩; have HB1 := Lib.hid hb1; clear hb1)
      | (go_at_call 10; refine (new_yes n HN.out _).mono ?_; rintro e w2 ⟨dB, sB, mB, rfl, hd2, hb2, l1, l2, l3⟩
         have HD2 := Lib.hid hd2
         have HB2 := Lib.hid (HB1.out.trans (hb2.mono HB1.out.size))
         have HL : Hid (w.heap.size ≤ dB ∧ w.heap.size ≤ sB ∧ w.heap.size ≤ mB) := Lib.hid ⟨by have := HB1.out.size; omega, by have := HB1.out.size; omega, by have := HB1.out.size; omega⟩
         clear hd2 hb2 l1 l2 l3))
    have HS2 := Lib.hid (set_made w2)
    have HD3 := Lib.hid (HD2.out.alloc (.map #[] 0))
    have HB3 : Hid (But [dB, sB, mB] w2 (w2.alloc (.map #[] 0))) := Lib.hid ((But.refl _ _).alloc _)
    have Hsb : Hid (w2.heap.size ≤ w2.heap.size ∧ w2.heap.size ≠ dB ∧ w2.heap.size ≠ sB ∧ w2.heap.size ≠ mB) := Lib.hid ⟨Nat.le_refl _, by have := HD2.out.ltD; omega, by have := HD2.out.lt; omega, by have := HD2.out.pend.lt; omega⟩
    go_loopw [6, 7] (fun t i wr => ∃ (k sb : Nat) (d : M.Dv), k ≤ 80 ∧ k ≤ n1 ∧ i = .int .i64 k ∧ t = .map (some sb) ∧ DevAt wr dB sB mB n d ∧ But [dB, sB, mB] w2 wr ∧ Free d ∧ SetIs wr sb (fun k => (d.P k).isSome) ∧ w2.heap.size ≤ sb ∧ sb ≠ dB ∧ sb ≠ sB ∧ sb ≠ mB) (fun _ i _ => 80 - (intOf i).toNat)
    case atStart => exact ⟨0, w2.heap.size, M.fresh, by omega, by omega, rfl, rfl, HD3.out, HB3.out, ⟨rfl, rfl⟩, HS2.out, Hsb.out⟩
    case round =>
      obtain ⟨k, sb, d, hk, hkn, rfl, rfl, hdv, hbw, hf, hst, hsb⟩ := hrel
      have HDv := Lib.hid hdv
      have HBw := Lib.hid hbw
      have HF := Lib.hid hf
      have HSt := Lib.hid hst
      have HSb := Lib.hid hsb
      have HBel : Hid (Below w.heap.size w wr) := Lib.hid (HB2.out.trans (hbw.to_below (by have := HL.out; simp; omega) HB2.out.size))
      clear hdv hbw hf hst hsb HS2 HD3 HB3 Hsb
      have hk0 : (0 : Int) ≤ (k : Int) := by omega
      by_cases hend : k = n1
      · have hge : ¬ ((k : Int) < (n1 : Int)) := by omega
        clear hend
        go_wp2_with fail
        go_ret
        exact ⟨rfl, HBel.out⟩
      · have hlt : (k : Int) < (n1 : Int) := by omega
        by_cases h80 : k = 80
        · have hge : ¬ ((k : Int) < 80) := by omega
          clear h80 hend
          go_wp2_with fail
          go_ret
          exact ⟨rfl, HBel.out⟩
        · have hlt8 : (k : Int) < 80 := by omega
          obtain ⟨b, off, x, rfl, hx, hok0, hok, g1, g2, g3, g4, hbl⟩ := acts_at HW.out HBel.out (show k < n1 by omega)
          have HX := Lib.hid (And.intro hx (And.intro hok0 (And.intro hok hbl)))
          clear hx hok0 hok hbl hend h80
          have HLg : Hid (∀ w', Calls Try.prog 12 #[.agg #[.int .i64 x.kind, .int .i64 x.i, .slice x.aB x.m x.c, .slice x.aL x.k x.cL]] w' fun e w'' => e = .returned (.bool (largeB x)) ∧ Below w'.heap.size w' w'') := Lib.hid (fun w' => large_any w' x)
          cases hlg : largeB x with
          | true =>
            rw [hlg] at HLg
            clear hlg
            go_wp2_with (go_at_call 12; refine (HLg.out _).mono ?_; rintro e w4 ⟨rfl, hb4⟩; have HB4 := Lib.hid hb4; clear hb4)
            go_ret
            exact ⟨rfl, (HBel.out.alloc HBel.out.size _).trans (HB4.out.mono (by have := HBel.out.size; simp; omega))⟩
          | false =>
            rw [hlg] at HLg
            clear hlg
            go_wp2_with (go_at_call 12; refine (HLg.out _).mono ?_; rintro e w4 ⟨rfl, hb4⟩
                         have HBO : Hid (But [] wr w4) := Lib.hid (((But.refl [] _).alloc _).below hb4 (by simp))
                         have hx0 := (hb4.cell (p := ⟨wr.heap.size, 0, none⟩) (by simp)).trans (show _ = some (.int .i64 x.kind) by rw [World.cell?_alloc_mark]; rfl)
                         have hx1 := (hb4.cell (p := ⟨wr.heap.size, 1, none⟩) (by simp)).trans (show _ = some (.int .i64 x.i) by rw [World.cell?_alloc_mark]; rfl)
                         have hx2 := (hb4.cell (p := ⟨wr.heap.size, 2, none⟩) (by simp)).trans (show _ = some (.slice x.aB x.m x.c) by rw [World.cell?_alloc_mark]; rfl)
                         have hx3 := (hb4.cell (p := ⟨wr.heap.size, 3, none⟩) (by simp)).trans (show _ = some (.slice x.aL x.k x.cL) by rw [World.cell?_alloc_mark]; rfl)
                         have HSz : Hid (wr.heap.size < w4.heap.size) := Lib.hid (by have := hb4.size; simp at this; omega)
                         clear hb4)
            all_goals have HD4 : Hid (DevAt w4 dB sB mB n d) := Lib.hid (HDv.out.but HBO.out (by simp) (by simp) (by simp))
            all_goals have HB4 : Hid (But [dB, sB, mB] w2 w4) := Lib.hid (HBw.out.trans (HBO.out.mono (by simp)))
            all_goals have HX4 := Lib.hid (HX.out.2.2.1.but HBO.out (by simp))
            all_goals have HS4 := Lib.hid (HSt.out.but HBO.out (by simp))
            all_goals have HF1 := Lib.hid (row_old HX.out.2.1.row (l := [dB]) (by have := HL.out; simp; omega))
            all_goals have HF2 := Lib.hid (krow_old HX.out.2.1.keep (l := [dB, sB, mB]) (by have := HL.out; simp; omega))
            all_goals
              first
                | (refine (barrier_any _ HD4.out).mono ?_
                   rintro e w5 ⟨rfl, hd5, hb5⟩
                   obtain ⟨f1, f2⟩ := free_barrier HF.out
                   have HD9 := Lib.hid (hd5.alloc (.map #[] 0))
                   have HB9 : Hid (But [dB, sB, mB] w2 (w5.alloc (.map #[] 0))) := Lib.hid ((HB4.out.trans hb5).alloc _)
                   have HF9 := Lib.hid f1
                   have HS9 : Hid (SetIs (w5.alloc (.map #[] 0)) w5.heap.size (fun k => ((M.barrierD d).P k).isSome)) := Lib.hid ((set_made w5).same (fun k => by rw [f2 k]; rfl))
                   have HSb9 : Hid (w2.heap.size ≤ w5.heap.size ∧ w5.heap.size ≠ dB ∧ w5.heap.size ≠ sB ∧ w5.heap.size ≠ mB) := Lib.hid ⟨(HB4.out.trans hb5).size, by have := hd5.ltD; omega, by have := hd5.lt; omega, by have := hd5.pend.lt; omega⟩
                   clear hd5 hb5 f1 f2
                   go_wp2_with fail
                   generalize w5.alloc (.map #[] 0) = w9 at *
                   generalize w5.heap.size = sb9 at *
                   generalize M.barrierD d = d9 at *)
                | (refine (crash_any _ HD4.out _ _ _ _ HX4.out.keep HF2.out).mono ?_
                   rintro e w5 ⟨rfl, hd5, hb5⟩
                   have HD9 := Lib.hid (hd5.alloc (.map #[] 0))
                   have HB9 : Hid (But [dB, sB, mB] w2 (w5.alloc (.map #[] 0))) := Lib.hid ((HB4.out.trans hb5).alloc _)
                   have HF9 : Hid (Free (M.crashD n d x.l)) := Lib.hid ⟨rfl, rfl⟩
                   have HS9 : Hid (SetIs (w5.alloc (.map #[] 0)) w5.heap.size (fun k => ((M.crashD n d x.l).P k).isSome)) := Lib.hid ((set_made w5).same (fun k => rfl))
                   have HSb9 : Hid (w2.heap.size ≤ w5.heap.size ∧ w5.heap.size ≠ dB ∧ w5.heap.size ≠ sB ∧ w5.heap.size ≠ mB) := Lib.hid ⟨(HB4.out.trans hb5).size, by have := hd5.ltD; omega, by have := hd5.lt; omega, by have := hd5.pend.lt; omega⟩
                   clear hd5 hb5
                   go_wp2_with fail
                   generalize w5.alloc (.map #[] 0) = w9 at *
                   generalize w5.heap.size = sb9 at *
                   generalize M.crashD n d x.l = d9 at *)
                | (refine (lose_any _ HD4.out).mono ?_
                   rintro e w5 ⟨rfl, hd5, hb5⟩
                   have HD9 := Lib.hid (hd5.alloc (.map #[] 0))
                   have HB9 : Hid (But [dB, sB, mB] w2 (w5.alloc (.map #[] 0))) := Lib.hid ((HB4.out.trans hb5).alloc _)
                   have HF9 : Hid (Free M.fresh) := Lib.hid ⟨rfl, rfl⟩
                   have HS9 : Hid (SetIs (w5.alloc (.map #[] 0)) w5.heap.size (fun k => (M.fresh.P k).isSome)) := Lib.hid ((set_made w5).same (fun k => rfl))
                   have HSb9 : Hid (w2.heap.size ≤ w5.heap.size ∧ w5.heap.size ≠ dB ∧ w5.heap.size ≠ sB ∧ w5.heap.size ≠ mB) := Lib.hid ⟨(HB4.out.trans hb5).size, by have := hd5.ltD; omega, by have := hd5.lt; omega, by have := hd5.pend.lt; omega⟩
                   clear hd5 hb5
                   go_wp2_with fail
                   generalize w5.alloc (.map #[] 0) = w9 at *
                   generalize w5.heap.size = sb9 at *
                   generalize M.fresh = d9 at *)
                | (refine (write_any _ HD4.out x.i HX4.out.i1 HX4.out.i2 _ _ _ x.b HX4.out.row HF1.out).mono ?_
                   rintro e w5 ⟨rfl, hd5, hb5⟩
                   have HZ : Hid (wr.heap.size ≠ dB ∧ wr.heap.size ≠ mB ∧ wr.heap.size ≠ sb) := Lib.hid ⟨by have := HDv.out.ltD; omega, by have := HDv.out.pend.lt; omega, by have := HSt.out.lt; omega⟩
                   have hx1 := (hb5.cell (b := wr.heap.size) (o := 1) HSz.out (by have := HZ.out; simp; omega)).trans hx1
                   have HD5 := Lib.hid hd5
                   have HB5 : Hid (But [dB, sB, mB] w2 w5) := Lib.hid (HB4.out.trans (hb5.mono (by simp)))
                   have HS5 := Lib.hid (HS4.out.but hb5 (by have := HSb.out; simp; omega))
                   clear hx0 hx2 hx3 hd5 hb5
                   obtain ⟨f1, f2⟩ := free_write HF.out n x.i x.b
                   have HF9 := Lib.hid f1
                   clear f1
                   rcases f2 with ⟨e0, hi, hP⟩ | ⟨e0, hP⟩
                   all_goals
                     first
                       | (rw [e0]
                          have HP := Lib.hid hP
                          have HI := Lib.hid hi
                          clear e0 hP hi
                          go_wp2_with (refine wpList_set_put rfl (.tmp 45) (.tmp 47) rfl sb rfl x.i rfl (F := fun k => (d.P k).isSome) HS5.out (fun k hk => by obtain ⟨s, hs⟩ := Option.isSome_iff_exists.1 hk; have := HDv.out.wf.pend k s hs; have := HN.out; omega) HX4.out.i1 HX4.out.i2 ?_
                                       intro w9 hs9 hb9
                                       have HD9 := Lib.hid (HD5.out.but hb9 (by have := HSb.out; simp; omega) (by have := HSb.out; simp; omega) (by have := HSb.out; simp; omega))
                                       have HB9 : Hid (But [dB, sB, mB] w2 w9) := Lib.hid (HB5.out.trans' hb9 HSb.out.1)
                                       have HS9 : Hid (SetIs w9 sb (fun k => ((M.writeD n d x.i x.b).P k).isSome)) := Lib.hid (hs9.same (fun k => (HP.out k).symm))
                                       clear hs9 hb9)
                          have HSb9 := Lib.hid HSb.out
                          generalize M.writeD n d x.i x.b = d9 at *
                          generalize sb = sb9 at *)
                       | (generalize M.writeE n d x.i x.b = e1 at e0 ⊢
                          have hne : (e1 == 0) = false := by simpa using e0
                          have HD9 := Lib.hid HD5.out
                          have HB9 := Lib.hid HB5.out
                          have HS9 : Hid (SetIs w5 sb (fun k => ((M.writeD n d x.i x.b).P k).isSome)) := Lib.hid (HS5.out.same (fun k => by rw [hP]))
                          have HSb9 := Lib.hid HSb.out
                          clear e0 hP
                          go_wp2_with fail
                          generalize w5 = w9 at *
                          generalize M.writeD n d x.i x.b = d9 at *
                          generalize sb = sb9 at *))
                | (have HD9 := Lib.hid HD4.out
                   have HB9 := Lib.hid HB4.out
                   have HF9 := Lib.hid HF.out
                   have HS9 := Lib.hid HS4.out
                   have HSb9 := Lib.hid HSb.out
                   generalize w4 = w9 at *
                   generalize sb = sb9 at *
                   generalize d = d9 at *)
            all_goals
              refine (pending_any _ HD9.out).mono ?_
              rintro e w10 ⟨v, rfl, hrow, hb10⟩
              obtain ⟨aP, cP, rfl, hr1, hab⟩ := own_row hrow (by simp [ints])
              have hbu := But.of_below hb10
              have hP : ∀ k s, d9.P k = some s → 0 ≤ k ∧ k < (n : Int) := fun k s hk => ⟨(HD9.out.wf.pend k s hk).1, (HD9.out.wf.pend k s hk).2.1⟩
              have HS10 := Lib.hid (HS9.out.but hbu (by simp))
              have hlenf : ∀ ty, (Builtin.len_ #[53] ty #[.map (some sb9)]).run Try.prog w10 = .ok (.int .i64 (M.pendL n d9.P).length) w10 := fun ty => set_len HS10.out hP ty
              have HM : Hid (∀ k, k ∈ M.pendL n d9.P → (d9.P k).isSome = true ∧ 0 ≤ k ∧ k < 512) := Lib.hid (fun k hk => by
                have h1 := (M.mem_pendL hP k).1 hk
                obtain ⟨s, hs⟩ := Option.isSome_iff_exists.1 h1
                have := hP k s hs
                have := HN.out
                exact ⟨h1, by omega, by omega⟩)
              have HRi := Lib.hid (M.pendL_rising n d9.P)
              have HLn : Hid ((M.pendL n d9.P).length ≤ 512) := Lib.hid (Nat.le_trans (M.pendL_len n d9.P) HN.out)
              have HD10 := Lib.hid (HD9.out.but hbu (by simp) (by simp) (by simp))
              have HB10 : Hid (But [dB, sB, mB] w2 w10) := Lib.hid (HB9.out.trans (hbu.mono (by simp)))
              have HR1 := Lib.hid hr1
              clear hrow hb10 hr1 hab hbu hP
              generalize M.pendL n d9.P = pl at *
              have hpl0 : (0 : Int) ≤ (pl.length : Int) := by omega
              go_wp2_with fail
              clear hlenf
              go_loopw [10, 74] (fun _ i wx => ∃ (j m : Nat), j ≤ pl.length ∧ i = .int .i64 j ∧ wx = w10.drewN m) (fun _ i _ => pl.length - (intOf i).toNat)
              case atStart => exact ⟨0, 0, by omega, rfl, rfl⟩
              case round =>
                obtain ⟨j, m, hj, rfl, rfl⟩ := hrel
                have hj0 : (0 : Int) ≤ (j : Int) := by omega
                have hj512 : (j : Int) ≤ 512 := by have := HLn.out; omega
                by_cases hje : j = pl.length
                · have hge : ¬ ((j : Int) < (pl.length : Int)) := by omega
                  clear hje
                  go_wp2_with fail
                  go_roundw
                  case rel => exact ⟨k + 1, sb9, d9, by omega, by omega, by go_num, rfl, HD10.out.drewN m, HB10.out.drewN m, HF9.out, HS10.out.of_block rfl, HSb9.out⟩
                  case measure => simp [intOf]; omega
                · have hlt : (j : Int) < (pl.length : Int) := by omega
                  have hjl : j < pl.length := by omega
                  obtain ⟨bP, oP, rfl, hcP⟩ : ∃ bP oP, aP = some ⟨bP, oP, none⟩ ∧ ∀ i q, pl[i]? = some q → w10.cell? ⟨bP, oP + i, none⟩ = some (.int .i64 q) := by
                    rcases HR1.out.2.2.2 with h0 | ⟨b, off, e, hb, hc⟩
                    · have : (ints pl).length = 0 := by rw [h0]; rfl
                      simp [ints] at this
                      rw [this] at hjl
                      simp at hjl
                    · refine ⟨b, off, e, fun i q hi => ?_⟩
                      have hil : i < pl.length := (List.getElem?_eq_some_iff.1 hi).1
                      rw [hc i hil]
                      simp [ints, hi]
                  obtain ⟨q, hq⟩ : ∃ q, pl[j]? = some q := ⟨pl[j], List.getElem?_eq_getElem hjl⟩
                  have hc1 := hcP j q hq
                  obtain ⟨hq1, hq2, hq3⟩ := HM.out q (List.mem_of_getElem? hq)
                  have hlk : ∀ m, (Instr.lookup 53 (.map (some sb9)) (.int .i64 q) false).run Try.prog (w10.drewN m) = .ok (.bool true) (w10.drewN m) := fun m => by
                    have := set_look (HS10.out.of_block (w' := w10.drewN m) rfl) (i := q) (by omega) (by omega)
                    rw [hq1] at this
                    exact this
                  have Hq := Lib.hid hq
                  clear hq hq1 hq2 hq3 hje
                  by_cases hz : j = 0
                  · have hd : decide ((0 : Int) < (j : Int)) = false := by simp; omega
                    have hd' : decide (0 < j) = false := by simp; omega
                    clear hz hcP
                    go_wp2_with fail
                    go_quiet (fail)
                    go_wp2_with fail
                    go_roundw
                    case rel => exact ⟨j + 1, _, by omega, by go_num, rfl⟩
                    case measure => simp [intOf]; omega
                  · obtain ⟨q', hq'⟩ : ∃ q', pl[j - 1]? = some q' := ⟨pl[j - 1], List.getElem?_eq_getElem (by omega)⟩
                    have hc2 := hcP (j - 1) q' hq'
                    have hqq : decide (q ≤ q') = false := by
                      have h1 : pl[j - 1] = q' := (List.getElem?_eq_some_iff.1 hq').2
                      have h2 : pl[j] = q := (List.getElem?_eq_some_iff.1 Hq.out).2
                      have h3 := List.pairwise_iff_getElem.1 HRi.out (j - 1) j (by omega) hjl (by omega)
                      rw [h1, h2] at h3
                      simp; omega
                    have hd : decide ((0 : Int) < (j : Int)) = true := by simp; omega
                    have hd' : decide (0 < j) = true := by simp; omega
                    have hj1 : (0 : Int) < (j : Int) := by omega
                    have hw1 : IntKind.i64.wrap ((j : Int) - 1) = (j : Int) - 1 := IntWalk.i64_in _ (by omega)
                    have hn1 : ((j : Int) - 1).toNat = j - 1 := by omega
                    have hn2 : (0 : Int) ≤ (j : Int) - 1 := by omega
                    have hn3 : (j : Int) - 1 < (pl.length : Int) := by omega
                    clear hz hcP hq'
                    go_wp2_with fail
                    go_quiet (fail)
                    clear hw1 hn1
                    go_wp2_with fail
                    go_roundw
                    case rel => exact ⟨j + 1, _, by omega, by go_num, rfl⟩
                    case measure => simp [intOf]; omega

set_option maxRecDepth 100000 in
theorem lifted (os : Os) (started : os.Started) (H : Type) (enc : TypeId × Value → H) :
    ReturnsInHanded {} Try.checked os 8 .any (Rows.sectorPendingSpec.pre6 enc Try.prog Try.f8 Rows.sectorPendingRow.domain false) (Rows.sectorPendingSpec.post enc Try.prog Try.f8 false true false false) := by
  refine returnsInHanded_of_change (C := Try.checked) own started (by kernel_rfl) Try.func8
    (ChangeSpec.witness6 (enc := enc) (C := Try.checked) false ⟨#[], #[.int .i64 0, .slice none 0 0], []⟩ 8 (by kernel_rfl) (by kernel_rfl) (by kernel_rfl) (by kernel_rfl)) ?_
  intro W base args ds gs before hval0 hW hcnd _
  have hval : ∀ (j : Nat) t v, Try.f8.params[j]? = some t → args[j]? = some v → Value.okWide Try.prog W .any base t v := hval0
  have hW' := hW
  obtain ⟨p, q, hA0, hV, rfl, hfz, hnd⟩ := hW
  have hA : DataW.TrodAll enc Try.prog W 0 (fun _ => true) true Try.f8.params.toList args.toList ds p := hA0
  rw [Try.params8] at hA hval
  obtain ⟨v0, vs0, d0, ds0, p0, q0, hargs, rfl, rfl, h0, r0'⟩ := trodAll_cons hA
  obtain ⟨v1, vs1, d1, ds1, p1, q1, rfl, rfl, rfl, h1, r1'⟩ := trodAll_cons r0'
  obtain ⟨rfl, rfl, rfl⟩ := trodAll_nil r1'
  obtain rfl : args = #[v0, v1] := by cases args; simp_all
  obtain ⟨rfl, rfl⟩ := trodVars_none hV
  obtain ⟨x0, rfl, rfl, rfl, w0⟩ := open_int Try.underlying3 (hval 0 3 v0 rfl rfl) h0
  have k1 := h1
  have lt1 : ∀ x ∈ p1, x.block < W.heap.size := by obtain ⟨m, hm⟩ := k1; exact DataW.trod_lt m _ _ _ hm
  obtain ⟨a1, n1, c1, l1, rfl, w1⟩ := open_lot h1 (okWide_slice Try.underlying22 (hval 1 22 v1 rfl rfl))
  clear hA0 hval0
  refine (walk x0 a1 n1 c1 l1 W w0 w1).mono fun e W' ⟨he, bel⟩ => ?_
  subst he
  exact ⟨_, rfl, _, _, _, [], _, [], hW', trodAll_mk1 (shut_bool Try.underlying4 _), (trodAll_cons_mk (shut_int Try.underlying3 w0) (trodAll_cons_mk (Below.trod laidOut (by kernel_rfl) (of_decide_eq_true (by kernel_rfl)) k1 bel lt1) trodAll_mk0)), rfl, bel.frame _, fun h => by cases h⟩

theorem over : Rows.sectorPendingRow.holds Try.pinned (OpenSpec.ofChange Rows.sectorPendingSpec) :=
  OpenClaim.holds_of_wide 8 Try.f8 rfl rfl rfl rfl rfl rfl rfl ⟨rfl, rfl, rfl, rfl, rfl⟩ rfl rfl rfl rfl rfl (by kernel_rfl) Try.func8 (by kernel_rfl)
    (of_decide_eq_true (by kernel_rfl)) (by unfold Func.isWrapper; first | (rw [if_pos (by decide +kernel)]; kernel_rfl) | (rw [if_neg (by decide +kernel)]; exact ⟨rfl, rfl⟩))
    (fun os started H enc _ => lifted os started H enc)

/-- the statement -/
theorem proved : Rows.SectorPendingSaid := over
#print axioms proved
end Go.Proofs.Ytbcblcnnffdjdaa.sectorPending
