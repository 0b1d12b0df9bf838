/-
  CacheAnew: the walk.
-/
import Derived.Test.YtmcalgnpinolmaaGreatQG
import Derived.Deep.DeepCutAuto
namespace Go.Proofs.YtmcalgnpinolmaaGreat
open Go.RowKit Go.Maps
set_option linter.unusedVariables false
set_option linter.unusedSimpArgs false
set_option maxRecDepth 20000
namespace Q
variable {w0 : World} {B : Bk} {G : Gm} {V V' : Vi} {K K' : Int}

/-- a device on which such a cache is found -/
def Dm (w : World) (dB sB mB : Nat) (G : Gm) (V : Vi) (K : Int) : Prop := ∃ s : St, DevAt w dB sB mB G.n s.d ∧ Free s.d ∧ M.Good (M.seen s.d) s.K G.first G.N G.a G.b s.c s.L ∧ Geo G.n G.first G.N G.a G.b ∧ Hold G.nb G.N s.L s.E s.k ∧ vis s.E = V.e ∧ s.k = V.k ∧ s.K ≤ K ∧ s.L.rs.length ≤ G.N - 2
theorem Cs.dm {w : World} (h : Cs w B G V K) : Dm w B.dB B.sB B.mB G V K := by
  obtain ⟨s, h1, h2, h3, h4, h5⟩ := h
  exact ⟨s, h1.dv, h1.fr, h1.lg.gd, h1.lg.geo, h1.hd, h2, h3, h4, h5⟩
theorem Cs.sep {w : World} (h : Cs w B G V K) : Sep B := by obtain ⟨s, h1, _⟩ := h; exact h1.sp
theorem Dm.below {w w' : World} {dB sB mB : Nat} (h : Dm w dB sB mB G V K) (hb : Below w.heap.size w w') : Dm w' dB sB mB G V K := by
  obtain ⟨s, h1, h2⟩ := h
  exact ⟨s, h1.but (But.of_below hb) (by simp) (by simp) (by simp), h2⟩
theorem Dm.open {w : World} {dB sB mB : Nat} (h : Dm w dB sB mB G V K) (hK : K ≤ 900000000) (hnb1 : 1 ≤ G.nb) {x1 x2 x3 x4 x5 : Int} (e1 : x1 = (G.first : Int)) (e2 : x2 = (G.N : Int)) (e3 : x3 = (G.a : Int)) (e4 : x4 = (G.b : Int)) (e5 : x5 = (G.nb : Int)) :
    Calls Tryz.prog 17 #[.pointer (some ⟨dB, 0, none⟩), .int .i64 x1, .int .i64 x2, .int .i64 x3, .int .i64 x4, .int .i64 x5] w fun e w' => ∃ B2 : Bk, e = .returned (.tuple #[.pointer (some ⟨B2.qB, 0, none⟩), .int .i64 0]) ∧ Cs w' B2 G V (K + 1) ∧ Dm w' dB sB mB G V (K + 1) ∧ But [dB, sB, mB] w w' := by
  obtain ⟨s, h1, h2, h3, h4, h5, h6, h7, h8, h9⟩ := h
  refine (open_cs (V := V) (K' := K + 1) w h1 h2 h3 h4 h5 (by omega) (by omega) hnb1 h6 h7 h9 e1 e2 e3 e4 e5).mono ?_
  rintro e w' ⟨B2, rfl, rfl, rfl, rfl, g1, _, g2⟩
  exact ⟨B2, rfl, g1, g1.dm, g2⟩
theorem Ct.told {w : World} (h : Ct w B G V) {q : Nat} (hq : B.qB = q) : Calls Tryz.prog 13 #[.pointer (some ⟨q, 0, none⟩)] w fun e w' => ∃ a cap, e = .returned (.agg #[.slice a (num G.nb V.e) cap, .int .i64 V.k.ep, .int .i64 V.k.sq, .int .i64 V.k.t0, .int .i64 V.k.t1, .int .i64 V.k.t2, .int .i64 V.k.t3]) ∧ OwnE w.heap.size w' a cap (allV G.nb V.e) ∧ Below w.heap.size w w' := by
  subst hq; exact told_ct w h

set_option maxHeartbeats 8000000 in
theorem anew_any (x0 : Int) (a : Option Addr) (n c : Nat) (l : List Ac) (x2 : Int) (w : World) (f0 : (Lit.int .u8 x0).wf = true) (hA : Acts9 w a n c l) (f2 : (Lit.int .u8 x2).wf = true) :
    Calls Tryz.prog 6 #[.int .u8 x0, .slice a n c, .int .u8 x2] w fun e w' => e = .returned (.bool true) ∧ Below w.heap.size w w' := by
  have HA := Lib.hid (awake_any w)
  have HLO := Lib.hid (fun w1 hb => law_open w w1 hb x0 f0)
  have HW := Lib.hid hA
  have hnI : (n : Int) ≤ 9223372036854775807 := by have := hA.2.1; have := hA.2.2.1; unfold maxLen at this; omega
  obtain ⟨r6, hr6, hrm⟩ := u8_mod x2 6 (by decide) f2 (kI := 6) rfl
  have hr6I : (r6 : Int) < 6 := by omega
  have hr60 : (0 : Int) ≤ (r6 : Int) := by omega
  clear f0 hA f2 hr6
  go_enter Tryz.func6, Tryz.ntmps6
  go_wp2_with (first
    | (go_at_call 11; with_reducible refine HA.out.mono ?_; rintro e w1 ⟨rfl, hb1⟩; have HLO1 := Lib.hid (HLO.out w1 hb1); clear hb1)
    | (go_at_call 12; with_reducible refine HLO1.out.mono ?_; rintro e w2 ⟨B, N, h8, h37, hx, rfl, hR, _, _⟩
       have hNI : (N : Int) ≤ 37 := by omega
       have hN0 : (0 : Int) ≤ (N : Int) := by omega
       obtain ⟨G, hG⟩ : ∃ G : Gm, G = ⟨N + 2, 2, N, 0, 1, 32⟩ := ⟨_, rfl⟩
       rw [← hG] at hR
       have HR := Lib.hid hR
       have HGe : Hid ((2 : Int) = (G.first : Int) ∧ (N : Int) = (G.N : Int) ∧ (0 : Int) = (G.a : Int) ∧ (1 : Int) = (G.b : Int) ∧ (32 : Int) = (G.nb : Int) ∧ 1 ≤ G.nb) := Lib.hid (by subst hG; exact ⟨rfl, rfl, rfl, rfl, rfl, by simp⟩)
       clear h8 h37 hx hR hG))
  clear HLO HLO1 HA
  go_loopw [10] (fun i wr => ∃ (k : Nat) (B1 : Bk) (V : Vi), k ≤ n ∧ k ≤ 60 ∧ i = .int .i64 k ∧ B1.qB = B.qB ∧ B1.dB = B.dB ∧ Rq w wr B1 G V (2 + 2002 * (k : Int))) (fun i _ => 60 - (RowKit.intOf i).toNat)
  case atStart => exact ⟨0, B, _, by omega, by omega, rfl, rfl, rfl, HR.out.mono (by simp)⟩
  case round =>
    obtain ⟨k, B1, V, hkn, hk6, rfl, hq, hqd, hRq⟩ := hrel
    have HR1 := Lib.hid hRq
    have HQ := Lib.hid hq
    have HQd := Lib.hid hqd
    have hk0 : (0 : Int) ≤ (k : Int) := by omega
    have hways : (¬ (k : Int) < (n : Int) ∨ ((k : Int) < (n : Int) ∧ ¬ (k : Int) < 60)) ∨ ((k : Int) < (n : Int) ∧ (k : Int) < 60) := by omega
    clear hRq hq HR hqd
    rcases hways with hend | ⟨hlt, hlt6⟩
    · have hdm := HR1.out.cs.dm
      rw [HQd.out] at hdm
      have HDm : Hid (Dm wr B.dB B1.sB B1.mB G V (2 + 2002 * 60)) := Lib.hid (by
        obtain ⟨s, h1, h2, h3, h4, h5, h6, h7, h8, h9⟩ := hdm
        exact ⟨s, h1, h2, h3, h4, h5, h6, h7, by omega, h9⟩)
      have HCt := Lib.hid HR1.out.cs.ct
      have HOd : Hid ((∀ y ∈ [B.dB, B1.sB, B1.mB], w.heap.size ≤ y) ∧ B1.qB ∉ [B.dB, B1.sB, B1.mB] ∧ B1.mE ∉ [B.dB, B1.sB, B1.mB]) := Lib.hid (by
        have h1 := HR1.out.od
        have h2 := HR1.out.cs.sep.q
        have h3 := HR1.out.cs.sep.m
        simp only [Bk.l, List.mem_cons, List.not_mem_nil, or_false, forall_eq_or_imp, forall_eq] at h1
        rw [HQd.out] at h1 h2 h3
        refine ⟨by simp; omega, by simp; omega, by simp; omega⟩)
      have HBe := Lib.hid HR1.out.be
      clear hdm hkn hk6
      rcases hend with hend | ⟨hend, hend6⟩
      all_goals
        go_wp2_with fail
        go_loopw [11] (fun i wz => ∃ j : Nat, j ≤ 6 ∧ i = .int .i64 j ∧ Dm wz B.dB B1.sB B1.mB G V (2 + 2002 * 60 + (j : Int)) ∧ Ct wz B1 G V ∧ Below w.heap.size w wz) (fun i _ => 7 - (RowKit.intOf i).toNat)
        case atStart => exact ⟨0, by omega, rfl, by simpa using HDm.out, HCt.out, HBe.out⟩
        case round =>
          obtain ⟨j, hj, rfl, hdm, hct, hbe⟩ := hrel
          have HDj := Lib.hid hdm
          have HCj := Lib.hid hct
          have HBj := Lib.hid hbe
          have Hj := Lib.hid hj
          have hj0 : (0 : Int) ≤ (j : Int) := by omega
          have hjI : (j : Int) ≤ 6 := by omega
          clear hdm hct hbe hj
          by_cases hjr : (j : Int) < (r6 : Int) + 1
          · have HOp := Lib.hid (HDj.out.open (by omega) HGe.out.2.2.2.2.2 HGe.out.1 HGe.out.2.1 HGe.out.2.2.1 HGe.out.2.2.2.1 HGe.out.2.2.2.2.1)
            have Hjr := Lib.hid hjr
            go_wp2_with (first
              | (go_at_call 17; with_reducible refine HOp.out.mono ?_; rintro e w4 ⟨B2, rfl, h1, h2, h3⟩
                 have HT2 := Lib.hid (h1.ct.told (q := B2.qB) rfl)
                 have HD4 := Lib.hid h2
                 have HC4 := Lib.hid (HCj.out.but h3 HOd.out.2.1 HOd.out.2.2)
                 have HB4 := Lib.hid (HBj.out.trans (h3.to_below HOd.out.1 HBj.out.size))
                 clear h1 h2 h3)
              | (go_at_call 13; with_reducible refine HT2.out.mono ?_; rintro e w5 ⟨aT, cT, rfl, ho, hb5⟩
                 have HD5 := Lib.hid (HD4.out.below hb5)
                 have HC5 := Lib.hid (HC4.out.below hb5)
                 have HB5 := Lib.hid (HB4.out.trans (hb5.mono HB4.out.size))
                 have HO5 := Lib.hid ho
                 have HT5 := Lib.hid (HC5.out.told (q := B.qB) HQ.out)
                 clear ho hb5)
              | (go_at_call 13; with_reducible refine HT5.out.mono ?_; rintro e w6 ⟨aU, cU, rfl, ho, hb6⟩
                 have HD6 := Lib.hid (HD5.out.below hb6)
                 have HC6 := Lib.hid (HC5.out.below hb6)
                 have HB6 := Lib.hid (HB5.out.trans (hb6.mono HB5.out.size))
                 have hal := alike_q w6 aT aU (num G.nb V.e) cT cU _ _ (allV G.nb V.e) V.k (allV_len _ _) (HO5.out.but (But.of_below hb6) (by simp)) ho
                 unfold toldV at hal
                 have HAl := Lib.hid hal
                 clear ho hb6 hal)
              | (go_at_call 18; with_reducible refine HAl.out.mono ?_; rintro e w7 ⟨rfl, hb7⟩
                 have HD7 := Lib.hid (HD6.out.below hb7)
                 have HC7 := Lib.hid (HC6.out.below hb7)
                 have HB7 := Lib.hid (HB6.out.trans (hb7.mono HB6.out.size))
                 clear hb7))
            go_roundw
            case rel => exact ⟨j + 1, by have := Hjr.out; omega, by go_num, by have := HD7.out; rw [show (2 + 2002 * 60 + ((j + 1 : Nat) : Int) : Int) = 2 + 2002 * 60 + (j : Int) + 1 from by omega]; exact this, HC7.out, HB7.out⟩
            case measure => have := Hj.out; simp [RowKit.intOf]; omega
          · go_wp2_with fail
            go_ret
            exact ⟨rfl, HBj.out⟩
    · obtain ⟨b, off, x, rfl, hx, hok0, hok, hxa, hbl⟩ := acts9_at HW.out HR1.out.be (show k < n by omega)
      have HKn : Hid (k < n ∧ k < 60) := Lib.hid ⟨by omega, by omega⟩
      have HX := Lib.hid hxa
      have HOk := Lib.hid hok
      obtain ⟨x0', x1', x2', x3', x4', x5', x6', x7', x8', x9', x10', x11'⟩ := hxa
      have HLg := Lib.hid (fun w' => Ac.large w' x)
      clear hx hok0 hok hbl hkn hk6
      generalize decide (Lrg x.e x.nT x.s x.nL) = lg at *
      cases lg with
      | true =>
        go_wp2_with (go_at_call 14; with_reducible refine (HLg.out _).mono ?_; rintro e w4 ⟨rfl, hb4⟩; have HB4 := Lib.hid hb4; clear hb4)
        go_ret
        exact ⟨rfl, (HR1.out.below HB4.out).be⟩
      | false =>
        go_wp2_with (first
          | (go_at_call 14; with_reducible refine (HLg.out _).mono ?_; rintro e w4 ⟨rfl, hb4⟩
             have HB4 := Lib.hid hb4
             have HR4 := Lib.hid (HR1.out.below hb4)
             obtain ⟨y0, y1, y2, y3, y4, y5, y6, y7, y8, y9, y10, y11⟩ := HX.out.below hb4
             have HAc := Lib.hid (HR4.out.act HQ.out (by have := HKn.out; omega) x (HOk.out.below hb4))
             clear hb4)
          | (go_at_call 22; with_reducible refine HAc.out.mono ?_; rintro e w5 ⟨rfl, r5, hR5, _, _⟩
             have HR5 := Lib.hid hR5
             clear hR5))
        go_roundw
        case rel => exact ⟨k + 1, B1.row r5, _, by have := HKn.out; omega, by have := HKn.out; omega, by go_num, HQ.out, HQd.out, HR5.out.mono (by omega)⟩
        case measure => have := HKn.out; simp [RowKit.intOf]; omega
end Q
end Go.Proofs.YtmcalgnpinolmaaGreat
