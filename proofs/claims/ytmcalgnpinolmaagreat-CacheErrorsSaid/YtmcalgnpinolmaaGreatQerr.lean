/-
  CacheErrors: the walk.
-/
import Derived.Test.YtmcalgnpinolmaaGreatQG
import Derived.Deep.DeepCutAuto
namespace Go.Proofs.YtmcalgnpinolmaaGreat
open Go.RowKit Go.Maps
set_option linter.unusedVariables false
set_option linter.unusedSimpArgs false
set_option maxRecDepth 20000
namespace Q
variable {w0 : World} {B : Bk} {G : Gm} {V V' : Vi} {K K' : Int}

set_option maxHeartbeats 8000000 in
theorem errors_any (x0 : Int) (a : Option Addr) (n c : Nat) (l : List Ac) (w : World) (f0 : (Lit.int .u8 x0).wf = true) (hA : Acts9 w a n c l) :
    Calls Tryz.prog 5 #[.int .u8 x0, .slice a n c] w fun e w' => e = .returned (.bool true) ∧ Below w.heap.size w w' := by
  have HA := Lib.hid (awake_any w)
  have HLO := Lib.hid (fun w1 hb => law_open w w1 hb x0 f0)
  have HW := Lib.hid hA
  have hnI : (n : Int) ≤ 9223372036854775807 := by have := hA.2.1; have := hA.2.2.1; unfold maxLen at this; omega
  clear f0 hA
  go_enter Tryz.func5, Tryz.ntmps5
  go_wp2_with (first
    | (go_at_call 11; with_reducible refine HA.out.mono ?_; rintro e w1 ⟨rfl, hb1⟩; have HLO1 := Lib.hid (HLO.out w1 hb1); clear hb1)
    | (go_at_call 12; with_reducible refine HLO1.out.mono ?_; rintro e w2 ⟨B, N, h8, h37, hx, rfl, hR, _, _⟩
       obtain ⟨G, hG⟩ : ∃ G : Gm, G = ⟨N + 2, 2, N, 0, 1, 32⟩ := ⟨_, rfl⟩
       rw [← hG] at hR
       have HR := Lib.hid hR
       clear h8 h37 hx hR hG))
  clear HLO HLO1 HA
  go_loopw [8] (fun i wr => ∃ (k : Nat) (B1 : Bk) (V : Vi), k ≤ n ∧ k ≤ 60 ∧ i = .int .i64 k ∧ B1.qB = B.qB ∧ Rq w wr B1 G V (2 + 2002 * (k : Int))) (fun i _ => 60 - (RowKit.intOf i).toNat)
  case atStart => exact ⟨0, B, _, by omega, by omega, rfl, rfl, HR.out.mono (by simp)⟩
  case round =>
    obtain ⟨k, B1, V, hkn, hk6, rfl, hq, hRq⟩ := hrel
    have HR1 := Lib.hid hRq
    have HQ := Lib.hid hq
    have hk0 : (0 : Int) ≤ (k : Int) := by omega
    clear hRq hq HR
    by_cases hend : k = n
    · have hge : ¬ ((k : Int) < (n : Int)) := by omega
      clear hend hkn hk6
      go_wp2_with fail
      go_ret
      exact ⟨rfl, HR1.out.be⟩
    have hlt : (k : Int) < (n : Int) := by omega
    by_cases h60 : k = 60
    · have hge : ¬ ((k : Int) < 60) := by omega
      clear hend hkn hk6 h60
      go_wp2_with fail
      go_ret
      exact ⟨rfl, HR1.out.be⟩
    have hlt6 : (k : Int) < 60 := by omega
    obtain ⟨b, off, x, rfl, hx, hok0, hok, hxa, hbl⟩ := acts9_at HW.out HR1.out.be (show k < n by omega)
    have HKn : Hid (k < n ∧ k < 60) := Lib.hid ⟨by omega, by omega⟩
    have HX := Lib.hid hxa
    have HOk := Lib.hid hok
    obtain ⟨x0', x1', x2', x3', x4', x5', x6', x7', x8', x9', x10', x11'⟩ := hxa
    have HXn := Lib.hid (XAt.new wr x)
    have HLg := Lib.hid (fun w' => Ac.large w' x)
    clear hx hok0 hok hbl hend h60 hkn hk6
    have hbx := (Below.refl wr.heap.size wr).alloc (Nat.le_refl _) (.cells #[.int .i64 x.kind, .int .i64 x.n, .int .i64 x.e.b, .int .i64 x.e.ep, .int .i64 x.e.sq, .string x.e.data, .bool x.e.dirty, .int .i64 x.e.cl, .int .i64 x.e.n, .slice x.aT x.nT x.cT, .string x.s, .slice x.aL x.nL x.cL] 41)
    have HBx := Lib.hid hbx
    clear hbx
    generalize decide (Lrg x.e x.nT x.s x.nL) = lg at *
    cases lg with
    | true =>
      go_wp2_with (go_at_call 14; with_reducible refine (HLg.out _).mono ?_; rintro e w4 ⟨rfl, hb4⟩; have HB4 := Lib.hid (HBx.out.trans (hb4.mono HBx.out.size)); clear hb4)
      go_ret
      exact ⟨rfl, (HR1.out.below HB4.out).be⟩
    | false =>
      obtain ⟨ev, hev⟩ : ∃ ev, doE G.nb G.N V x.kind x.e x.t = ev := ⟨_, rfl⟩
      have HEv := Lib.hid hev
      by_cases hz : ev = 0
      · subst hz
        go_wp2_with (first
          | (go_at_call 14; with_reducible refine (HLg.out _).mono ?_; rintro e w4 ⟨rfl, hb4⟩
             have HB4 := Lib.hid (HBx.out.trans (hb4.mono HBx.out.size))
             have HX4 := Lib.hid (HXn.out.below hb4)
             have HR4 := Lib.hid (HR1.out.below HB4.out)
             have HT := Lib.hid (HR4.out.told HQ.out)
             clear hb4)
          | (go_at_call 13; with_reducible refine HT.out.mono ?_; rintro e w5 ⟨aT, cT, rfl, ho, hb5⟩
             have hb6 := hb5.trans ((Below.refl w5.heap.size w5).alloc (Nat.le_refl _) (.cells #[.slice aT (num G.nb V.e) cT, .int .i64 V.k.ep, .int .i64 V.k.sq, .int .i64 V.k.t0, .int .i64 V.k.t1, .int .i64 V.k.t2, .int .i64 V.k.t3] 33) |>.mono hb5.size)
             have HR6 := Lib.hid (HR4.out.below hb6)
             obtain ⟨y0, y1, y2, y3, y4, y5, y6, y7, y8, y9, y10, y11⟩ := HX4.out.below hb6
             have hac := HR6.out.act HQ.out (by have := HKn.out; omega) x ((HOk.out.below HB4.out).below hb6)
             rw [HEv.out] at hac
             have HAc := Lib.hid hac
             clear ho hb5 hb6 hac)
          | (go_at_call 22; with_reducible refine HAc.out.mono ?_; rintro e w7 ⟨rfl, r7, hR7, _, _⟩
             have HR7 := Lib.hid hR7
             clear hR7))
        go_quiet (fail)
        go_wp2_with fail
        go_roundw
        case rel => exact ⟨k + 1, B1.row r7, _, by have := HKn.out; omega, by have := HKn.out; omega, by go_num, HQ.out, (HR7.out.below (below_drewN _ _ _)).mono (by omega)⟩
        case measure => have := HKn.out; simp [RowKit.intOf]; omega
      · have hno := doE_no (show doE G.nb G.N V x.kind x.e x.t ≠ 0 from by rw [hev]; exact hz)
        have hin := doE_in G.nb G.N V x.kind x.e x.t
        rw [hev] at hin
        have hin' : ev = 1 ∨ ev = 2 ∨ ev = 3 ∨ ev = 10 ∨ ev = 12 := by omega
        have HNo := Lib.hid hno
        clear hev hz hin hno
        rcases hin' with rfl | rfl | rfl | rfl | rfl
        all_goals
          go_wp2_with (first
            | (go_at_call 14; with_reducible refine (HLg.out _).mono ?_; rintro e w4 ⟨rfl, hb4⟩
               have HB4 := Lib.hid (HBx.out.trans (hb4.mono HBx.out.size))
               have HX4 := Lib.hid (HXn.out.below hb4)
               have HR4 := Lib.hid (HR1.out.below HB4.out)
               have HT := Lib.hid (HR4.out.told HQ.out)
               clear hb4)
            | (go_at_call 13; with_reducible refine HT.out.mono ?_; rintro e w5 ⟨aT, cT, rfl, ho, hb5⟩
               have hba := (Below.refl w5.heap.size w5).alloc (Nat.le_refl _) (.cells #[.slice aT (num G.nb V.e) cT, .int .i64 V.k.ep, .int .i64 V.k.sq, .int .i64 V.k.t0, .int .i64 V.k.t1, .int .i64 V.k.t2, .int .i64 V.k.t3] 33)
               have hb6 := hb5.trans (hba.mono hb5.size)
               have HR6 := Lib.hid (HR4.out.below hb6)
               have HP6 : Hid (w4.heap.size ≤ w5.heap.size) := Lib.hid hb5.size
               have HTd6 := Lib.hid (Told.new w5 aT (num G.nb V.e) cT V.k)
               have HO6 := Lib.hid (ho.but (But.of_below hba) (by simp))
               obtain ⟨y0, y1, y2, y3, y4, y5, y6, y7, y8, y9, y10, y11⟩ := HX4.out.below hb6
               have hac := HR6.out.act HQ.out (by have := HKn.out; omega) x ((HOk.out.below HB4.out).below hb6)
               rw [HEv.out, HNo.out] at hac
               have HAc := Lib.hid hac
               clear ho hb5 hb6 hba hac)
            | (go_at_call 22; with_reducible refine HAc.out.mono ?_; rintro e w7 ⟨rfl, r7, hR7, hbu7, _⟩
               have HR7 := Lib.hid (hR7.below (Below.refl _ _).drew)
               have HTd7 := Lib.hid ((HTd6.out.but hbu7 (HR4.out.out HP6.out)).below (Below.refl _ _).drew)
               have HO7 := Lib.hid ((HO6.out.but hbu7 (fun g hg => HR4.out.out (HO6.out.lt hg).1)).but (But.of_below (Below.refl w7.heap.size w7).drew) (by simp))
               have HT2 := Lib.hid ((HR7.out).told (q := B.qB) HQ.out)
               clear hR7 hbu7))
          obtain ⟨c0, c1, c2, c3, c4, c5, c6, _⟩ := HTd7.out.at
          have HS1 := Lib.hid (And.intro c0 (And.intro c1 (And.intro c2 (And.intro c3 (And.intro c4 (And.intro c5 c6))))))
          clear c0 c1 c2 c3 c4 c5 c6
          go_region_held3 (fun w' => w'.cell? ⟨w5.heap.size, 0, none⟩ = some (.slice aT (num G.nb V.e) cT) ∧ w'.cell? ⟨w5.heap.size, 1, none⟩ = some (.int .i64 V.k.ep) ∧ w'.cell? ⟨w5.heap.size, 2, none⟩ = some (.int .i64 V.k.sq) ∧ w'.cell? ⟨w5.heap.size, 3, none⟩ = some (.int .i64 V.k.t0) ∧ w'.cell? ⟨w5.heap.size, 4, none⟩ = some (.int .i64 V.k.t1) ∧ w'.cell? ⟨w5.heap.size, 5, none⟩ = some (.int .i64 V.k.t2) ∧ w'.cell? ⟨w5.heap.size, 6, none⟩ = some (.int .i64 V.k.t3))
            (first
              | exact HS1.out
              | exact HS2.out
              | exact HS3.out)
            (first
              | (go_at_call 13; with_reducible refine HT2.out.mono ?_; rintro e w8 ⟨aU, cU, rfl, ho, hb8⟩
                 have HR8 := Lib.hid (HR7.out.below hb8)
                 obtain ⟨d0, d1, d2, d3, d4, d5, d6, _⟩ := (HTd7.out.below hb8).at
                 have HS2 := Lib.hid (And.intro d0 (And.intro d1 (And.intro d2 (And.intro d3 (And.intro d4 (And.intro d5 d6))))))
                 have HTd8 := Lib.hid (HTd7.out.below hb8)
                 have hal := alike_q w8 aU aT (num G.nb V.e) cU cT _ _ (allV G.nb V.e) V.k (allV_len _ _) ho (HO7.out.but (But.of_below hb8) (by simp))
                 unfold toldV at hal
                 have HAl := Lib.hid hal
                 clear ho hb8 hal d0 d1 d2 d3 d4 d5 d6)
              | (go_at_call 18; with_reducible refine HAl.out.mono ?_; rintro e w9 ⟨rfl, hb9⟩
                 have HR9 := Lib.hid (HR8.out.below hb9)
                 obtain ⟨d0, d1, d2, d3, d4, d5, d6, _⟩ := (HTd8.out.below hb9).at
                 have HS3 := Lib.hid (And.intro d0 (And.intro d1 (And.intro d2 (And.intro d3 (And.intro d4 (And.intro d5 d6))))))
                 clear hb9 d0 d1 d2 d3 d4 d5 d6))
          go_wp2_with fail
          go_roundw
          case rel => exact ⟨k + 1, B1.row r7, _, by have := HKn.out; omega, by have := HKn.out; omega, by go_num, HQ.out, HR9.out.mono (by omega)⟩
          case measure => have := HKn.out; simp [RowKit.intOf]; omega
end Q
end Go.Proofs.YtmcalgnpinolmaaGreat
