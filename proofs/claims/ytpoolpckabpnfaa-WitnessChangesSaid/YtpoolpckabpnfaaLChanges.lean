/-
  PROVED: of changes in one epoch the one with the greatest number counts, in whatever order they come, and however often. CONDITIONS: none (any masks, of which up to 50 are asked for; any order, of which up to 200 are done).
-/
import Derived.Test.YtpoolpckabpnfaaWtChg
import Derived.BigQuiet
import Derived.Deep.RegionHeld3
import Derived.Deep.DeepCutAuto
namespace Go.Proofs.Ytpoolpckabpnfaa.witnessChanges
open Go.ChangeShapes Go.WideShapes Go.ChangeAt Go.RowKit Go.Joins
open Go.ChangeMaps (open_string shut_string)
set_option linter.unusedVariables false
set_option linter.unusedSimpArgs false
set_option maxRecDepth 20000

open Wt
open Ml (Mg may msgV MB)

set_option maxHeartbeats 4000000 in
theorem walk (a0 : Option Addr) (n0 c0 : Nat) (l0 : List Bool) (a1 : Option Addr) (n1 c1 : Nat) (l1 : List UInt8) (w : World) (w0 : Row w a0 n0 c0 (l0.map Value.bool)) (w1 : Row w a1 n1 c1 (u8s l1)) :
    Calls Try.prog 6 #[.slice a0 n0 c0, .slice a1 n1 c1] w fun e w' => e = .returned (.bool true) ∧ Below w.heap.size w w' := by
  have HA := Lib.hid (awake_any w)
  have HB := Lib.hid (fun (wv : World) (hv : Below w.heap.size w wv) => begin_any w wv hv (x := 0) (by omega) (W := 1) (by decide))
  have HR0 := Lib.hid w0
  have HR1 := Lib.hid w1
  have hcap1 : n1 ≤ 9223372036854775807 := by have := w1.2.1; have := w1.2.2.1; simp only [maxLen] at this; omega
  have hcap0 : n0 ≤ 9223372036854775807 := by have := w0.2.1; have := w0.2.2.1; simp only [maxLen] at this; omega
  clear w0 w1
  go_enter Try.func6, Try.ntmps6
  go_wp2_with (first
    | (go_at_call 8; with_reducible refine HA.out.mono ?_; rintro e w1 ⟨rfl, hb1⟩
       have HB1 := Lib.hid hb1
       clear hb1)
    | (go_at_call 9; with_reducible refine (HB.out _ HB1.out).mono ?_; rintro e w2 ⟨gB, pB, dB, sB, mB, tB0, cB0, rfl, hl, hge⟩
       have HGe := Lib.hid hge
       have HL0 := Lib.hid hl.lb
       have q1 := hl.lf.cell 1
       have q2 := hl.lf.cell 2
       simp only [lfC, List.getElem?_toArray, List.getElem?_cons_zero, List.getElem?_cons_succ] at q1 q2
       clear hl hge))
  clear HA HB HB1 q1 q2
  have HTk := Lib.hid (fun (w' : World) (d : M.Dv) (c : M.Cl) (L : Int) (h : WS w' dB sB mB 2 d tB0 cB0 0 1 c L 1) => tick_any h)
  go_loopw [6] (fun iv wr => ∃ L : Int, ((iv = .int .i64 0 ∧ L = 1) ∨ (iv = .int .i64 1 ∧ L = 0)) ∧ LB w wr gB pB dB sB mB M.fresh tB0 cB0 M.none0 L 1 0 (fun _ => none)) (fun iv _ => 1 - (intOf iv).toNat)
  case atStart => exact ⟨1, .inl ⟨rfl, rfl⟩, HL0.out⟩
  case round =>
    obtain ⟨L, hi, hr⟩ := hrel
    have HR := Lib.hid hr
    have q1 := hr.lf.cell 1
    have q2 := hr.lf.cell 2
    simp only [lfC, List.getElem?_toArray, List.getElem?_cons_zero, List.getElem?_cons_succ] at q1 q2
    clear hr
    rcases hi with ⟨rfl, rfl⟩ | ⟨rfl, rfl⟩
    · as_aux_lemma =>
        go_wp2_with (go_at_call 18; with_reducible refine (HTk.out _ _ _ _ HR.out.ws).mono ?_; rintro e w3 ⟨rfl, hs, hb⟩
                     have HR3 := Lib.hid (HR.out.turn hs hb)
                     clear hs hb)
        go_roundw
        case rel => exact ⟨0, .inr ⟨by go_num, rfl⟩, HR3.out⟩
        case measure => simp [intOf]
    · obtain ⟨d1, c1, f1, f2, f3, f4, f5, f6, f7⟩ := @first_ask 1
      have HT1 : Hid (∀ w', WS w' dB sB mB 2 M.fresh tB0 cB0 0 1 M.none0 0 1 → Calls Try.prog 19 #[.pointer (some ⟨tB0, 0, none⟩), .int .i64 0, .agg #[.int .i64 1, .int .i64 0, .int .i64 0, .int .i64 0, .int .i64 0, .int .i64 0, .int .i64 0, .int .i64 0, .int .i64 0, .int .i64 0, .int .i64 0, .string ⟨#[]⟩, .string ⟨#[]⟩]] w' fun e w'' => e = .returned (.tuple #[.agg #[.int .i64 2, .int .i64 1, .int .i64 3, .int .i64 0, .int .i64 (-1), .int .i64 0, .int .i64 0, .int .i64 0, .int .i64 0, .int .i64 0, .int .i64 0, .string ⟨#[]⟩, .string ⟨#[]⟩], .bool true]) ∧ WS w'' dB sB mB 2 d1 tB0 cB0 0 1 c1 1 1 ∧ But (ours dB sB mB cB0 tB0) w' w'') := Lib.hid fun w' h => by
        have := take_any w' h 0 ⟨1, 0, 0, 0, 0, 0, 0, 0, 0, 0, 0, ⟨#[]⟩, ⟨#[]⟩⟩
        rw [f3, f4, f5, f6, f7] at this
        exact this
      clear f3 f4 f5 f6 f7 HTk
      have HF1 := Lib.hid f1
      have HF2 := Lib.hid f2
      clear f1 f2
      go_wp2_with (go_at_call 19; with_reducible refine (HT1.out _ HR.out.ws).mono ?_; rintro e w3 ⟨rfl, hs, hb⟩
                   have hb3 := (Below.refl w3.heap.size w3).alloc (Nat.le_refl _) (.cells #[.int .i64 2, .int .i64 1, .int .i64 3, .int .i64 0, .int .i64 (-1), .int .i64 0, .int .i64 0, .int .i64 0, .int .i64 0, .int .i64 0, .int .i64 0, .string ⟨#[]⟩, .string ⟨#[]⟩] 35)
                   have HR3 := Lib.hid ((HR.out.turn hs hb).below hb3)
                   clear hs hb hb3)
      clear HT1 HR HL0 q1 q2
      go_loopw [9, 10] (fun tv iv wr => ∃ (i : Nat) (t ma : Int) (d : M.Dv) (c : M.Cl), i ≤ n1 ∧ i ≤ 200 ∧ tv = .int .i64 t ∧ iv = .int .i64 (i : Int) ∧ (-1 ≤ t ∧ t < 50) ∧ (0 ≤ t → ∃ z, t.toNat < n0 ∧ l0[t.toNat]? = some z ∧ ma = if z = true then 3 else 1) ∧ FR 2 0 1 (1 + (i : Int)) d c ∧ fx c.text = ⟨1, 0, ma, t + 1⟩ ∧ LB w wr gB pB dB sB mB d tB0 cB0 c 1 1 0 (fun _ => none)) (fun _ iv _ => 200 - (intOf iv).toNat)
      case atStart => exact ⟨0, -1, 3, d1, c1, by omega, by omega, rfl, rfl, by omega, by omega, HF1.out, HF2.out, HR3.out⟩
      case round =>
        obtain ⟨i, t, ma, d, c, hi1, hi2, rfl, rfl, htt, hz, hf, hx, hr⟩ := hrel
        have HR := Lib.hid hr
        have HF := Lib.hid hf
        have HX := Lib.hid hx
        have HZ := Lib.hid hz
        have HTT := Lib.hid htt
        have q1 := hr.lf.cell 1
        simp only [lfC, List.getElem?_toArray, List.getElem?_cons_zero, List.getElem?_cons_succ] at q1
        clear hr hf hx hz HR3
        by_cases hlt : i < n1 ∧ i < 200 ∧ 0 < n0
        · have g1 : (i : Int) < (n1 : Int) := by omega
          have g2 : (i : Int) < 200 := by omega
          have g0 : (0 : Int) ≤ (i : Int) := by omega
          have g3 : (0 : Int) < (n0 : Int) := by omega
          obtain ⟨b, off, y, rfl, hy, cy⟩ := bytes_at HR1.out (HR.out.bu.to_below HGe.out (Nat.le_refl _)) hlt.1
          obtain ⟨kk, hkk⟩ : ∃ kk, kk = y.toNat % (min n0 50) := ⟨_, rfl⟩
          have hm0 : 0 < min n0 50 := by omega
          have hkn : kk < n0 ∧ kk < 50 := by have := Nat.mod_lt y.toNat hm0; omega
          have e1 : ((y.toNat : Nat) : Int).tmod (min (n0 : Int) 50) = (kk : Int) := by
            rw [Int.tmod_eq_emod_of_nonneg (by omega), hkk]
            have : (min (n0 : Int) 50) = ((min n0 50 : Nat) : Int) := by omega
            rw [this]; rfl
          have e2 : ¬ min (n0 : Int) 50 = 0 := by omega
          obtain ⟨b0, off0, z, rfl, hzk, cz⟩ := bools_at HR0.out (HR.out.bu.to_below HGe.out (Nat.le_refl _)) hkn.1
          have k0 : (0 : Int) ≤ (kk : Int) := by omega
          have k1 : (kk : Int) < (n0 : Int) := by omega
          have k5 : (kk : Int) < 50 := by omega
          have hy8 := y.toNat_lt
          have HI : Hid (i < n1 ∧ i < 200) := Lib.hid ⟨hlt.1, hlt.2.1⟩
          have HKk := Lib.hid hkn
          have HZk := Lib.hid hzk
          clear hlt hi1 hi2 hy hkk hzk hkn hm0
          obtain ⟨msk, hmsk⟩ : ∃ msk : Int, msk = if z = true then 3 else 1 := ⟨_, rfl⟩
          have hm13 : msk = 1 ∨ msk = 3 := by rw [hmsk]; cases z <;> simp
          obtain ⟨c1', c2', c3', c4', c5'⟩ := @FR.chg d c (1 + (i : Int)) ma t (kk : Int) msk 1 1 HF.out (by have := HI.out; omega) HX.out hm13 (by omega) htt.1
          have HTk := Lib.hid (fun (w' : World) (h : WS w' dB sB mB 2 d tB0 cB0 0 1 c 1 1) => take_any w' h 0 (chM msk (kk : Int)))
          rw [c3', c4', c5'] at HTk
          generalize takD 2 0 1 d c 1 0 (chM msk (kk : Int)) = d2 at *
          generalize takC 2 0 1 d c 1 0 (chM msk (kk : Int)) = c2 at *
          have HM2 := Lib.hid (fun (w' : World) (h : WS w' dB sB mB 2 d2 tB0 cB0 0 1 c2 1 1) => mask_any w' h)
          rw [c2'] at HM2
          have HC1 := Lib.hid c1'
          have HC2 := Lib.hid c2'
          simp only [chM, msgV, Mg.cells] at HTk
          simp only at HM2
          clear c1' c2' c3' c4' c5'
          by_cases htk : t < (kk : Int)
          · have ev : chV msk ma t (kk : Int) = msk := by unfold chV; rw [if_pos htk]
            have emx : max t (kk : Int) = (kk : Int) := by omega
            rw [ev] at HTk HM2 HC2
            rw [emx] at HC2
            have HTop : Hid (-1 ≤ (kk : Int) ∧ (kk : Int) < 50) := Lib.hid (by omega)
            have HCz : Hid (∀ w', Below w.heap.size w w' → w'.cell? ⟨b0, off0 + kk, none⟩ = some (.bool z)) := Lib.hid fun w' hb => by
              obtain ⟨b', off', z', h1, h2, h3⟩ := bools_at HR0.out hb HKk.out.1
              injection h1 with h1
              injection h1 with h1 h1'
              subst h1 h1'
              rw [HZk.out] at h2
              injection h2 with h2
              rw [h2]; exact h3
            have HZ2 : Hid (0 ≤ (kk : Int) → ∃ z, (kk : Int).toNat < n0 ∧ l0[(kk : Int).toNat]? = some z ∧ msk = if z = true then 3 else 1) := Lib.hid fun _ => ⟨z, by have := HKk.out; simpa using this.1, by simpa using HZk.out, hmsk⟩
            clear ev htt hm13 htk
            cases z with
            | true =>
              obtain rfl : msk = 3 := hmsk
              as_aux_lemma =>
                go_wp2_with (first
                  | (go_at_call 19; with_reducible refine (HTk.out _ HR.out.ws).mono ?_; rintro e w4 ⟨rfl, hs, hb⟩
                     have hb4 := (Below.refl w4.heap.size w4).alloc (Nat.le_refl _) (.cells #[.int .i64 3, .int .i64 1, .int .i64 3, .int .i64 ((kk : Int) + 1), .int .i64 (-1), .int .i64 0, .int .i64 0, .int .i64 0, .int .i64 0, .int .i64 0, .int .i64 0, .string ⟨#[]⟩, .string ⟨#[]⟩] 35)
                     have HR4 := Lib.hid ((HR.out.turn hs hb).below hb4)
                     have M4 := Lib.hid (MB.new w4 ⟨3, 1, 3, (kk : Int) + 1, -1, 0, 0, 0, 0, 0, 0, ⟨#[]⟩, ⟨#[]⟩⟩)
                     have p1 := HR4.out.lf.cell 1
                     simp only [lfC, List.getElem?_toArray, List.getElem?_cons_zero, List.getElem?_cons_succ] at p1
                     have b6 := M4.out.cell 6
                     simp only [Mg.cells, List.getElem?_toArray, List.getElem?_cons_zero, List.getElem?_cons_succ] at b6
                     have cz4 : (w4.alloc (.cells #[.int .i64 3, .int .i64 1, .int .i64 3, .int .i64 ((kk : Int) + 1), .int .i64 (-1), .int .i64 0, .int .i64 0, .int .i64 0, .int .i64 0, .int .i64 0, .int .i64 0, .string ⟨#[]⟩, .string ⟨#[]⟩] 35)).cell? ⟨b0, off0 + kk, none⟩ = some (.bool true) := HCz.out _ (HR4.out.bu.to_below HGe.out (Nat.le_refl _))
                     clear hs hb hb4)
                  | (go_at_call 13; with_reducible refine (HM2.out _ HR4.out.ws).mono ?_; rintro e w5 ⟨rfl, hb5⟩
                     have HR5 := Lib.hid (HR4.out.below hb5)
                     have b2 := (M4.out.below hb5 M4.out.lt).cell 2
                     simp only [Mg.cells, List.getElem?_toArray, List.getElem?_cons_zero, List.getElem?_cons_succ] at b2
                     clear hb5))
                go_roundw
                case rel => exact ⟨i + 1, _, _, d2, c2, by have := HI.out; omega, by have := HI.out; omega, rfl, by go_num, HTop.out, HZ2.out, by have := HC1.out; rwa [show 1 + (i : Int) + 1 = 1 + ((i + 1 : Nat) : Int) by omega] at this, HC2.out, HR5.out⟩
                case measure => have := HI.out; simp [intOf]; omega
            | false =>
              obtain rfl : msk = 1 := hmsk
              as_aux_lemma =>
                go_wp2_with (first
                  | (go_at_call 19; with_reducible refine (HTk.out _ HR.out.ws).mono ?_; rintro e w4 ⟨rfl, hs, hb⟩
                     have hb4 := (Below.refl w4.heap.size w4).alloc (Nat.le_refl _) (.cells #[.int .i64 3, .int .i64 1, .int .i64 1, .int .i64 ((kk : Int) + 1), .int .i64 (-1), .int .i64 0, .int .i64 0, .int .i64 0, .int .i64 0, .int .i64 0, .int .i64 0, .string ⟨#[]⟩, .string ⟨#[]⟩] 35)
                     have HR4 := Lib.hid ((HR.out.turn hs hb).below hb4)
                     have M4 := Lib.hid (MB.new w4 ⟨3, 1, 1, (kk : Int) + 1, -1, 0, 0, 0, 0, 0, 0, ⟨#[]⟩, ⟨#[]⟩⟩)
                     have p1 := HR4.out.lf.cell 1
                     simp only [lfC, List.getElem?_toArray, List.getElem?_cons_zero, List.getElem?_cons_succ] at p1
                     have b6 := M4.out.cell 6
                     simp only [Mg.cells, List.getElem?_toArray, List.getElem?_cons_zero, List.getElem?_cons_succ] at b6
                     have cz4 : (w4.alloc (.cells #[.int .i64 3, .int .i64 1, .int .i64 1, .int .i64 ((kk : Int) + 1), .int .i64 (-1), .int .i64 0, .int .i64 0, .int .i64 0, .int .i64 0, .int .i64 0, .int .i64 0, .string ⟨#[]⟩, .string ⟨#[]⟩] 35)).cell? ⟨b0, off0 + kk, none⟩ = some (.bool false) := HCz.out _ (HR4.out.bu.to_below HGe.out (Nat.le_refl _))
                     clear hs hb hb4)
                  | (go_at_call 13; with_reducible refine (HM2.out _ HR4.out.ws).mono ?_; rintro e w5 ⟨rfl, hb5⟩
                     have HR5 := Lib.hid (HR4.out.below hb5)
                     have b2 := (M4.out.below hb5 M4.out.lt).cell 2
                     simp only [Mg.cells, List.getElem?_toArray, List.getElem?_cons_zero, List.getElem?_cons_succ] at b2
                     clear hb5))
                go_roundw
                case rel => exact ⟨i + 1, _, _, d2, c2, by have := HI.out; omega, by have := HI.out; omega, rfl, by go_num, HTop.out, HZ2.out, by have := HC1.out; rwa [show 1 + (i : Int) + 1 = 1 + ((i + 1 : Nat) : Int) by omega] at this, HC2.out, HR5.out⟩
                case measure => have := HI.out; simp [intOf]; omega
          · have ev : chV msk ma t (kk : Int) = ma := by unfold chV; rw [if_neg htk]
            have emx : max t (kk : Int) = t := by omega
            rw [ev] at HTk HM2 HC2
            rw [emx] at HC2
            obtain ⟨tn, rfl⟩ := Int.eq_ofNat_of_zero_le (show 0 ≤ t by omega)
            obtain ⟨z', hz1, hz2, hz3⟩ := HZ.out (by omega)
            simp only [Int.toNat_natCast] at hz1 hz2
            have HTop : Hid (-1 ≤ (tn : Int) ∧ (tn : Int) < 50) := Lib.hid htt
            have HCz : Hid (∀ w', Below w.heap.size w w' → w'.cell? ⟨b0, off0 + tn, none⟩ = some (.bool z')) := Lib.hid fun w' hb => by
              obtain ⟨b', off', z'', h1, h2, h3⟩ := bools_at HR0.out hb hz1
              injection h1 with h1
              injection h1 with h1 h1'
              subst h1 h1'
              rw [hz2] at h2
              injection h2 with h2
              rw [h2]; exact h3
            have HZ2 := HZ
            have t0 : (0 : Int) ≤ (tn : Int) := by omega
            have t1 : (tn : Int) < (n0 : Int) := by omega
            clear ev hm13 htk HZ hz2
            cases z' with
            | true =>
              obtain rfl : ma = 3 := hz3
              cases z with
              | true =>
                obtain rfl : msk = 3 := hmsk
                as_aux_lemma =>
                  go_wp2_with (first
                    | (go_at_call 19; with_reducible refine (HTk.out _ HR.out.ws).mono ?_; rintro e w4 ⟨rfl, hs, hb⟩
                       have hb4 := (Below.refl w4.heap.size w4).alloc (Nat.le_refl _) (.cells #[.int .i64 3, .int .i64 1, .int .i64 3, .int .i64 ((kk : Int) + 1), .int .i64 (-1), .int .i64 0, .int .i64 0, .int .i64 0, .int .i64 0, .int .i64 0, .int .i64 0, .string ⟨#[]⟩, .string ⟨#[]⟩] 35)
                       have HR4 := Lib.hid ((HR.out.turn hs hb).below hb4)
                       have M4 := Lib.hid (MB.new w4 ⟨3, 1, 3, (kk : Int) + 1, -1, 0, 0, 0, 0, 0, 0, ⟨#[]⟩, ⟨#[]⟩⟩)
                       have p1 := HR4.out.lf.cell 1
                       simp only [lfC, List.getElem?_toArray, List.getElem?_cons_zero, List.getElem?_cons_succ] at p1
                       have b6 := M4.out.cell 6
                       simp only [Mg.cells, List.getElem?_toArray, List.getElem?_cons_zero, List.getElem?_cons_succ] at b6
                       have cz4 : (w4.alloc (.cells #[.int .i64 3, .int .i64 1, .int .i64 3, .int .i64 ((kk : Int) + 1), .int .i64 (-1), .int .i64 0, .int .i64 0, .int .i64 0, .int .i64 0, .int .i64 0, .int .i64 0, .string ⟨#[]⟩, .string ⟨#[]⟩] 35)).cell? ⟨b0, off0 + tn, none⟩ = some (.bool true) := HCz.out _ (HR4.out.bu.to_below HGe.out (Nat.le_refl _))
                       clear hs hb hb4)
                    | (go_at_call 13; with_reducible refine (HM2.out _ HR4.out.ws).mono ?_; rintro e w5 ⟨rfl, hb5⟩
                       have HR5 := Lib.hid (HR4.out.below hb5)
                       have b2 := (M4.out.below hb5 M4.out.lt).cell 2
                       simp only [Mg.cells, List.getElem?_toArray, List.getElem?_cons_zero, List.getElem?_cons_succ] at b2
                       clear hb5))
                  go_roundw
                  case rel => exact ⟨i + 1, _, _, d2, c2, by have := HI.out; omega, by have := HI.out; omega, rfl, by go_num, HTop.out, HZ2.out, by have := HC1.out; rwa [show 1 + (i : Int) + 1 = 1 + ((i + 1 : Nat) : Int) by omega] at this, HC2.out, HR5.out⟩
                  case measure => have := HI.out; simp [intOf]; omega
              | false =>
                obtain rfl : msk = 1 := hmsk
                as_aux_lemma =>
                  go_wp2_with (first
                    | (go_at_call 19; with_reducible refine (HTk.out _ HR.out.ws).mono ?_; rintro e w4 ⟨rfl, hs, hb⟩
                       have hb4 := (Below.refl w4.heap.size w4).alloc (Nat.le_refl _) (.cells #[.int .i64 3, .int .i64 1, .int .i64 3, .int .i64 ((kk : Int) + 1), .int .i64 (-1), .int .i64 0, .int .i64 0, .int .i64 0, .int .i64 0, .int .i64 0, .int .i64 0, .string ⟨#[]⟩, .string ⟨#[]⟩] 35)
                       have HR4 := Lib.hid ((HR.out.turn hs hb).below hb4)
                       have M4 := Lib.hid (MB.new w4 ⟨3, 1, 3, (kk : Int) + 1, -1, 0, 0, 0, 0, 0, 0, ⟨#[]⟩, ⟨#[]⟩⟩)
                       have p1 := HR4.out.lf.cell 1
                       simp only [lfC, List.getElem?_toArray, List.getElem?_cons_zero, List.getElem?_cons_succ] at p1
                       have b6 := M4.out.cell 6
                       simp only [Mg.cells, List.getElem?_toArray, List.getElem?_cons_zero, List.getElem?_cons_succ] at b6
                       have cz4 : (w4.alloc (.cells #[.int .i64 3, .int .i64 1, .int .i64 3, .int .i64 ((kk : Int) + 1), .int .i64 (-1), .int .i64 0, .int .i64 0, .int .i64 0, .int .i64 0, .int .i64 0, .int .i64 0, .string ⟨#[]⟩, .string ⟨#[]⟩] 35)).cell? ⟨b0, off0 + tn, none⟩ = some (.bool true) := HCz.out _ (HR4.out.bu.to_below HGe.out (Nat.le_refl _))
                       clear hs hb hb4)
                    | (go_at_call 13; with_reducible refine (HM2.out _ HR4.out.ws).mono ?_; rintro e w5 ⟨rfl, hb5⟩
                       have HR5 := Lib.hid (HR4.out.below hb5)
                       have b2 := (M4.out.below hb5 M4.out.lt).cell 2
                       simp only [Mg.cells, List.getElem?_toArray, List.getElem?_cons_zero, List.getElem?_cons_succ] at b2
                       clear hb5))
                  go_roundw
                  case rel => exact ⟨i + 1, _, _, d2, c2, by have := HI.out; omega, by have := HI.out; omega, rfl, by go_num, HTop.out, HZ2.out, by have := HC1.out; rwa [show 1 + (i : Int) + 1 = 1 + ((i + 1 : Nat) : Int) by omega] at this, HC2.out, HR5.out⟩
                  case measure => have := HI.out; simp [intOf]; omega
            | false =>
              obtain rfl : ma = 1 := hz3
              cases z with
              | true =>
                obtain rfl : msk = 3 := hmsk
                as_aux_lemma =>
                  go_wp2_with (first
                    | (go_at_call 19; with_reducible refine (HTk.out _ HR.out.ws).mono ?_; rintro e w4 ⟨rfl, hs, hb⟩
                       have hb4 := (Below.refl w4.heap.size w4).alloc (Nat.le_refl _) (.cells #[.int .i64 3, .int .i64 1, .int .i64 1, .int .i64 ((kk : Int) + 1), .int .i64 (-1), .int .i64 0, .int .i64 0, .int .i64 0, .int .i64 0, .int .i64 0, .int .i64 0, .string ⟨#[]⟩, .string ⟨#[]⟩] 35)
                       have HR4 := Lib.hid ((HR.out.turn hs hb).below hb4)
                       have M4 := Lib.hid (MB.new w4 ⟨3, 1, 1, (kk : Int) + 1, -1, 0, 0, 0, 0, 0, 0, ⟨#[]⟩, ⟨#[]⟩⟩)
                       have p1 := HR4.out.lf.cell 1
                       simp only [lfC, List.getElem?_toArray, List.getElem?_cons_zero, List.getElem?_cons_succ] at p1
                       have b6 := M4.out.cell 6
                       simp only [Mg.cells, List.getElem?_toArray, List.getElem?_cons_zero, List.getElem?_cons_succ] at b6
                       have cz4 : (w4.alloc (.cells #[.int .i64 3, .int .i64 1, .int .i64 1, .int .i64 ((kk : Int) + 1), .int .i64 (-1), .int .i64 0, .int .i64 0, .int .i64 0, .int .i64 0, .int .i64 0, .int .i64 0, .string ⟨#[]⟩, .string ⟨#[]⟩] 35)).cell? ⟨b0, off0 + tn, none⟩ = some (.bool false) := HCz.out _ (HR4.out.bu.to_below HGe.out (Nat.le_refl _))
                       clear hs hb hb4)
                    | (go_at_call 13; with_reducible refine (HM2.out _ HR4.out.ws).mono ?_; rintro e w5 ⟨rfl, hb5⟩
                       have HR5 := Lib.hid (HR4.out.below hb5)
                       have b2 := (M4.out.below hb5 M4.out.lt).cell 2
                       simp only [Mg.cells, List.getElem?_toArray, List.getElem?_cons_zero, List.getElem?_cons_succ] at b2
                       clear hb5))
                  go_roundw
                  case rel => exact ⟨i + 1, _, _, d2, c2, by have := HI.out; omega, by have := HI.out; omega, rfl, by go_num, HTop.out, HZ2.out, by have := HC1.out; rwa [show 1 + (i : Int) + 1 = 1 + ((i + 1 : Nat) : Int) by omega] at this, HC2.out, HR5.out⟩
                  case measure => have := HI.out; simp [intOf]; omega
              | false =>
                obtain rfl : msk = 1 := hmsk
                as_aux_lemma =>
                  go_wp2_with (first
                    | (go_at_call 19; with_reducible refine (HTk.out _ HR.out.ws).mono ?_; rintro e w4 ⟨rfl, hs, hb⟩
                       have hb4 := (Below.refl w4.heap.size w4).alloc (Nat.le_refl _) (.cells #[.int .i64 3, .int .i64 1, .int .i64 1, .int .i64 ((kk : Int) + 1), .int .i64 (-1), .int .i64 0, .int .i64 0, .int .i64 0, .int .i64 0, .int .i64 0, .int .i64 0, .string ⟨#[]⟩, .string ⟨#[]⟩] 35)
                       have HR4 := Lib.hid ((HR.out.turn hs hb).below hb4)
                       have M4 := Lib.hid (MB.new w4 ⟨3, 1, 1, (kk : Int) + 1, -1, 0, 0, 0, 0, 0, 0, ⟨#[]⟩, ⟨#[]⟩⟩)
                       have p1 := HR4.out.lf.cell 1
                       simp only [lfC, List.getElem?_toArray, List.getElem?_cons_zero, List.getElem?_cons_succ] at p1
                       have b6 := M4.out.cell 6
                       simp only [Mg.cells, List.getElem?_toArray, List.getElem?_cons_zero, List.getElem?_cons_succ] at b6
                       have cz4 : (w4.alloc (.cells #[.int .i64 3, .int .i64 1, .int .i64 1, .int .i64 ((kk : Int) + 1), .int .i64 (-1), .int .i64 0, .int .i64 0, .int .i64 0, .int .i64 0, .int .i64 0, .int .i64 0, .string ⟨#[]⟩, .string ⟨#[]⟩] 35)).cell? ⟨b0, off0 + tn, none⟩ = some (.bool false) := HCz.out _ (HR4.out.bu.to_below HGe.out (Nat.le_refl _))
                       clear hs hb hb4)
                    | (go_at_call 13; with_reducible refine (HM2.out _ HR4.out.ws).mono ?_; rintro e w5 ⟨rfl, hb5⟩
                       have HR5 := Lib.hid (HR4.out.below hb5)
                       have b2 := (M4.out.below hb5 M4.out.lt).cell 2
                       simp only [Mg.cells, List.getElem?_toArray, List.getElem?_cons_zero, List.getElem?_cons_succ] at b2
                       clear hb5))
                  go_roundw
                  case rel => exact ⟨i + 1, _, _, d2, c2, by have := HI.out; omega, by have := HI.out; omega, rfl, by go_num, HTop.out, HZ2.out, by have := HC1.out; rwa [show 1 + (i : Int) + 1 = 1 + ((i + 1 : Nat) : Int) by omega] at this, HC2.out, HR5.out⟩
                  case measure => have := HI.out; simp [intOf]; omega
        · have HEp := Lib.hid (fun (w' : World) (h : WS w' dB sB mB 2 d tB0 cB0 0 1 c 1 1) => epoch_any w' h)
          have HHo := Lib.hid (fun (w' : World) (h : WS w' dB sB mB 2 d tB0 cB0 0 1 c 1 1) => holder_any w' h)
          rw [HX.out] at HEp HHo
          simp only at HEp HHo
          have hnot : (¬ i < n1) ∨ (i < n1 ∧ ¬ i < 200) ∨ (i < n1 ∧ i < 200 ∧ ¬ 0 < n0) := by omega
          rcases hnot with h9 | ⟨h8, h9⟩ | ⟨h7, h8, h9⟩
          · have g1 : decide ((i : Int) < (n1 : Int)) = false := by simpa using h9
            go_wp2_with (first
              | (go_at_call 12; with_reducible refine (HEp.out _ HR.out.ws).mono ?_; rintro e w4 ⟨rfl, hb4⟩
                 have HR4 := Lib.hid (HR.out.below hb4)
                 have p1 := HR4.out.lf.cell 1
                 simp only [lfC, List.getElem?_toArray, List.getElem?_cons_zero, List.getElem?_cons_succ] at p1
                 clear hb4)
              | (go_at_call 14; with_reducible refine (HHo.out _ HR4.out.ws).mono ?_; rintro e w5 ⟨rfl, hb5⟩
                 have HR5 := Lib.hid (HR4.out.below hb5)
                 clear hb5))
            go_ret
            exact ⟨rfl, HR5.out.bu.to_below HGe.out (Nat.le_refl _)⟩
          · have g1 : (i : Int) < (n1 : Int) := by omega
            have g2 : decide ((i : Int) < 200) = false := by simp; omega
            go_wp2_with (first
              | (go_at_call 12; with_reducible refine (HEp.out _ HR.out.ws).mono ?_; rintro e w4 ⟨rfl, hb4⟩
                 have HR4 := Lib.hid (HR.out.below hb4)
                 have p1 := HR4.out.lf.cell 1
                 simp only [lfC, List.getElem?_toArray, List.getElem?_cons_zero, List.getElem?_cons_succ] at p1
                 clear hb4)
              | (go_at_call 14; with_reducible refine (HHo.out _ HR4.out.ws).mono ?_; rintro e w5 ⟨rfl, hb5⟩
                 have HR5 := Lib.hid (HR4.out.below hb5)
                 clear hb5))
            go_ret
            exact ⟨rfl, HR5.out.bu.to_below HGe.out (Nat.le_refl _)⟩
          · have g1 : (i : Int) < (n1 : Int) := by omega
            have g2 : (i : Int) < 200 := by omega
            obtain rfl : n0 = 0 := by omega
            go_wp2_with (first
              | (go_at_call 12; with_reducible refine (HEp.out _ HR.out.ws).mono ?_; rintro e w4 ⟨rfl, hb4⟩
                 have HR4 := Lib.hid (HR.out.below hb4)
                 have p1 := HR4.out.lf.cell 1
                 simp only [lfC, List.getElem?_toArray, List.getElem?_cons_zero, List.getElem?_cons_succ] at p1
                 clear hb4)
              | (go_at_call 14; with_reducible refine (HHo.out _ HR4.out.ws).mono ?_; rintro e w5 ⟨rfl, hb5⟩
                 have HR5 := Lib.hid (HR4.out.below hb5)
                 clear hb5))
            go_ret
            exact ⟨rfl, HR5.out.bu.to_below HGe.out (Nat.le_refl _)⟩

set_option maxRecDepth 100000 in
theorem lifted (os : Os) (started : os.Started) (H : Type) (enc : TypeId × Value → H) :
    ReturnsInHanded {} Try.checked os 6 .any (Rows.witnessChangesSpec.pre6 enc Try.prog Try.f6 Rows.witnessChangesRow.domain false) (Rows.witnessChangesSpec.post enc Try.prog Try.f6 false true false false) := by
  refine returnsInHanded_of_change (C := Try.checked) own started (by kernel_rfl) Try.func6
    (ChangeSpec.witness6 (enc := enc) (C := Try.checked) false ⟨#[], #[.slice none 0 0, .slice none 0 0], []⟩ 8 (by kernel_rfl) (by kernel_rfl) (by kernel_rfl) (by kernel_rfl)) ?_
  intro W base args ds gs before hval0 hW hcnd _
  have hval : ∀ (j : Nat) t v, Try.f6.params[j]? = some t → args[j]? = some v → Value.okWide Try.prog W .any base t v := hval0
  have hW' := hW
  obtain ⟨p, q, hA0, hV, rfl, hfz, hnd⟩ := hW
  have hA : DataW.TrodAll enc Try.prog W 0 (fun _ => true) true Try.f6.params.toList args.toList ds p := hA0
  rw [Try.params6] at hA hval
  obtain ⟨v0, vs0, d0, ds0, p0, q0, hargs, rfl, rfl, h0, r0'⟩ := trodAll_cons hA
  obtain ⟨v1, vs1, d1, ds1, p1, q1, rfl, rfl, rfl, h1, r1'⟩ := trodAll_cons r0'
  obtain ⟨rfl, rfl, rfl⟩ := trodAll_nil r1'
  obtain rfl : args = #[v0, v1] := by cases args; simp_all
  obtain ⟨rfl, rfl⟩ := trodVars_none hV
  have k0 := h0
  have lt0 : ∀ x ∈ p0, x.block < W.heap.size := by obtain ⟨m, hm⟩ := k0; exact DataW.trod_lt m _ _ _ hm
  obtain ⟨a0, n0, c0, l0, rfl, w0⟩ := open_bits h0 (okWide_slice Try.underlying47 (hval 0 47 v0 rfl rfl))
  have k1 := h1
  have lt1 : ∀ x ∈ p1, x.block < W.heap.size := by obtain ⟨m, hm⟩ := k1; exact DataW.trod_lt m _ _ _ hm
  obtain ⟨a1, n1, c1, l1, rfl, w1⟩ := open_bytes h1 (okWide_slice Try.underlying48 (hval 1 48 v1 rfl rfl))
  clear hA0 hval0
  refine (walk a0 n0 c0 l0 a1 n1 c1 l1 W w0 w1).mono fun e W' ⟨he, bel⟩ => ?_
  subst he
  exact ⟨_, rfl, _, _, _, [], _, [], hW', trodAll_mk1 (shut_bool Try.underlying4 _), (trodAll_cons_mk (Below.trod laidOut (by kernel_rfl) (of_decide_eq_true (by kernel_rfl)) k0 bel lt0) (trodAll_cons_mk (Below.trod laidOut (by kernel_rfl) (of_decide_eq_true (by kernel_rfl)) k1 bel lt1) trodAll_mk0)), rfl, bel.frame _, fun h => by cases h⟩

theorem over : Rows.witnessChangesRow.holds Try.pinned (OpenSpec.ofChange Rows.witnessChangesSpec) :=
  OpenClaim.holds_of_wide 6 Try.f6 rfl rfl rfl rfl rfl rfl rfl ⟨rfl, rfl, rfl, rfl, rfl⟩ rfl rfl rfl rfl rfl (by kernel_rfl) Try.func6 (by kernel_rfl)
    (of_decide_eq_true (by kernel_rfl)) (by unfold Func.isWrapper; first | (rw [if_pos (by decide +kernel)]; kernel_rfl) | (rw [if_neg (by decide +kernel)]; exact ⟨rfl, rfl⟩))
    (fun os started H enc _ => lifted os started H enc)

/-- the statement -/
theorem proved : Rows.WitnessChangesSaid := over
#print axioms proved
end Go.Proofs.Ytpoolpckabpnfaa.witnessChanges
