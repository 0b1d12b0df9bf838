/-
  The document's own answer for Decode: what the reference function answers. CONDITIONS: at most 65536 bytes.
-/
import Derived.Test.YtpggpgbkeafgnaaCRefq
import Derived.Deep.RegionLaw
namespace Go.Proofs.Ytpggpgbkeafgnaa.C
open Go.RowKit
set_option linter.unusedVariables false
set_option linter.unusedSimpArgs false
set_option maxRecDepth 20000

theorem dec_none2 {l : List UInt8} (h : M.rdR l = none) : M.dec l = none := by unfold M.dec; rw [h]

set_option maxHeartbeats 4000000 in
theorem refdecode_mod (w : World) (a : Option Addr) (n cap : Nat) (kd c : UInt8) (l : List UInt8) (h : Row w a n cap (u8s (kd :: c :: l))) (hn : n ≤ 65536) (h2 : 2 ≤ n) (h240 : ¬ 240 ≤ c.toNat) :
    Calls Try.prog 22 #[.slice a n cap] w (DPost w (kd :: c :: l)) := by
  have hl : (kd :: c :: l).length = n := by have := h.1; rw [u8s_length] at this; exact this
  have HR := Lib.hid h
  have Hn64 := Lib.hid hn
  have hnI : (n : Int) ≤ 65536 := by omega
  have B2 : Hid (Below w.heap.size w ((w.alloc (.cells #[.int .i64 0, .slice none 0 0, .slice none 0 0] 39)).alloc (.cells #[.int .i64 0, .slice none 0 0, .slice none 0 0] 39))) := ((Below.refl _ _).alloc (Nat.le_refl _) _).alloc (by simp) _
  have h2I : (2 : Int) ≤ (n : Int) := by omega
  obtain ⟨b, off, t, rfl, hb, ht, hc1⟩ := row_u8 h 1 (by omega)
  obtain rfl : c = t := by simpa using ht
  obtain ⟨b', off', t', hab, hb', ht', hc0⟩ := row_u8 h 0 (by omega)
  obtain rfl : kd = t' := by simpa using ht'
  obtain ⟨rfl, rfl⟩ : b = b' ∧ off = off' := by injection hab with hab; injection hab with h1 h2; exact ⟨h1, h2⟩
  rw [Nat.add_zero] at hc0
  have f1 := (B2.out.cell (p := ⟨b, off + 1, none⟩) hb).trans hc1
  have f0 := (B2.out.cell (p := ⟨b, off, none⟩) hb).trans hc0
  have HL := Lib.hid hl
  have hcl := c.toNat_lt
  have hkl := kd.toNat_lt
  have HKT := Lib.hid (show (240 ≤ c.toNat → M.cN c.toNat = 16 ∧ M.cT c.toNat = c.toNat - 240) ∧ (¬ 240 ≤ c.toNat → M.cN c.toNat = c.toNat % 16 ∧ M.cT c.toNat = c.toNat / 16) from by
    unfold M.cN M.cT
    exact ⟨fun h => ⟨if_pos h, if_pos h⟩, fun h => ⟨if_neg h, if_neg h⟩⟩)
  generalize hqd : kd.toNat = q at *
  have Hqd := Lib.hid hqd
  generalize hcc : c.toNat = cc at *
  have Hcc := Lib.hid hcc
  clear hqd hcc h hl ht ht' hab hb' hc0 hc1 hb h2
  have hqI : (q : Int) < 256 := by omega
  have hcI : (cc : Int) < 256 := by omega
  have hcI0 : (0 : Int) ≤ (cc : Int) := by omega
  have z1 := True.intro
  have z2 := True.intro
  have z3 := True.intro
  have r1 := True.intro
  have r2 := True.intro
  have r3 := True.intro
  have hge : (cc : Int) < 240 := by omega
  obtain ⟨hK, hT⟩ := HKT.out.2 h240
  have hmod : (cc : Int) % 16 = ((cc % 16 : Nat) : Int) := by omega
  have hdiv : (cc : Int) / 16 = ((cc / 16 : Nat) : Int) := by omega
  have hK16 : cc % 16 ≤ 16 := by omega
  generalize cc % 16 = KV at *
  generalize cc / 16 = T at *
  have hKI : (KV : Int) ≤ 16 := by omega
  by_cases hT4 : T ≤ 4
  · have hT4I : (T : Int) ≤ 4 := by omega
    have HT4 := Lib.hid hT4
    have HK : Hid (M.cN c.toNat = KV) := by show _ = _; rw [Hcc.out]; exact hK
    have HT : Hid (M.cT c.toNat = T) := by show _ = _; rw [Hcc.out]; exact hT
    clear hK hT h240 hcl hkl z1 z2 z3 r1 r2 r3
    go_enter Try.func22, Try.ntmps22
    go_wp2_with fail
    rw [hmod]
    go_loopw [8, 9] (fun p_ i wr => ∃ (k p : Nat) (ns : List Int) (a1 : Option Addr) (cap1 : Nat), k ≤ KV ∧ i = .int .i64 k ∧ p_ = .int .i64 (p : Int) ∧ p ≤ n ∧ RQ w.heap.size w wr q a1 k cap1 ns none 0 0 [] ∧ RN l ((kd :: c :: l).drop p) KV k ns) (fun _ i _ => KV - (intOf i).toNat)
    case atStart => exact ⟨0, 2, [], none, 0, by omega, rfl, rfl, by omega, rq_start q, rn_start l KV⟩
    case round =>
      obtain ⟨k, p, ns, a1, cap1, hk, rfl, rfl, hpn, hrq, hrn⟩ := hrel
      have Hq := Lib.hid hrq
      have Hn := Lib.hid hrn
      have HRow := Lib.hid (row_below HR.out hrq.mov (Nat.le_refl _))
      obtain ⟨o1, o2, o3, o4, o5, o6⟩ := hrq.own
      obtain ⟨z1, z2, z3, z4, z5, z6⟩ := hrq.zr
      obtain ⟨r1, r2, r3, r4, r5, r6⟩ := hrq.res
      clear hrq hrn
      have hpI : (p : Int) ≤ 65536 := by omega
      have Hpn := Lib.hid hpn
      by_cases hlt : k < KV
      · have hltI : (k : Int) < (KV : Int) := by omega
        cases hv : M.rdN ((kd :: c :: l).drop p) with
        | none =>
          have HV := Lib.hid hv
          clear hv
          go_wp2_with (go_at_call 34; refine (refnum_no _ _ _ _ (kd :: c :: l) p HRow.out Hpn.out Hn64.out HV.out).mono ?_; rintro e w' ⟨rfl, rfl⟩)
          refine bodyPost_ret (v := .tuple #[.agg #[.int .i64 0, .slice none 0 0, .slice none 0 0], .int .i64 4]) (by simp [results, Try.results22, go_sem, z1, z2, z3, r1, r2, r3]) rfl ?_
          first | exact ⟨zero_end _ Hq.out.mov, .inr ⟨dec_none2 (rdR_numsNo (HK.out ▸ rn_no hlt Hn.out HV.out)), rfl⟩⟩ | exact ⟨Hq.out.mov, .inr ⟨dec_none2 (rdR_numsNo (HK.out ▸ rn_no hlt Hn.out HV.out)), rfl⟩⟩
        | some vm =>
          obtain ⟨v, m'⟩ := vm
          have HV := Lib.hid hv
          clear hv
          have hk16 : k ≤ 16 := by omega
          go_wp2_with (first
            | (go_at_call 34; refine (refnum_ok _ _ _ _ (kd :: c :: l) p HRow.out Hpn.out Hn64.out v m' HV.out).mono ?_; rintro e w' ⟨p2, hm2, hp2, hp3, rfl, rfl⟩; have Hm2 := Lib.hid hm2; have Hp3 := Lib.hid hp3; have HrowN := Lib.hid (row_i64_new wr v); have Hq2 := Lib.hid (Hq.out.alloc (.cells #[.int .i64 v] 2)); clear hm2 hp2 hp3)
            | (at_builtin
               refine wpList_append_i64 _ rfl (.tmp 63) (.tmp 65) rfl (w.heap.size + 3) a1 k cap1 ns rfl Hq2.out.rn (some ⟨wr.heap.size, 0, Option.none⟩) 1 1 [v] rfl HrowN.out (by omega) Hq2.out.size ?_
               intro a4 cap4 w4 hown hbel
               have hr4 := rec3_below Hq2.out.own hbel (by omega)
               have hc4 := hr4.2.1
               have hf4 := hr4.2.2.2.2.1
               have Hq5 := Lib.hid (Hq2.out.num hown hbel)
               clear hr4 hown hbel))
          go_roundw
          case rel => exact ⟨k + 1, p2, ns ++ [v], a4, cap4, by omega, by go_num, rfl, by have := Hp3.out; rw [HL.out] at this; exact this, Hq5.out, by rw [← Hm2.out]; exact rn_on hlt Hn.out HV.out⟩
          case measure => simp [intOf]; omega
      · obtain rfl : KV = k := by omega
        have HNs := Lib.hid (rn_end Hn.out)
        clear Hn o1 o2 o3 o4 o5 o6 z1 z2 z3 z4 z5 z6 r1 r2 r3 r4 r5 r6 HRow
        have hge : (KV : Int) ≤ (KV : Int) := Int.le_refl _
        go_wp2_with fail
        go_loopw [8, 13] (fun p_ i wr => ∃ (j p2 : Nat) (ts : List ByteArray) (aT : Option Addr) (capT : Nat), j ≤ T ∧ i = .int .i64 j ∧ p_ = .int .i64 (p2 : Int) ∧ p2 ≤ n ∧ RQ w.heap.size w wr q a1 KV cap1 ns aT j capT ts ∧ RT ((kd :: c :: l).drop p) ((kd :: c :: l).drop p2) T j ts) (fun _ i _ => T - (intOf i).toNat)
        case atStart => exact ⟨0, p, [], none, 0, by omega, rfl, rfl, Hpn.out, Hq.out, rt_start _ T⟩
        case round =>
          clear Hq
          obtain ⟨j, p2, ts, aT, capT, hj, rfl, rfl, hpn2, hrq, hrn⟩ := hrel
          have Hq := Lib.hid hrq
          have Hn := Lib.hid hrn
          have HRow := Lib.hid (row_below HR.out hrq.mov (Nat.le_refl _))
          have hBl := Lib.hid hrq.mov
          obtain ⟨o1, o2, o3, o4, o5, o6⟩ := hrq.own
          obtain ⟨z1, z2, z3, z4, z5, z6⟩ := hrq.zr
          obtain ⟨r1, r2, r3, r4, r5, r6⟩ := hrq.res
          clear hrq hrn
          have hpI2 : (p2 : Int) ≤ 65536 := by omega
          have hp20 : (0 : Int) ≤ (p2 : Int) := by omega
          by_cases hlt : j < T
          · have hltI : (j : Int) < (T : Int) := by omega
            by_cases hat : p2 = n
            · have hd1 : decide ((n : Int) ≤ (p2 : Int)) = true := by rw [decide_eq_true_eq]; omega
              have hd1n : decide (n ≤ p2) = true := by rw [decide_eq_true_eq]; omega
              have HV : Hid (M.rdT ((kd :: c :: l).drop p2) = none) := by
                have e : (kd :: c :: l).drop p2 = [] := List.drop_eq_nil_of_le (by rw [HL.out]; omega)
                show _ = _
                rw [e]; rfl
              clear hat
              go_wp2_with fail
              refine bodyPost_ret (v := .tuple #[.agg #[.int .i64 0, .slice none 0 0, .slice none 0 0], .int .i64 4]) (by simp [results, Try.results22, go_sem, z1, z2, z3, r1, r2, r3]) rfl ?_
              first | exact ⟨zero_end _ Hq.out.mov, .inr ⟨dec_none2 (rdR_textsNo (HK.out ▸ HNs.out) (HT.out ▸ rt_no hlt Hn.out HV.out)), rfl⟩⟩ | exact ⟨Hq.out.mov, .inr ⟨dec_none2 (rdR_textsNo (HK.out ▸ HNs.out) (HT.out ▸ rt_no hlt Hn.out HV.out)), rfl⟩⟩
            · have hd1 : decide ((n : Int) ≤ (p2 : Int)) = false := by rw [decide_eq_false_iff_not]; omega
              have hd1n : decide (n ≤ p2) = false := by rw [decide_eq_false_iff_not]; omega
              obtain ⟨bb, of2, t, hab, hbb, ht, hct⟩ := row_u8 HRow.out p2 (by omega)
              have Hdrop := Lib.hid (drop_cons ht)
              have htl := t.toNat_lt
              have HrdT : Hid (M.rdT ((kd :: c :: l).drop p2) = if t.toNat ≤ 200 ∧ t.toNat ≤ ((kd :: c :: l).drop (p2 + 1)).length then some (⟨(((kd :: c :: l).drop (p2 + 1)).take t.toNat).toArray⟩, ((kd :: c :: l).drop (p2 + 1)).drop t.toNat) else none) := by
                show _ = _
                rw [Hdrop.out]; rfl
              have Hdl : Hid (((kd :: c :: l).drop (p2 + 1)).length = n - (p2 + 1)) := by
                show _ = _
                rw [List.length_drop, HL.out]
              generalize hz : t.toNat = z at *
              have Hz := Lib.hid hz
              clear hz ht
              have hz256 : (z : Int) < 256 := by omega
              have hz0 : (0 : Int) ≤ (z : Int) := by omega
              have ht2 : b = bb ∧ off = of2 := by injection hab with hab; injection hab with h1 h2; exact ⟨h1, h2⟩
              obtain ⟨rfl, rfl⟩ := ht2
              clear hab hbb
              have hltp : (p2 : Int) < (n : Int) := by omega
              by_cases hz200 : z ≤ 200
              · have hd2 : decide ((200 : Int) < (z : Int)) = false := by rw [decide_eq_false_iff_not]; omega
                by_cases hfit : p2 + 1 + z ≤ n
                · have hd3 : decide ((n : Int) < (p2 : Int) + 1 + (z : Int)) = false := by rw [decide_eq_false_iff_not]; omega
                  have HV : Hid (M.rdT ((kd :: c :: l).drop p2) = some (str (((kd :: c :: l).drop (p2 + 1)).take z), (kd :: c :: l).drop (p2 + 1 + z))) := by
                    show _ = _
                    rw [HrdT.out, if_pos ⟨hz200, by rw [Hdl.out]; omega⟩, List.drop_drop]
                    rfl
                  have hsl := fun w => run_mid (some ⟨b, off, none⟩) n cap (p2 + 1) (p2 + 1 + z) (by omega) (by have := HRow.out.2.1; omega) ((p2 : Int) + 1) ((p2 : Int) + 1 + (z : Int)) (by omega) (by omega) w
                  rw [show p2 + 1 + z - (p2 + 1) = z from by omega] at hsl
                  have hrowT := row_pre (row_drop HRow.out (p2 + 1) (by omega)) z (by omega)
                  rw [show (u8s (kd :: c :: l)).drop (p2 + 1) = u8s ((kd :: c :: l).drop (p2 + 1)) from (List.map_drop ..).symm, show (u8s ((kd :: c :: l).drop (p2 + 1))).take z = u8s (((kd :: c :: l).drop (p2 + 1)).take z) from (List.map_take ..).symm] at hrowT
                  generalize hadv : adv (some ⟨b, off, none⟩) cap (p2 + 1) = x4 at *
                  have Hadv := Lib.hid hadv
                  have HrowT := Lib.hid hrowT
                  have hconv := run_string_bytes (row_same HrowT.out (w' := wr.drew) rfl)
                  generalize hX : str (((kd :: c :: l).drop (p2 + 1)).take z) = X at *
                  have HX := Lib.hid hX
                  have Hq2 := Lib.hid (Hq.out.alloc (.cells #[.string X] 9))
                  have hlo := Hq2.out.own.2.2.1
                  have hw1 : IntKind.i64.wrap ((p2 : Int) + 1) = (p2 : Int) + 1 := by rw [IntKind.wrap_i64]; omega
                  have hw2 : IntKind.i64.wrap ((p2 : Int) + 1 + (z : Int)) = (p2 : Int) + 1 + (z : Int) := by rw [IntKind.wrap_i64]; omega
                  have HrowN := Lib.hid (row_str_new wr X)
                  have hj4 : j ≤ 4 := by omega
                  clear hadv hrowT hX htl hat HrdT Hdl
                  go_wp2_with fail
                  go_region_law ((first
                      | (refine step_append_str _ rfl (.tmp 106) (.tmp 116) rfl (w.heap.size + 3) aT j capT ts rfl (own_below Hq2.out.rt (Below.drew (Below.refl _ _)) (Nat.le_refl _)) (some ⟨wr.heap.size, 0, none⟩) 1 1 [X] rfl (row_same HrowN.out rfl) (by omega) Hq2.out.size ?_
                         intro a4 cap4 w4 hown hbel hgr hat
                         have hbel' : Below (w.heap.size + 3) (wr.alloc (.cells #[.string X] 9)) w4 := Below.trans (Below.drew (Below.refl _ _)) hbel
                         have hgr' : (wr.alloc (.cells #[.string X] 9)).grownBy w4 (Value.slice aT j capT).ownBlock := ⟨hgr.os, hgr.tape, hgr.output, hgr.size, hgr.block⟩
                         have hr4 := rec3_below Hq2.out.own hbel' (by omega)
                         have hc4 := hr4.2.2.1
                         have hf4 := hr4.2.2.2.2.2
                         have Hq5 := Lib.hid (Hq2.out.text hown hbel' hgr' hat)
                         clear hr4 hown hbel hgr hat hbel' hgr')))
                  all_goals
                    go_wp2_with fail
                    go_roundw
                    case rel => exact ⟨j + 1, p2 + 1 + z, ts ++ [X], a4, cap4, by omega, by go_num, by go_num, by omega, Hq5.out, rt_on hlt Hn.out HV.out⟩
                    case measure => simp [intOf]; omega
                · have hd3 : decide ((n : Int) < (p2 : Int) + 1 + (z : Int)) = true := by rw [decide_eq_true_eq]; omega
                  have HV : Hid (M.rdT ((kd :: c :: l).drop p2) = none) := by
                    show _ = _
                    rw [HrdT.out, if_neg (by rw [Hdl.out]; omega)]
                  clear htl hat HrdT Hdl
                  go_wp2_with fail
                  refine bodyPost_ret (v := .tuple #[.agg #[.int .i64 0, .slice none 0 0, .slice none 0 0], .int .i64 4]) (by simp [results, Try.results22, go_sem, z1, z2, z3, r1, r2, r3]) rfl ?_
                  first | exact ⟨zero_end _ Hq.out.mov, .inr ⟨dec_none2 (rdR_textsNo (HK.out ▸ HNs.out) (HT.out ▸ rt_no hlt Hn.out HV.out)), rfl⟩⟩ | exact ⟨Hq.out.mov, .inr ⟨dec_none2 (rdR_textsNo (HK.out ▸ HNs.out) (HT.out ▸ rt_no hlt Hn.out HV.out)), rfl⟩⟩
              · have hd2 : decide ((200 : Int) < (z : Int)) = true := by rw [decide_eq_true_eq]; omega
                have HV : Hid (M.rdT ((kd :: c :: l).drop p2) = none) := by
                  show _ = _
                  rw [HrdT.out, if_neg (by omega)]
                clear htl hat HrdT Hdl
                go_wp2_with fail
                refine bodyPost_ret (v := .tuple #[.agg #[.int .i64 0, .slice none 0 0, .slice none 0 0], .int .i64 4]) (by simp [results, Try.results22, go_sem, z1, z2, z3, r1, r2, r3]) rfl ?_
                first | exact ⟨zero_end _ Hq.out.mov, .inr ⟨dec_none2 (rdR_textsNo (HK.out ▸ HNs.out) (HT.out ▸ rt_no hlt Hn.out HV.out)), rfl⟩⟩ | exact ⟨Hq.out.mov, .inr ⟨dec_none2 (rdR_textsNo (HK.out ▸ HNs.out) (HT.out ▸ rt_no hlt Hn.out HV.out)), rfl⟩⟩
          · obtain rfl : j = T := by omega
            have HTs := Lib.hid (rt_end Hn.out)
            clear Hn
            have hge2 : (j : Int) ≤ (j : Int) := Int.le_refl _
            by_cases hend : p2 = n
            · have hd1 : (n : Int) ≤ (p2 : Int) := by omega
              have Hx : Hid ((kd :: c :: l).drop p2 = []) := List.drop_eq_nil_of_le (by rw [HL.out]; omega)
              clear hend
              go_wp2_with fail
              obtain ⟨e1, e2, e3⟩ := rq_end Hq.out
              refine bodyPost_ret (v := .tuple #[.agg #[.int .i64 (q : Int), .slice a1 KV cap1, .slice aT j capT], .int .i64 0]) (by simp [results, Try.results22, go_sem, r1, r2, r3]) rfl ?_
              refine ⟨e3, .inl ⟨⟨q, ns, ts⟩, _, ?_, ⟨a1, KV, cap1, aT, j, capT, rfl, e1, e2⟩, rfl⟩⟩
              have := rdR_yes (kd := kd) (by rw [HT.out]; exact HT4.out) (HK.out ▸ HNs.out) (HT.out ▸ HTs.out)
              rw [Hx.out, Hqd.out] at this
              exact dec_nil this
            · have hd1 : (p2 : Int) < (n : Int) := by omega
              obtain ⟨y, ys, hy⟩ : ∃ y ys, (kd :: c :: l).drop p2 = y :: ys := by
                cases hd : (kd :: c :: l).drop p2 with
                | nil => have := congrArg List.length hd; rw [List.length_drop, HL.out] at this; simp at this; omega
                | cons y ys => exact ⟨y, ys, rfl⟩
              have Hy := Lib.hid hy
              clear hend hy
              go_wp2_with fail
              refine bodyPost_ret (v := .tuple #[.agg #[.int .i64 0, .slice none 0 0, .slice none 0 0], .int .i64 4]) (by simp [results, Try.results22, go_sem, z1, z2, z3, r1, r2, r3]) rfl ?_
              first | exact ⟨zero_end _ Hq.out.mov, .inr ⟨dec_cons (by have := rdR_yes (kd := kd) (by rw [HT.out]; exact HT4.out) (HK.out ▸ HNs.out) (HT.out ▸ HTs.out); rw [Hy.out] at this; exact this), rfl⟩⟩ | exact ⟨Hq.out.mov, .inr ⟨dec_cons (by have := rdR_yes (kd := kd) (by rw [HT.out]; exact HT4.out) (HK.out ▸ HNs.out) (HT.out ▸ HTs.out); rw [Hy.out] at this; exact this), rfl⟩⟩
  · have hT4I : (4 : Int) < (T : Int) := by omega
    have Hd : Hid (M.dec (kd :: c :: l) = none) := dec_none2 (rdR_much (by rw [Hcc.out, hT]; exact hT4))
    clear hK hT h240 hcl hkl
    go_enter Try.func22, Try.ntmps22
    go_wp2_with fail
    refine bodyPost_ret (v := .tuple #[.agg #[.int .i64 0, .slice none 0 0, .slice none 0 0], .int .i64 4]) (by simp [results, Try.results22, go_sem, z1, z2, z3, r1, r2, r3]) rfl ?_
    first | exact ⟨zero_end _ B2.out, .inr ⟨Hd.out, rfl⟩⟩ | exact ⟨B2.out, .inr ⟨Hd.out, rfl⟩⟩

end Go.Proofs.Ytpggpgbkeafgnaa.C
