/-
  The calls whose answers the document fixes.
-/
import Derived.Test.YtbmgaopdahlkkaaLog12
namespace Go.Proofs.Ytbmgaopdahlkkaa
open Go.RowKit
set_option linter.unusedVariables false
set_option linter.unusedSimpArgs false
set_option maxRecDepth 20000

theorem geo4 : Geo 4 2 2 0 1 := ⟨by decide, by decide, by decide, by decide, by decide, by decide, by decide, by decide⟩
def sa : ByteArray := ⟨#[97]⟩
def sb : ByteArray := ⟨#[98]⟩
def sc : ByteArray := ⟨#[99]⟩
def l0 : M.Lg := ⟨1, 1, 0, []⟩

set_option maxHeartbeats 4000000 in
theorem awake_any (w : World) : Calls Try.prog 8 #[] w fun e w' => e = .returned (.bool true) ∧ Below w.heap.size w w' := by
  go_enter Try.func8, Try.ntmps8
  go_wp2_with fail
  refine (new_yes 4 (by omega) _).mono ?_
  rintro e w1 ⟨dB, sB, mB, rfl, hd1, hb1, l1, l2, l3⟩
  have HD1 := Lib.hid hd1
  have HB1 := Lib.hid hb1
  have HL : Hid (w.heap.size ≤ dB ∧ w.heap.size ≤ sB ∧ w.heap.size ≤ mB) := Lib.hid ⟨l1, l2, l3⟩
  have HS1 : Hid (dB < w1.heap.size ∧ sB < w1.heap.size ∧ mB < w1.heap.size) := Lib.hid ⟨hd1.ltD, hd1.lt, hd1.pend.lt⟩
  clear hd1 hb1 l1 l2 l3
  go_wp2_with fail
  refine (open_new (first := 2) (N := 2) (a := 0) (b := 1) _ HD1.out Free.fresh geo4 (fun j _ => rfl)).mono ?_
  rintro e w2 ⟨lB, cB, rb, d2, c2, rfl, hd2, hf2, hg2, hl2, hb2, hs2, _⟩
  have HD2 := Lib.hid hd2
  have HF2 := Lib.hid hf2
  have HG2 := Lib.hid hg2
  have HL2 := Lib.hid hl2
  have HB2 : Hid (Below w.heap.size w w2) := Lib.hid (HB1.out.trans (hb2.to_below (by have := HL.out; simp; omega) HB1.out.size))
  have HOb : Hid (Calls Try.prog 10 #[.pointer (some ⟨dB, 0, none⟩), .int .i64 1, .int .i64 2, .int .i64 0, .int .i64 1] w2 fun e w' => e = .returned (.tuple #[.pointer none, .int .i64 1]) ∧ Below w2.heap.size w2 w') := Lib.hid (open_bad (first := 1) (N := 2) w2 hd2 0 1 (by omega) (by omega) (by omega) (by omega) (by omega) (by omega))
  clear hd2 hf2 hg2 hl2 hb2 hs2
  go_wp2_with fail
  refine HOb.out.mono ?_
  rintro e w3 ⟨rfl, hb3⟩
  have HD3 := Lib.hid (HD2.out.but (But.of_below hb3) (by simp) (by simp) (by simp))
  have HG3 := Lib.hid (HG2.out.below hb3)
  have HB3 : Hid (Below w.heap.size w w3) := Lib.hid (HB2.out.trans (hb3.mono HB2.out.size))
  clear hb3
  have hA := append_lg w3 HD3.out HF2.out HG3.out (by omega) sa
  rw [show M.appR 2 ⟨1, 1, 0, []⟩ sa = 0 by rfl, M.appL_ok] at hA
  have HA := Lib.hid hA
  clear hA
  go_wp2_with fail
  refine HA.out.mono ?_
  rintro e w4 ⟨rfl, d4, rb4, hd4, hf4, hg4, hr4, hb4, hs4⟩
  have hA := append_lg w4 hd4 hf4 hg4 (by omega) sb
  rw [show M.appR 2 ((⟨1, 1, 0, []⟩ : M.Lg).add sa) sb = 0 by rfl, M.appL_ok] at hA
  have HA4 := Lib.hid hA
  have HB4 : Hid (Below w.heap.size w w4) := Lib.hid (HB3.out.trans (hb4.to_below (by have := HL.out; have := HL2.out; have := HB1.out.size; simp; omega) HB3.out.size))
  have HR4 : Hid (w.heap.size ≤ rb4) := Lib.hid (by have := HL2.out; have := HB1.out.size; have := HB3.out.size; omega)
  clear hA hd4 hf4 hg4 hr4 hb4 hs4 HA
  go_wp2_with fail
  refine HA4.out.mono ?_
  rintro e w5 ⟨rfl, d5, rb5, hd5, hf5, hg5, hr5, hb5, hs5⟩
  have hA := append_lg w5 hd5 hf5 hg5 (by omega) sc
  rw [show M.appR 2 (((⟨1, 1, 0, []⟩ : M.Lg).add sa).add sb) sc = 12 by rfl, M.appL_no (by decide)] at hA
  have HA5 := Lib.hid hA
  have HB5 : Hid (Below w.heap.size w w5) := Lib.hid (HB4.out.trans (hb5.to_below (by have := HL.out; have := HL2.out; have := HB1.out.size; have := HR4.out; simp; omega) HB4.out.size))
  have HR5 : Hid (w.heap.size ≤ rb5) := Lib.hid (by have := HR4.out; have := HB4.out.size; omega)
  clear hA hd5 hf5 hg5 hr5 hb5 hs5 HA4
  go_wp2_with fail
  refine HA5.out.mono ?_
  rintro e w6 ⟨rfl, d6, rb6, hd6, hf6, hg6, hr6, hb6, hs6⟩
  have hT := trim_lg w6 hd6 hf6 hg6 (by omega) 1 (by simp [M.Lg.add])
  rw [show ((((⟨1, 1, 0, []⟩ : M.Lg).add sa).add sb).head + ((1 : Nat) : Int)) = 2 by rfl] at hT
  have HT6 := Lib.hid hT
  have HB6 : Hid (Below w.heap.size w w6) := Lib.hid (HB5.out.trans (hb6.to_below (by have := HL.out; have := HL2.out; have := HB1.out.size; have := HR5.out; simp; omega) HB5.out.size))
  have HR6 : Hid (w.heap.size ≤ rb6) := Lib.hid (by have := HR5.out; have := HB5.out.size; omega)
  clear hT hd6 hf6 hg6 hr6 hb6 hs6 HA5
  go_wp2_with fail
  refine HT6.out.mono ?_
  rintro e w7 ⟨rfl, d7, c7, hd7, hf7, hg7, hb7, hs7, _⟩
  have hA := append_lg w7 hd7 hf7 hg7 (by omega) sc
  rw [show M.appR 2 ((((⟨1, 1, 0, []⟩ : M.Lg).add sa).add sb).cut 1) sc = 0 by rfl, M.appL_ok] at hA
  have HA7 := Lib.hid hA
  have HB7 : Hid (Below w.heap.size w w7) := Lib.hid (HB6.out.trans (hb7.to_below (by have := HL.out; have := HL2.out; have := HB1.out.size; have := HR6.out; simp; omega) HB6.out.size))
  clear hA hd7 hf7 hg7 hb7 hs7 HT6
  go_wp2_with fail
  refine HA7.out.mono ?_
  rintro e w8 ⟨rfl, d8, rb8, hd8, hf8, hg8, hr8, hb8, hs8⟩
  have HSy := Lib.hid (sync_lg w8 hd8 hf8 hg8)
  have HB8 : Hid (Below w.heap.size w w8) := Lib.hid (HB7.out.trans (hb8.to_below (by have := HL.out; have := HL2.out; have := HB1.out.size; have := HR6.out; simp; omega) HB7.out.size))
  clear hd8 hf8 hg8 hr8 hb8 hs8 HA7
  go_wp2_with fail
  refine HSy.out.mono ?_
  rintro e w9 ⟨rfl, d9, hd9, hf9, hg9, hb9, hs9, hp9⟩
  have HCr := Lib.hid (crash_nil w9 hd9 hp9)
  have HGd := Lib.hid hg9.gd
  have HB9 : Hid (Below w.heap.size w w9) := Lib.hid (HB8.out.trans (hb9.to_below (by have := HL.out; simp; omega) HB8.out.size))
  clear hd9 hf9 hg9 hb9 hs9 hp9 HSy
  go_wp2_with fail
  refine HCr.out.mono ?_
  rintro e w10 ⟨rfl, d10, hd10, hf10, hs10, hb10⟩
  have HO10 := Lib.hid (open_again w10 hd10 hf10 geo4 (by omega) (Good_congr HGd.out (fun p _ => hs10 _) (hs10 _) (hs10 _)))
  have HB10 : Hid (Below w.heap.size w w10) := Lib.hid (HB9.out.trans (hb10.to_below (by have := HL.out; simp; omega) HB9.out.size))
  clear hd10 hf10 hs10 hb10 HCr HGd
  go_wp2_with fail
  refine HO10.out.mono ?_
  rintro e w11 ⟨lB', cB', rb', d11, c11, rfl, hd11, hf11, hg11, hl11, hb11, hs11, _⟩
  have HG11 := Lib.hid hg11
  have HB11 : Hid (Below w.heap.size w w11) := Lib.hid (HB10.out.trans (hb11.to_below (by have := HL.out; simp; omega) HB10.out.size))
  have HRc := Lib.hid (records_any w11 _ hg11.la)
  clear hd11 hf11 hg11 hl11 hb11 hs11 HO10
  go_wp2_with fail
  refine HRc.out.mono ?_
  rintro e w12 ⟨aR, cR, rfl, hown, hb12⟩
  have HG12 := Lib.hid (HG11.out.below hb12)
  have HB12 : Hid (Below w.heap.size w w12) := Lib.hid (HB11.out.trans (hb12.mono HB11.out.size))
  obtain ⟨b0, o0, t0, hb0, _, ht0, k0⟩ := C.row_str (C.own_row hown).1 0 (by decide)
  obtain ⟨b1, o1, t1, hb1', _, ht1, k1⟩ := C.row_str (C.own_row hown).1 1 (by decide)
  obtain ⟨_, rfl⟩ := (C.own_row hown).2 _ _ hb0
  subst hb0
  injection hb1' with hb1'
  injection hb1' with z1 z2 _
  subst z1 z2
  have ht0' : t0 = ⟨#[98]⟩ := (Option.some.inj ht0).symm
  have ht1' : t1 = ⟨#[99]⟩ := (Option.some.inj ht1).symm
  subst ht0' ht1'
  clear hown hb12 ht0 ht1 HRc
  have hlen : (((((⟨1, 1, 0, []⟩ : M.Lg).add sa).add sb).cut 1).add sc).anew.rs.length = 2 := rfl
  rw [hlen]
  have HH := Lib.hid (head_lg w12 HG12.out)
  have HTl := Lib.hid (tail_lg w12 HG12.out (by omega))
  have HTm : Hid (∀ j, Calls Try.prog 17 #[.pointer (some ⟨lB', 0, none⟩)] (w12.drewN j) fun e w' => e = .returned (.int .i64 2) ∧ w12.drewN j = w') := Lib.hid fun j => time_lg (w12.drewN j) (HG12.out.below (below_drewN _ _ j))
  have HFr : Hid (∀ j, Calls Try.prog 16 #[.pointer (some ⟨lB', 0, none⟩)] (w12.drewN j) fun e w' => e = .returned (.int .i64 0) ∧ ∃ i, w' = (w12.drewN j).drewN i) := Lib.hid fun j => free_lg (w12.drewN j) (HG12.out.below (below_drewN _ _ j))
  have HH2 : Hid (Calls Try.prog 13 #[.pointer (some ⟨lB', 0, none⟩)] w12 fun e w' => e = .returned (.int .i64 2) ∧ w12 = w') := HH
  have HTl2 : Hid (Calls Try.prog 23 #[.pointer (some ⟨lB', 0, none⟩)] w12 fun e w' => e = .returned (.int .i64 4) ∧ ∃ j, w' = w12.drewN j) := HTl
  clear HH HTl
  go_wp2_with (first
    | (go_at_call 13; with_reducible refine HH2.out.mono ?_; rintro e w' ⟨rfl, rfl⟩)
    | (go_at_call 23; with_reducible refine HTl2.out.mono ?_; rintro e w' ⟨rfl, j, rfl⟩)
    | (go_at_call 17; with_reducible refine (HTm.out _).mono ?_; rintro e w' ⟨rfl, rfl⟩)
    | (go_at_call 16; with_reducible refine (HFr.out _).mono ?_; rintro e w' ⟨rfl, j2, rfl⟩))
  go_ret
  exact ⟨rfl, below_dn HB12.out _⟩
end Go.Proofs.Ytbmgaopdahlkkaa
