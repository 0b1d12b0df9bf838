/-
  PROVED: A device with a fuse does so many acts more, each told OK, and no more: from then on it is dead and tells ErrDown. CONDITIONS: none (any fuse, any acts).
-/
import Derived.Test.YtbcblcnnffdjdaaOpen
namespace Go.Proofs.Ytbcblcnnffdjdaa.sectorFuse
open Go.ChangeShapes Go.WideShapes Go.ChangeAt Go.RowKit Go.Joins
set_option linter.unusedVariables false
set_option linter.unusedSimpArgs false
set_option maxRecDepth 20000

/-- a device whose fuse lasts for so many acts more -/
def FInv (d : M.Dv) (left : Int) : Prop := (0 ≤ left → d.fuse = left ∧ d.dead = false) ∧ (left < 0 → d.dead = true)
theorem finv_write {d : M.Dv} {left : Int} (h : FInv d left) {i : Int} (h0 : 0 ≤ i) (h1 : i < 16) {b : List UInt8} (hb : ¬ 144 < b.length) :
    M.writeE 16 d i b = (if 0 < left then 0 else 30) ∧ FInv (M.writeD 16 d i b) (left - 1) ∧ (M.writeD 16 d i b).dead = decide (left ≤ 0) := by
  obtain ⟨h2, h3⟩ := h
  unfold M.writeE M.writeD FInv
  by_cases hl : left < 0
  · have hd := h3 hl
    have hr : M.reach 16 d i = 30 := by simp [M.reach, hd]
    rw [hr]
    have e1 : ¬ 0 < left := by omega
    have e2 : left ≤ 0 := by omega
    simp [hd, e1, e2]
    omega
  · obtain ⟨hf, hd⟩ := h2 (by omega)
    have hr : M.reach 16 d i = 0 := by
      have : ¬ (i < 0 ∨ ((16 : Nat) : Int) ≤ i) := by omega
      simp [M.reach, hd]
      omega
    rw [hr]
    simp only [if_true, if_neg hb, M.actE, M.actD, hf]
    by_cases h0 : left = 0
    · subst h0; simp [hf]
    · have e1 : 0 < left := by omega
      have e2 : ¬ left ≤ 0 := by omega
      simp [h0, e1, e2, hd]
      omega
theorem finv_barrier {d : M.Dv} {left : Int} (h : FInv d left) :
    M.barrierE d = (if 0 < left then 0 else 30) ∧ FInv (M.barrierD d) (left - 1) ∧ (M.barrierD d).dead = decide (left ≤ 0) := by
  obtain ⟨h2, h3⟩ := h
  unfold M.barrierE M.barrierD FInv
  by_cases hl : left < 0
  · have hd := h3 hl
    have e1 : ¬ 0 < left := by omega
    have e2 : left ≤ 0 := by omega
    simp [hd, e1, e2]
    omega
  · obtain ⟨hf, hd⟩ := h2 (by omega)
    simp only [hd, M.actE, M.actD, hf]
    by_cases h0 : left = 0
    · subst h0; simp [hf]
    · have e1 : 0 < left := by omega
      have e2 : ¬ left ≤ 0 := by omega
      simp [h0, e1, e2, hd]
      omega
theorem and15 (a : Int) : 0 ≤ bits .and .i64 a 15 ∧ bits .and .i64 a 15 < 16 := by
  have h : ∀ m : Nat, m ≤ 15 → IntKind.i64.wrap (m : Int) = m := by
    intro m hm
    have : (m : Int) % 2 ^ IntKind.i64.bits = m := Int.emod_eq_of_lt (by omega) (by simp [IntKind.bits]; omega)
    simp only [IntKind.wrap, this]
    rw [if_neg]
    simp [IntKind.bits]
    omega
  have h2 : (BitVec.ofInt 64 a &&& BitVec.ofInt 64 15).toNat ≤ 15 := by
    rw [BitVec.toNat_and]
    exact Nat.and_le_right
  have e : bits .and .i64 a 15 = IntKind.i64.wrap (((BitVec.ofInt 64 a &&& BitVec.ofInt 64 15).toNat : Nat) : Int) := rfl
  rw [e, h _ h2]
  omega

set_option maxHeartbeats 4000000 in
theorem walk (x0 : Int) (a1 : Option Addr) (n1 c1 : Nat) (l1 : List A) (w : World) (w0 : (Lit.int .u8 x0).wf = true) (w1 : Acts w a1 n1 c1 l1) :
    Calls Try.prog 5 #[.int .u8 x0, .slice a1 n1 c1] w fun e w' => e = .returned (.bool true) ∧ Below w.heap.size w w' := by
  have HA := Lib.hid (awake_any w)
  have HW := Lib.hid w1
  have hx : 0 ≤ x0 ∧ x0 ≤ 255 := by
    simp [Lit.wf, IntKind.min, IntKind.max, IntKind.signed, IntKind.bits] at w0
    omega
  have hx0 := hx.1
  have hx1 := hx.2
  clear w0 w1 hx
  have hq0 : 0 ≤ x0 % 60 := by omega
  have hq1 : x0 % 60 ≤ 59 := by omega
  go_enter Try.func5, Try.ntmps5
  go_wp2_with (first
    | (go_at_call 9; refine HA.out.mono ?_; rintro e w1 ⟨rfl, hb1⟩; have HB1 := Lib.hid hb1; clear hb1)
    | (go_at_call 10; refine (new_yes 16 (by omega) _).mono ?_; rintro e w2 ⟨dB, sB, mB, rfl, hd2, hb2, l1, l2, l3⟩
       have HD2 := Lib.hid hd2
       have HB2 := Lib.hid (HB1.out.trans (hb2.mono HB1.out.size))
       have HL : Hid (w.heap.size ≤ dB ∧ w.heap.size ≤ sB ∧ w.heap.size ≤ mB) := Lib.hid ⟨by have := HB1.out.size; omega, by have := HB1.out.size; omega, by have := HB1.out.size; omega⟩
       clear hd2 hb2 l1 l2 l3))
  refine (fuse_any _ HD2.out (x0 % 60) (by omega) (by omega)).mono ?_
  rintro e w3 ⟨rfl, hd3, hb3⟩
  have HD3 := Lib.hid hd3
  have HB3 : Hid (But [dB, sB, mB] w2 w3) := Lib.hid (hb3.mono (by simp))
  have HF : Hid (FInv (M.fuseD M.fresh (x0 % 60)) (x0 % 60 - ((0 : Nat) : Int))) := Lib.hid ⟨fun _ => ⟨by simp [M.fuseD], rfl⟩, fun h => by omega⟩
  clear hd3 hb3 hx0 hx1
  generalize x0 % 60 = q at *
  generalize M.fuseD M.fresh q = d3 at *
  go_wp2_with fail
  go_loopw [6, 7, 8, 9] (fun t i _ _ wr => ∃ (k : Nat) (d : M.Dv), k ≤ 80 ∧ k ≤ n1 ∧ i = .int .i64 k ∧ t = .int .i64 (q - k) ∧ DevAt wr dB sB mB 16 d ∧ But [dB, sB, mB] w2 wr ∧ FInv d (q - k)) (fun _ i _ _ _ => 80 - (intOf i).toNat)
  case atStart => exact ⟨0, d3, by omega, by omega, rfl, by simp, HD3.out, HB3.out, HF.out⟩
  case round =>
    obtain ⟨k, d, hk, hkn, rfl, rfl, hdv, hbw, hf⟩ := hrel
    have HDv := Lib.hid hdv
    have HBw := Lib.hid hbw
    have HF := Lib.hid hf
    have HBel : Hid (Below w.heap.size w wr) := Lib.hid (HB2.out.trans (hbw.to_below (by have := HL.out; simp; omega) HB2.out.size))
    clear hdv hbw hf HD3 HB3
    have hk0 : (0 : Int) ≤ (k : Int) := by omega
    by_cases hend : k = n1
    · have hge : ¬ ((k : Int) < (n1 : Int)) := by omega
      clear hend
      go_wp2_with fail
      go_ret
      exact ⟨rfl, HBel.out⟩
    · have hlt : (k : Int) < (n1 : Int) := by omega
      by_cases h80 : k = 80
      · have hge : ¬ ((k : Int) < 80) := by omega
        clear h80 hend
        go_wp2_with fail
        go_ret
        exact ⟨rfl, HBel.out⟩
      · have hlt8 : (k : Int) < 80 := by omega
        obtain ⟨b, off, x, rfl, hx, hok0, hok, g1, g2, g3, g4, hbl⟩ := acts_at HW.out HBel.out (show k < n1 by omega)
        have HX := Lib.hid (And.intro hx (And.intro hok0 (And.intro hok hbl)))
        clear hx hok0 hok hbl hend h80
        by_cases hbig : 144 < x.m
        · have hbigI : (144 : Int) < (x.m : Int) := by omega
          clear hbig
          go_wp2_with fail
          go_ret
          exact ⟨rfl, HBel.out.alloc HBel.out.size _⟩
        · have hbigI : ¬ ((144 : Int) < (x.m : Int)) := by omega
          have Hbig := Lib.hid hbig
          clear hbig
          have HD4 := Lib.hid (HDv.out.alloc (.cells #[.int .i64 x.kind, .int .i64 x.i, .slice x.aB x.m x.c, .slice x.aL x.k x.cL] 31))
          have HB4 := Lib.hid (HBw.out.alloc (.cells #[.int .i64 x.kind, .int .i64 x.i, .slice x.aB x.m x.c, .slice x.aL x.k x.cL] 31))
          have HR4 := Lib.hid (HX.out.2.2.1.but ((But.refl [] wr).alloc (.cells #[.int .i64 x.kind, .int .i64 x.i, .slice x.aB x.m x.c, .slice x.aL x.k x.cL] 31)) (by simp)).row
          have hoff := row_old HX.out.2.1.row (l := [dB]) (by have := HL.out; simp; omega)
          by_cases hpos : 0 < q - (k : Int)
          all_goals
            by_cases hk1 : x.kind = 1
            · have HK := Lib.hid hk1
              have hk1b : (x.kind == 1) = true := by simpa using hk1
              have Hoff := Lib.hid hoff
              clear hk1 hoff
              go_wp2_with fail
              refine (barrier_any _ HD4.out).mono ?_
              obtain ⟨f1, f2, f3⟩ := finv_barrier HF.out
              rw [f1]
              rintro e w5 ⟨rfl, hd5, hb5⟩
              have HDD := Lib.hid (dead_any _ hd5)
              rw [f3] at HDD
              have HD5 := Lib.hid hd5
              have HB5 := Lib.hid (HB4.out.trans hb5)
              have HF5 := Lib.hid f2
              clear f1 f2 f3 hd5 hb5
              first
                | rw [if_pos (show 0 < q - (k : Int) by omega)]
                | rw [if_neg (show ¬ 0 < q - (k : Int) by omega)]
              first
                | (have hle : decide (q - (k : Int) ≤ 0) = false := by simp; omega
                   rw [hle] at HDD
                   clear hle
                   go_wp2_with (go_at_call 29; refine HDD.out.mono ?_; rintro e w' ⟨rfl, rfl⟩))
                | (have hle : decide (q - (k : Int) ≤ 0) = true := by simp; omega
                   rw [hle] at HDD
                   have hnp : q - (k : Int) ≤ 0 := by omega
                   clear hle hpos
                   go_wp2_with (go_at_call 29; refine HDD.out.mono ?_; rintro e w' ⟨rfl, rfl⟩))
              go_roundw
              case rel => exact ⟨k + 1, _, by omega, by omega, by go_num, by (have : q - (k : Int) - 1 = q - ((k + 1 : Nat) : Int) := by omega); rw [this], HD5.out, HB5.out, by (have : q - (k : Int) - 1 = q - ((k + 1 : Nat) : Int) := by omega); rw [← this]; exact HF5.out⟩
              case measure => simp [intOf]; omega
            · have hk1b : (x.kind == 1) = false := by simpa using hk1
              have Hoff := Lib.hid hoff
              clear hk1 hoff
              go_wp2_with fail
              refine (write_any _ HD4.out _ (by have := and15 x.i; omega) (by have := and15 x.i; omega) _ _ _ x.b HR4.out Hoff.out).mono ?_
              obtain ⟨f1, f2, f3⟩ := finv_write HF.out (and15 x.i).1 (and15 x.i).2 (b := x.b) (by have := Hbig.out; have := HX.out.2.1.len.1; omega)
              rw [f1]
              rintro e w5 ⟨rfl, hd5, hb5⟩
              have HDD := Lib.hid (dead_any _ hd5)
              rw [f3] at HDD
              have HD5 := Lib.hid hd5
              have HB5 : Hid (But [dB, sB, mB] w2 w5) := Lib.hid (HB4.out.trans (hb5.mono (by simp)))
              have HF5 := Lib.hid f2
              clear f1 f2 f3 hd5 hb5
              first
                | rw [if_pos (show 0 < q - (k : Int) by omega)]
                | rw [if_neg (show ¬ 0 < q - (k : Int) by omega)]
              first
                | (have hle : decide (q - (k : Int) ≤ 0) = false := by simp; omega
                   rw [hle] at HDD
                   clear hle
                   go_wp2_with (go_at_call 29; refine HDD.out.mono ?_; rintro e w' ⟨rfl, rfl⟩))
                | (have hle : decide (q - (k : Int) ≤ 0) = true := by simp; omega
                   rw [hle] at HDD
                   have hnp : q - (k : Int) ≤ 0 := by omega
                   clear hle hpos
                   go_wp2_with (go_at_call 29; refine HDD.out.mono ?_; rintro e w' ⟨rfl, rfl⟩))
              go_roundw
              case rel => exact ⟨k + 1, _, by omega, by omega, by go_num, by (have : q - (k : Int) - 1 = q - ((k + 1 : Nat) : Int) := by omega); rw [this], HD5.out, HB5.out, by (have : q - (k : Int) - 1 = q - ((k + 1 : Nat) : Int) := by omega); rw [← this]; exact HF5.out⟩
              case measure => simp [intOf]; omega

set_option maxRecDepth 100000 in
theorem lifted (os : Os) (started : os.Started) (H : Type) (enc : TypeId × Value → H) :
    ReturnsInHanded {} Try.checked os 5 .any (Rows.sectorFuseSpec.pre6 enc Try.prog Try.f5 Rows.sectorFuseRow.domain false) (Rows.sectorFuseSpec.post enc Try.prog Try.f5 false true false false) := by
  refine returnsInHanded_of_change (C := Try.checked) own started (by kernel_rfl) Try.func5
    (ChangeSpec.witness6 (enc := enc) (C := Try.checked) false ⟨#[], #[.int .u8 0, .slice none 0 0], []⟩ 8 (by kernel_rfl) (by kernel_rfl) (by kernel_rfl) (by kernel_rfl)) ?_
  intro W base args ds gs before hval0 hW hcnd _
  have hval : ∀ (j : Nat) t v, Try.f5.params[j]? = some t → args[j]? = some v → Value.okWide Try.prog W .any base t v := hval0
  have hW' := hW
  obtain ⟨p, q, hA0, hV, rfl, hfz, hnd⟩ := hW
  have hA : DataW.TrodAll enc Try.prog W 0 (fun _ => true) true Try.f5.params.toList args.toList ds p := hA0
  rw [Try.params5] at hA hval
  obtain ⟨v0, vs0, d0, ds0, p0, q0, hargs, rfl, rfl, h0, r0'⟩ := trodAll_cons hA
  obtain ⟨v1, vs1, d1, ds1, p1, q1, rfl, rfl, rfl, h1, r1'⟩ := trodAll_cons r0'
  obtain ⟨rfl, rfl, rfl⟩ := trodAll_nil r1'
  obtain rfl : args = #[v0, v1] := by cases args; simp_all
  obtain ⟨rfl, rfl⟩ := trodVars_none hV
  obtain ⟨x0, rfl, rfl, rfl, w0⟩ := open_int Try.underlying5 (hval 0 5 v0 rfl rfl) h0
  have k1 := h1
  have lt1 : ∀ x ∈ p1, x.block < W.heap.size := by obtain ⟨m, hm⟩ := k1; exact DataW.trod_lt m _ _ _ hm
  obtain ⟨a1, n1, c1, l1, rfl, w1⟩ := open_lot h1 (okWide_slice Try.underlying22 (hval 1 22 v1 rfl rfl))
  clear hA0 hval0
  refine (walk x0 a1 n1 c1 l1 W w0 w1).mono fun e W' ⟨he, bel⟩ => ?_
  subst he
  exact ⟨_, rfl, _, _, _, [], _, [], hW', trodAll_mk1 (shut_bool Try.underlying4 _), (trodAll_cons_mk (shut_int Try.underlying5 w0) (trodAll_cons_mk (Below.trod laidOut (by kernel_rfl) (of_decide_eq_true (by kernel_rfl)) k1 bel lt1) trodAll_mk0)), rfl, bel.frame _, fun h => by cases h⟩

theorem over : Rows.sectorFuseRow.holds Try.pinned (OpenSpec.ofChange Rows.sectorFuseSpec) :=
  OpenClaim.holds_of_wide 5 Try.f5 rfl rfl rfl rfl rfl rfl rfl ⟨rfl, rfl, rfl, rfl, rfl⟩ rfl rfl rfl rfl rfl (by kernel_rfl) Try.func5 (by kernel_rfl)
    (of_decide_eq_true (by kernel_rfl)) (by unfold Func.isWrapper; first | (rw [if_pos (by decide +kernel)]; kernel_rfl) | (rw [if_neg (by decide +kernel)]; exact ⟨rfl, rfl⟩))
    (fun os started H enc _ => lifted os started H enc)

/-- the statement -/
theorem proved : Rows.SectorFuseSaid := over
#print axioms proved
end Go.Proofs.Ytbcblcnnffdjdaa.sectorFuse
