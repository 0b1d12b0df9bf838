/-
  The calls whose answers the document fixes.
-/
import Derived.Test.YtcofahpeinkhfaaGreatDrl4
namespace Go.Proofs.YtcofahpeinkhfaaGreat
open Go.RowKit
set_option linter.unusedVariables false
set_option linter.unusedSimpArgs false
set_option maxRecDepth 20000

theorem D.e2 : B.M.put 0 1 = 2 := by decide
theorem D.b62 : (D.blocks 6 2).length = 2 := by decide
theorem fnd0 : M.found (M.rdS (M.seen M.fresh 0)) (M.rdS (M.seen M.fresh 1)) = M.none0 := found_zero
theorem D.marks_fresh (bl : Nat) : D.marks bl (M.found (M.rdS (M.seen M.fresh 0)) (M.rdS (M.seen M.fresh 1))).text = 0 := by
  rw [fnd0]; exact D.marks_empty bl

theorem open016 (w : World) {dB sB mB : Nat} {d : M.Dv} (h : DevAt w dB sB mB 2 d) (hf : Free d) :
    Calls Tryz.prog 7 #[.pointer (some ⟨dB, 0, none⟩), .int .i64 0, .int .i64 1, .int .i64 6] w fun e w' => ∃ lB cB, e = .returned (.tuple #[.pointer (some ⟨lB, 0, none⟩), .int .i64 0]) ∧ w.heap.size ≤ cB ∧ w.heap.size ≤ lB ∧ lB ≠ cB ∧
      LF w' dB sB mB 2 d lB cB 0 1 6 (M.found (M.rdS (M.seen d 0)) (M.rdS (M.seen d 1))) ∧ Below w.heap.size w w' :=
  lopen_free w h hf 0 1 (by omega) (by omega) (by omega) 6 (by omega)
theorem mark5 (w : World) {dB sB mB n lB cB a b : Nat} {d : M.Dv} {c : M.Cl} (H : LF w dB sB mB n d lB cB a b 6 c) (hg : c.gen < 4611686018427387904) :
    Calls Tryz.prog 10 #[.pointer (some ⟨lB, 0, none⟩), .int .i64 5] w fun e w' => e = .returned (.int .i64 0) ∧ ∃ d' c', LF w' dB sB mB n d' lB cB a b 6 c' ∧
      D.marks 6 c'.text = B.M.put (D.marks 6 c.text) 1 ∧ c'.gen ≤ c.gen + 1 ∧ ((∀ k, d.P k = none) → ∀ k, d'.P k = none) ∧ But [dB, sB, mB, cB] w w' := mark_free w H hg 5 (by omega)
theorem has6 (w : World) {dB sB mB n lB cB a b : Nat} {d : M.Dv} {c : M.Cl} (H : LF w dB sB mB n d lB cB a b 6 c) (hm : D.marks 6 c.text = 2) (i : Int) (v : Bool) (hv : D.has 6 2 i = v) :
    Calls Tryz.prog 24 #[.pointer (some ⟨lB, 0, none⟩), .int .i64 i] w fun e w' => e = .returned (.bool v) ∧ Below w.heap.size w w' := by
  have := lhas_any w H.ld.li H.ld.cel H.ld.bl1 H.ld.tx i
  rwa [hm, hv] at this
theorem blocks6 (w : World) {dB sB mB n lB cB a b : Nat} {d : M.Dv} {c : M.Cl} (H : LF w dB sB mB n d lB cB a b 6 c) (hm : D.marks 6 c.text = 2) :
    Calls Tryz.prog 22 #[.pointer (some ⟨lB, 0, none⟩)] w fun e w' => ∃ x cap, e = .returned (.slice x 2 cap) ∧ Below w.heap.size w w' := by
  refine (blocks_any w H.ld.li H.ld.cel H.ld.bl1 H.ld.tx).mono ?_
  rw [hm, D.b62]
  rintro e w' ⟨x, cap, rfl, _, hb⟩
  exact ⟨x, cap, rfl, hb⟩
theorem blocks0 (w : World) {dB sB mB n lB cB a b bl : Nat} {d : M.Dv} {c : M.Cl} (H : LF w dB sB mB n d lB cB a b bl c) (hm : D.marks bl c.text = 0) :
    Calls Tryz.prog 22 #[.pointer (some ⟨lB, 0, none⟩)] w fun e w' => ∃ x cap, e = .returned (.slice x 0 cap) ∧ Below w.heap.size w w' := by
  refine (blocks_any w H.ld.li H.ld.cel H.ld.bl1 H.ld.tx).mono ?_
  rw [hm, D.blocks_none, List.length_nil]
  rintro e w' ⟨x, cap, rfl, _, hb⟩
  exact ⟨x, cap, rfl, hb⟩
theorem row6 (w : World) {dB sB mB n lB cB a b : Nat} {d : M.Dv} {c : M.Cl} (H : LF w dB sB mB n d lB cB a b 6 c) (hm : D.marks 6 c.text = 0) :
    Calls Tryz.prog 26 #[.pointer (some ⟨lB, 0, none⟩)] w fun e w' => e = .returned (.agg #[.int .i64 2, .int .u64 0]) ∧ Below w.heap.size w w' := by
  refine (row_any w H.ld.li H.ld.cel H.ld.bl1 H.ld.tx).mono ?_
  rw [hm]
  rintro e w' ⟨rfl, hb⟩
  exact ⟨rfl, hb⟩
theorem len6 (w : World) : Calls Tryz.prog 31 #[.agg #[.int .i64 2, .int .u64 0]] w fun e w' => e = .returned (.int .i64 2) ∧ Below w.heap.size w w' := B.len_any 2 0 w

theorem new2 (w : World) : Calls Tryz.prog 5 #[.int .i64 2] w fun e w' =>
    ∃ dB sB mB, e = .returned (.pointer (some ⟨dB, 0, none⟩)) ∧ DevAt w' dB sB mB 2 M.fresh ∧ Below w.heap.size w w' ∧ w.heap.size ≤ dB ∧ w.heap.size ≤ sB ∧ w.heap.size ≤ mB := new_yes 2 (by omega) w
set_option maxHeartbeats 4000000 in
theorem awake_any (w : World) : Calls Tryz.prog 4 #[] w fun e w' => e = .returned (.bool true) ∧ Below w.heap.size w w' := by
  go_enter Tryz.func4, Tryz.ntmps4
  go_wp2_with (first
    | (go_at_call 5; with_reducible refine (new2 _).mono ?_; rintro e w1 ⟨dB, sB, mB, rfl, hd, hb, l1, l2, l3⟩
       have HD1 := Lib.hid hd
       have HB1 := Lib.hid hb
       have HL := Lib.hid (And.intro l1 (And.intro l2 l3))
       clear hd hb l1 l2 l3)
    | (go_at_call 7; with_reducible refine (open016 w1 HD1.out Free.fresh).mono ?_; rintro e w2 ⟨lB, cB, rfl, h1, h2, h3, h4, h5⟩
       have H2 := Lib.hid h4
       have Hg2 : Hid ((M.found (M.rdS (M.seen M.fresh 0)) (M.rdS (M.seen M.fresh 1))).gen < 4611686018427387904) := Lib.hid (by rw [fnd0]; decide)
       have HB2 := Lib.hid (HB1.out.trans (h5.mono HB1.out.size))
       have Hcb := Lib.hid (And.intro (Nat.le_trans HB1.out.size h1) (Nat.le_trans HB1.out.size h2))
       clear h1 h2 h3 h4 h5)
    | (go_at_call 7; with_reducible refine (lopen_arg w2 _ 0 1 0 (by omega)).mono ?_; rintro e w3 ⟨rfl, rfl⟩)
    | (go_at_call 10; with_reducible refine (mark5 w2 H2.out Hg2.out).mono ?_; rintro e w4 ⟨rfl, d', c', h4, h5, h6, h7, h8⟩
       have H4 := Lib.hid h4
       have HM4 : Hid (D.marks 6 c'.text = 2) := Lib.hid (by rw [h5, D.marks_fresh]; exact D.e2)
       have HG4 : Hid (c'.gen ≤ 1) := Lib.hid (by rw [fnd0] at h6; exact h6)
       have HP4 := Lib.hid (h7 (fun _ => rfl))
       have HB4 : Hid (Below w.heap.size w w4) := Lib.hid (HB2.out.trans (h8.to_below (by have := HL.out; have := Hcb.out; simp; omega) HB2.out.size))
       clear h4 h5 h6 h7 h8)
    | (go_at_call 10; with_reducible refine (mark_out w4 H4.out.ld.li 6 (by omega)).mono ?_; rintro e w5 ⟨rfl, rfl⟩)
    | (go_at_call 16; with_reducible refine (crash_nil w4 H4.out.ld.dev HP4.out).mono ?_; rintro e w6 ⟨rfl, d6, h1, h2, h3, h4⟩
       have HD6 := Lib.hid h1
       have HF6 := Lib.hid h2
       have HS6 := Lib.hid h3
       have HB6 : Hid (Below w.heap.size w w6) := Lib.hid (HB4.out.trans (h4.to_below (by have := HL.out; simp; omega) HB4.out.size))
       clear h1 h2 h3 h4)
    | (go_at_call 7; with_reducible refine (open016 w6 HD6.out HF6.out).mono ?_; rintro e w7 ⟨lC, cC, rfl, h1, h2, h3, h4, h5⟩
       have he : M.found (M.rdS (M.seen d6 0)) (M.rdS (M.seen d6 1)) = c' := by rw [H4.out.fnd, show M.seen d6 0 = M.seen d' 0 from HS6.out 0, show M.seen d6 1 = M.seen d' 1 from HS6.out 1]
       rw [he] at h4
       have H7 := Lib.hid h4
       have HB7 := Lib.hid (HB6.out.trans (h5.mono HB6.out.size))
       have Hcb7 := Lib.hid (And.intro (Nat.le_trans HB6.out.size h1) (Nat.le_trans HB6.out.size h2))
       clear h1 h2 h3 h4 h5 he)
    | (go_at_call 24; with_reducible refine (has6 w7 H7.out HM4.out 4 _ rfl).mono ?_; rintro e w8 ⟨rfl, hb⟩
       have H8 := Lib.hid (H7.out.below hb)
       have HB8 := Lib.hid (B.below_up HB7.out hb HB7.out.size)
       clear hb)
    | (go_at_call 24; with_reducible refine (has6 w8 H8.out HM4.out 3 _ rfl).mono ?_; rintro e w9 ⟨rfl, hb⟩
       have H9 := Lib.hid (H8.out.below hb)
       have HB9 := Lib.hid (B.below_up HB8.out hb HB8.out.size)
       clear hb)
    | (go_at_call 22; with_reducible refine (blocks6 w9 H9.out HM4.out).mono ?_; rintro e w10 ⟨x, cap, rfl, hb⟩
       have H10 := Lib.hid (H9.out.below hb)
       have HB10 := Lib.hid (B.below_up HB9.out hb HB9.out.size)
       clear hb)
    | (go_at_call 12; with_reducible refine (clear_free w10 H10.out (by have := HG4.out; omega)).mono ?_; rintro e w11 ⟨rfl, d8, c8, h4, h5, h6, h7, h8⟩
       have H11 := Lib.hid h4
       have HM11 := Lib.hid h5
       have HB11 : Hid (Below w.heap.size w w11) := Lib.hid (HB10.out.trans (h8.to_below (by have := HL.out; have := Hcb7.out; simp; omega) HB10.out.size))
       clear h4 h5 h6 h7 h8)
    | (go_at_call 22; with_reducible refine (blocks0 w11 H11.out HM11.out).mono ?_; rintro e w12 ⟨x2, cap2, rfl, hb⟩
       have H12 := Lib.hid (H11.out.below hb)
       have HB12 := Lib.hid (B.below_up HB11.out hb HB11.out.size)
       clear hb)
    | (go_at_call 26; with_reducible refine (row6 w12 H12.out HM11.out).mono ?_; rintro e w13 ⟨rfl, hb⟩
       have HB13 := Lib.hid (B.below_up HB12.out hb HB12.out.size)
       clear hb)
    | (go_at_call 31; with_reducible refine (len6 w13).mono ?_; rintro e w14 ⟨rfl, hb⟩
       have HB14 := Lib.hid (B.below_up HB13.out hb HB13.out.size)
       clear hb))
  go_ret
  exact ⟨rfl, HB14.out⟩
end Go.Proofs.YtcofahpeinkhfaaGreat
