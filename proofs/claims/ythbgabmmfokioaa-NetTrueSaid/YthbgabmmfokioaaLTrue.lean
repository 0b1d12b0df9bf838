/-
  PROVED: Nothing is taken that was not sent, as often as it was sent and doubled at most; and what is under way are those, less what was taken and lost. CONDITIONS: none (any acts, of which up to 100 are done).
-/
import Derived.Test.YthbgabmmfokioaaNtMap3
import Derived.Deep.CutBlock
import Derived.Deep.DeepCutAuto
import Derived.Deep.RegionHeld3
namespace Go.Proofs.Ythbgabmmfokioaa.netTrue
open Go.ChangeShapes Go.WideShapes Go.ChangeAt Go.RowKit Go.Joins
set_option linter.unusedVariables false
set_option linter.unusedSimpArgs false
set_option maxRecDepth 20000

open Nt Maps
theorem acts_at {w : World} {a : Option Addr} {n c : Nat} {l : List Ac} (h : Acts w a n c l) {k : Nat} (hk : k < n) :
    ∃ y b off, l[k]? = some y ∧ a = some ⟨b, off, none⟩ ∧ y.Wf ∧ b < w.heap.size ∧ ∀ i v, y.cells[i]? = some v → w.cell? ⟨b, off + k * 5 + i, none⟩ = some v := by
  obtain ⟨h1, _, _, h4, h5⟩ := h
  have hx : l[k]? = some (l[k]'(by omega)) := List.getElem?_eq_getElem _
  rcases h5 with h5 | ⟨b, off, ha, hb, hc⟩
  · subst h5; simp at h1; omega
  · exact ⟨_, b, off, hx, ha, h4 _ (List.getElem_mem _), hb, fun i v hv => by rw [Nat.add_assoc]; exact hc k _ hx i v hv⟩
section
variable {w0 w : World} {p B n : Nat} {f : Lt → Option Int} {hs : List (Nat × Obj)}
theorem none_take_t (h : TX w0 w p [] B n f hs) (i : Int) : Calls Try.prog 13 #[.pointer (some ⟨p, 0, none⟩), .int .i64 i] w fun e w' => e = .returned (.tuple #[.agg #[.int .i64 0, .int .i64 0, .string ⟨#[]⟩], .bool false]) ∧ TX w0 w' p [] B n f hs := by
  have := h.take i
  rwa [takeL_nil] at this
theorem none_copy_t (h : TX w0 w p [] B n f hs) (i : Int) : Calls Try.prog 15 #[.pointer (some ⟨p, 0, none⟩), .int .i64 i] w fun e w' => e = .returned (.bool false) ∧ TX w0 w' p [] B n f hs := h.copy i
theorem none_drop_t (h : TX w0 w p [] B n f hs) (i : Int) : Calls Try.prog 17 #[.pointer (some ⟨p, 0, none⟩), .int .i64 i] w fun e w' => e = .returned (.bool false) ∧ TX w0 w' p [] B n f hs := by
  have := h.drop i
  rwa [takeL_nil] at this
end

set_option maxHeartbeats 4000000 in
theorem walk (a0 : Option Addr) (n0 c0 : Nat) (l0 : List Nt.Ac) (w : World) (w0 : Nt.Acts w a0 n0 c0 l0) :
    Calls Try.prog 4 #[.slice a0 n0 c0] w fun e w' => e = .returned (.bool true) ∧ Below w.heap.size w w' := by
  have HA := Lib.hid w0
  have hm0 : n0 ≤ 9223372036854775807 := by obtain ⟨_, h1, h2, _⟩ := w0; simp only [maxLen] at h2; omega
  have hg := lt_guard
  have hp := lt_held
  have hmm := @run_makeMap Try.prog
  clear w0
  go_enter Try.func4, Try.ntmps4
  go_wp2_with (first
    | (go_at_call 9; with_reducible refine (awake_any _).mono ?_; rintro e w1 ⟨rfl, hb1⟩
       have HB := Lib.hid hb1
       clear hb1)
    | (go_at_call 10; with_reducible refine (new_run _ _ HB.out).mono ?_; rintro e w2 ⟨p, rfl, h1, _, _⟩
       have H := Lib.hid (TX.new h1)
       clear h1))
  generalize w2.heap.size = B at *
  go_loopw [5] (fun i wr => ∃ (k n : Nat) (l : List Lt) (f : Lt → Option Int), k ≤ n0 ∧ k ≤ 100 ∧ n ≤ k ∧ i = .int .i64 (k : Int) ∧ TX w wr p l B n f [] ∧ GdAll l ∧ Cnt l f) (fun i _ => 100 - (intOf i).toNat)
  case atStart => exact ⟨0, 0, [], _, by omega, by omega, by omega, rfl, H.out, fun y hy => (by cases hy), cnt_nil⟩
  case round =>
    obtain ⟨k, n, l, f, hk1, hk2, hnk, rfl, hr, hgd, hct⟩ := hrel
    obtain ⟨wo, hwo⟩ : ∃ x, x = wr := ⟨_, rfl⟩
    subst hwo
    have HR := Lib.hid hr
    have HG := Lib.hid hgd
    have HT := Lib.hid hct
    have hl3 : l.length ≤ 300 := hr.len3
    clear hr hgd hct
    by_cases hlt : k < n0 ∧ k < 100
    · have hltI : (k : Int) < (n0 : Int) := by omega
      have hltJ : (k : Int) < 100 := by omega
      obtain ⟨y, b, off, hy, rfl, hyw, hb, hc⟩ := acts_at HA.out hlt.1
      obtain ⟨kd, yi, fr, tu, body⟩ := y
      have c0 := hc 0 _ rfl
      have c1 := hc 1 _ rfl
      have c2 := hc 2 _ rfl
      have c3 := hc 3 _ rfl
      have c4 := hc 4 _ rfl
      simp only [Nat.add_zero] at c0 c1 c2 c3 c4
      have d0 := (HR.out.be.cell hb).trans c0
      have d1 := (HR.out.be.cell hb).trans c1
      have d2 := (HR.out.be.cell hb).trans c2
      have d3 := (HR.out.be.cell hb).trans c3
      have d4 := (HR.out.be.cell hb).trans c4
      have HW := Lib.hid hyw.1
      clear c0 c1 c2 c3 c4 hc hyw
      have HH := Lib.hid (HR.out.hold (.cells #[.int .i64 kd, .int .i64 yi, .int .i64 fr, .int .i64 tu, .string body] 33))
      have HAl := Lib.hid HH.out.all
      go_upto_block 2 with (go_at_call 18; with_reducible refine HAl.out.mono ?_; rintro e w5 ⟨tW, cW, ht, rfl, h5, q5, b5⟩
                            have H5 := Lib.hid h5
                            have Q5 := Lib.hid q5
                            have B5 := Lib.hid b5
                            have x0 := cell_of_row _ _ 0 _ _ _ (h5.held (g := wo.heap.size) (List.mem_append_right _ (List.mem_cons_self ..)))
                            simp at x0
                            clear h5 q5 b5)
      go_cut [5] (fun i wx => i = .int .i64 (k : Int) ∧ ∃ l' n' f', n' ≤ k + 1 ∧ TX w wx p l' B n' f' [] ∧ GdAll l' ∧ Cnt l' f')
      case first =>
        have HC : Hid (∀ W l1 n1 f1, TX w W p l1 B n1 f1 (ht ++ [(wo.heap.size, .cells #[.int .i64 kd, .int .i64 yi, .int .i64 fr, .int .i64 tu, .string body] 33)]) → W.cell? ⟨wo.heap.size, 1, none⟩ = some (.int .i64 yi) ∧ W.cell? ⟨wo.heap.size, 2, none⟩ = some (.int .i64 fr) ∧ W.cell? ⟨wo.heap.size, 3, none⟩ = some (.int .i64 tu) ∧ W.cell? ⟨wo.heap.size, 4, none⟩ = some (.string body)) := Lib.hid fun W l1 n1 f1 h => by
          have e := h.held (g := wo.heap.size) (List.mem_append_right _ (List.mem_cons_self ..))
          exact ⟨cell_of_row _ _ 1 _ _ _ e, cell_of_row _ _ 2 _ _ _ e, cell_of_row _ _ 3 _ _ _ e, cell_of_row _ _ 4 _ _ _ e⟩
        cases h0 : (kd == 0) with
        | true =>
          obtain ⟨g1, g2, g3, g4⟩ := HC.out _ _ _ _ H5.out
          obtain ⟨E, hE⟩ : ∃ E, sendE l ⟨fr, tu, body⟩ = E := ⟨_, rfl⟩
          by_cases hE0 : E = 0
          · subst hE0
            have hS := H5.out.send ⟨fr, tu, body⟩
            rw [hE, sendL_ok hE] at hS
            simp only [ltV] at hS
            have HS := Lib.hid hS
            have HGx := Lib.hid (gd_sent hE)
            have hcl := cnt_le HT.out (gd_sent hE)
            have HCL := Lib.hid hcl
            clear hS hE g1
            go_wp2_with (go_at_call 11; with_reducible refine HS.out.mono ?_; rintro e w6 ⟨rfl, h6⟩
                         have H6 := Lib.hid h6
                         clear h6)
            obtain ⟨g2, g3, g4⟩ := (HC.out _ _ _ _ H6.out).2
            obtain ⟨c, hc⟩ : ∃ c : Int, (f ⟨fr, tu, body⟩).getD 0 = c := ⟨_, rfl⟩
            have hcb := cnt_le HT.out HGx.out
            rw [hc] at hcb
            have hc0 := hcb.1
            have hc1 : c ≤ 300 := by omega
            have hml : ML w6.drew B n f := H6.out.ml.of_block rfl
            have hlk := hml.look HGx.out
            rw [hc] at hlk
            obtain ⟨v0, st, w7, w8, e1, e2, e3, e4, e5⟩ := hml.entry (by simp only [maxLen]; omega) HGx.out (c := c + 1) (int_wf' (by omega) (by omega))
            have hl7 := hml.mid (by simp only [maxLen]; omega) HGx.out e1
            rw [hc] at hl7
            simp only at hlk e1 hl7
            have HX8 := Lib.hid ((H6.out.below ((Below.refl _ _).drew)).map e3 e4)
            have HCc := Lib.hid hc
            have hwr : IntKind.i64.wrap (c + 1) = c + 1 := IntWalk.i64_in _ (by omega)
            clear e3 e4 e5 hml hc hcb
            go_region_law (fail)
            all_goals
              go_wp2_with fail
              go_meet
              exact ⟨rfl, _, n + 1, _, by omega, HX8.out.sub (by simp), gd_app HG.out HGx.out, by rw [← HCc.out]; exact cnt_app HT.out HGx.out⟩
          · have hE1 : (E == 0) = false := by simpa using hE0
            have hS := H5.out.send ⟨fr, tu, body⟩
            rw [sendL_no (by rw [hE]; exact hE0), hE] at hS
            simp only [ltV] at hS
            have HS := Lib.hid hS
            clear hS hE hE0 g1
            go_wp2_with (go_at_call 11; with_reducible refine HS.out.mono ?_; rintro e w6 ⟨rfl, h6⟩
                         have H6 := Lib.hid h6
                         clear h6)
            go_meet
            exact ⟨rfl, l, n, f, by omega, H6.out.sub (by simp), HG.out, HT.out⟩
        | false =>
          cases h1 : (kd == 1) with
          | true =>
            obtain ⟨g1, g2, g3, g4⟩ := HC.out _ _ _ _ H5.out
            clear g2 g3 g4
            by_cases hl0 : l = []
            · have HS := Lib.hid (none_take_t (by rw [← hl0]; exact H5.out) yi)
              have HL0 := Lib.hid hl0
              clear hl0
              go_wp2_with (go_at_call 13; with_reducible refine HS.out.mono ?_; rintro e w6 ⟨rfl, h6⟩
                           have H6 := Lib.hid (h6.below ((Below.refl _ _).alloc (Nat.le_refl _) (.cells #[.int .i64 0, .int .i64 0, .string ⟨#[]⟩] 31)))
                           clear h6)
              go_meet
              exact ⟨rfl, [], n, f, by omega, H6.out.sub (by simp), fun y hy => (by cases hy), by rw [← HL0.out]; exact HT.out⟩
            · have hkx := takeV_get yi hl0
              obtain ⟨⟨f2, t2, y2⟩, hV⟩ : ∃ x, takeV l yi = x := ⟨_, rfl⟩
              rw [hV] at hkx
              have hu : takeB l = true := by cases l; contradiction; rfl
              have hS := H5.out.take yi
              rw [hV, hu] at hS
              simp only [ltV] at hS
              have HS := Lib.hid hS
              have HKX := Lib.hid hkx
              have HGx := Lib.hid (gd_at HG.out hkx)
              clear hS hV hu hkx hl0
              go_wp2_with (go_at_call 13; with_reducible refine HS.out.mono ?_; rintro e w5b ⟨rfl, h6⟩
                           have H6 := Lib.hid (h6.below ((Below.refl _ _).alloc (Nat.le_refl _) (.cells #[.int .i64 f2, .int .i64 t2, .string y2] 31)))
                           clear h6)
              obtain ⟨c, hc⟩ : ∃ c : Int, (f ⟨f2, t2, y2⟩).getD 0 = c := ⟨_, rfl⟩
              have hcb := cnt_le HT.out HGx.out
              rw [hc] at hcb
              have hc0 := hcb.1
              have hc1 : c ≤ 300 := by omega
              have hml : ML (w5b.alloc (.cells #[.int .i64 f2, .int .i64 t2, .string y2] 31)).drew B n f := H6.out.ml.of_block rfl
              have hlk := hml.look HGx.out
              rw [hc] at hlk
              obtain ⟨v0, st, w7, w8, e1, e2, e3, e4, e5⟩ := hml.entry (by simp only [maxLen]; omega) HGx.out (c := c - 1) (int_wf' (by omega) (by omega))
              have hl7 := hml.mid (by simp only [maxLen]; omega) HGx.out e1
              rw [hc] at hl7
              simp only at hlk e1 hl7
              have HX8 := Lib.hid ((H6.out.below ((Below.refl _ _).drew)).map e3 e4)
              have HCc := Lib.hid hc
              have hwr : IntKind.i64.wrap (c - 1) = c - 1 := IntWalk.i64_in _ (by omega)
              clear e3 e4 e5 hml hc hcb
              go_region_law (fail)
              all_goals
                go_wp2_with fail
                go_meet
                exact ⟨rfl, takeL l yi, n + 1, _, by omega, HX8.out.sub (by simp), gd_cut HG.out _, by rw [← HCc.out]; exact cnt_cut HT.out HKX.out HGx.out⟩
          | false =>
            cases h2 : (kd == 2) with
            | true =>
              obtain ⟨g1, g2, g3, g4⟩ := HC.out _ _ _ _ H5.out
              clear g2 g3 g4
              by_cases hcb0 : copyB l = false
              · have hS := H5.out.copy yi
                rw [hcb0, copyL_no hcb0] at hS
                have HS := Lib.hid hS
                clear hS hcb0
                go_wp2_with (go_at_call 15; with_reducible refine HS.out.mono ?_; rintro e w6 ⟨rfl, h6⟩
                             have H6 := Lib.hid h6
                             clear h6)
                go_meet
                exact ⟨rfl, l, n, f, by omega, H6.out.sub (by simp), HG.out, HT.out⟩
              · have hcb1 : copyB l = true := by simpa using hcb0
                have hl0 : ¬ l = [] := by rintro rfl; simp [copyB] at hcb1
                have hkx := takeV_get yi hl0
                obtain ⟨⟨f2, t2, y2⟩, hV⟩ : ∃ x, takeV l yi = x := ⟨_, rfl⟩
                rw [hV] at hkx
                have hlp : 0 < l.length := by cases l; contradiction; simp
                have hS := H5.out.copy yi
                rw [hcb1, copyL_ok hcb1, hV] at hS
                have HS := Lib.hid hS
                have HGx := Lib.hid (gd_at HG.out hkx)
                have hge := ix_go yi hlp
                have hti := tmod_in yi hlp hl3
                have hix := ix_lt yi hlp
                obtain ⟨kx, hkxe⟩ : ∃ kx, ix yi l.length = kx := ⟨_, rfl⟩
                rw [hkxe] at hge hix hkx
                have HIX := Lib.hid hkx
                have HNX : Hid ((l ++ [(⟨f2, t2, y2⟩ : Lt)])[l.length]? = some ⟨f2, t2, y2⟩) := Lib.hid (by simp)
                have hLI : (0 : Int) < (l.length : Int) := by omega
                have hL3 : (l.length : Int) ≤ 300 := by omega
                have hne : ((l.length : Int) == 0) = false := by rw [beq_eq_false_iff_ne]; omega
                have hixI : (kx : Int) < (l.length : Int) := by omega
                have hix0 : (0 : Int) ≤ (kx : Int) := by omega
                clear hS hV hkx hkxe hcb0 hcb1
                go_upto_region 21 with (first
                  | (go_at_call 15; with_reducible refine HS.out.mono ?_; rintro e w6 ⟨rfl, h6⟩
                     have HAl2 := Lib.hid h6.all
                     clear h6)
                  | (go_at_call 18; with_reducible refine HAl2.out.mono ?_; rintro e w7 ⟨tN, cN, hn, rfl, h7, q7, b7⟩
                     have H7 := Lib.hid h7
                     have Q7 := Lib.hid q7
                     clear h7 q7 b7))
                obtain ⟨bN, oN, rfl, _, r0, r1, r2⟩ := (Q7.out w7 (fun x hx => H7.out.held (List.mem_append_left _ hx))).rd.at HNX.out
                simp only at r0 r1 r2
                have hm0 : (0 : Int) ≤ (l.length : Int) + 1 - 1 := by omega
                have hm1 : (l.length : Int) + 1 - 1 < (l.length : Int) + 1 := by omega
                have hm2 : (l.length : Int) < (l.length : Int) + 1 := by omega
                obtain ⟨c, hc⟩ : ∃ c : Int, (f ⟨f2, t2, y2⟩).getD 0 = c := ⟨_, rfl⟩
                have hcb := cnt_le HT.out HGx.out
                rw [hc] at hcb
                have hc0 := hcb.1
                have hc1 : c ≤ 300 := by omega
                have hml : ML w7.drew B n f := H7.out.ml.of_block rfl
                have hlk := hml.look HGx.out
                rw [hc] at hlk
                obtain ⟨v0, st, w7, w8, e1, e2, e3, e4, e5⟩ := hml.entry (by simp only [maxLen]; omega) HGx.out (c := c + 1) (int_wf' (by omega) (by omega))
                have hl7 := hml.mid (by simp only [maxLen]; omega) HGx.out e1
                rw [hc] at hl7
                simp only at hlk e1 hl7
                have HX8 := Lib.hid ((H7.out.below ((Below.refl _ _).drew)).map e3 e4)
                have HCc := Lib.hid hc
                have hwr : IntKind.i64.wrap (c + 1) = c + 1 := IntWalk.i64_in _ (by omega)
                clear e3 e4 e5 hml hc hcb
                have hw0 : IntKind.i64.wrap ((l.length : Int) + 1 - 1) = (l.length : Int) := by rw [IntWalk.i64_in _ (by omega)]; omega
                have hw1 : IntKind.i64.wrap (yi.tmod (l.length : Int)) = yi.tmod (l.length : Int) := IntWalk.i64_in _ (by omega)
                have hw2 : IntKind.i64.wrap (yi.tmod (l.length : Int) + (l.length : Int)) = yi.tmod (l.length : Int) + (l.length : Int) := IntWalk.i64_in _ (by omega)
                have hw3 : IntKind.i64.wrap ((l.length : Int)) = (l.length : Int) := IntWalk.i64_in _ (by omega)
                go_region_law (fail)
                all_goals
                  have HD8 := Lib.hid (HX8.out.held (g := wo.heap.size) (List.mem_append_right _ (List.mem_append_right _ (List.mem_cons_self ..))))
                  have gy := cell_of_row _ _ 1 _ _ _ HD8.out
                  simp at gy
                  obtain ⟨bN', oN', hbe, _, s0, s1, s2⟩ := (Q7.out w8 (fun x hx => HX8.out.held (List.mem_append_left _ hx))).rd.at HNX.out
                  injection hbe with hbe
                  injection hbe with e3 e4
                  subst e3 e4
                  obtain ⟨bW, oW, rfl, _, u0, u1, u2⟩ := (Q5.out w8 (fun x hx => HX8.out.held (List.mem_append_right _ (List.mem_append_left _ hx)))).rd.at HIX.out
                  simp only at s0 s1 s2 u0 u1 u2
                  clear hlk hl7 e1 e2 r0 r1 r2
                  go_wp2_with fail
                  go_quiet (fail)
                  go_wp2_with fail
                  go_meet
                  exact ⟨rfl, _, n + 1, _, by omega, (HX8.out.below (below_drewN _ _)).sub (by simp), gd_app HG.out HGx.out, by rw [← HCc.out]; exact cnt_app HT.out HGx.out⟩
            | false =>
              cases h3 : (kd == 3) with
              | true =>
                obtain ⟨g1, g2, g3, g4⟩ := HC.out _ _ _ _ H5.out
                clear g2 g3 g4
                by_cases hl0 : l = []
                · have HS := Lib.hid (none_drop_t (by rw [← hl0]; exact H5.out) yi)
                  have HL0 := Lib.hid hl0
                  clear hl0
                  go_wp2_with (go_at_call 17; with_reducible refine HS.out.mono ?_; rintro e w6 ⟨rfl, h6⟩
                               have H6 := Lib.hid h6
                               clear h6)
                  go_meet
                  exact ⟨rfl, [], n, f, by omega, H6.out.sub (by simp), fun y hy => (by cases hy), by rw [← HL0.out]; exact HT.out⟩
                · have hkx := takeV_get yi hl0
                  obtain ⟨⟨f2, t2, y2⟩, hV⟩ : ∃ x, takeV l yi = x := ⟨_, rfl⟩
                  rw [hV] at hkx
                  have hu : takeB l = true := by cases l; contradiction; rfl
                  have hlp : 0 < l.length := by cases l; contradiction; simp
                  have hS := H5.out.drop yi
                  rw [hu] at hS
                  have HS := Lib.hid hS
                  have HKX := Lib.hid hkx
                  have HGx := Lib.hid (gd_at HG.out hkx)
                  have hge := ix_go yi hlp
                  have hti := tmod_in yi hlp hl3
                  have hix := ix_lt yi hlp
                  obtain ⟨kx, hkxe⟩ : ∃ kx, ix yi l.length = kx := ⟨_, rfl⟩
                  rw [hkxe] at hge hix hkx
                  have HKE := Lib.hid hkxe
                  have HIX := Lib.hid hkx
                  have hLI : (0 : Int) < (l.length : Int) := by omega
                  have hL3 : (l.length : Int) ≤ 300 := by omega
                  have hne : ((l.length : Int) == 0) = false := by rw [beq_eq_false_iff_ne]; omega
                  have hixI : (kx : Int) < (l.length : Int) := by omega
                  have hix0 : (0 : Int) ≤ (kx : Int) := by omega
                  clear hS hV hu hkx hkxe
                  go_wp2_with (go_at_call 17; with_reducible refine HS.out.mono ?_; rintro e w6 ⟨rfl, h6⟩
                               have H6 := Lib.hid h6
                               clear h6)
                  obtain ⟨g1b, g2, g3, g4⟩ := HC.out _ _ _ _ H6.out
                  clear g2 g3 g4
                  have hrow := Q5.out w6 (fun x hx => H6.out.held (List.mem_append_left _ hx))
                  obtain ⟨bW, oW, rfl, _, r0, r1, r2⟩ := hrow.rd.at HIX.out
                  simp only at r0 r1 r2
                  obtain ⟨c, hc⟩ : ∃ c : Int, (f ⟨f2, t2, y2⟩).getD 0 = c := ⟨_, rfl⟩
                  have hcb := cnt_le HT.out HGx.out
                  rw [hc] at hcb
                  have hc0 := hcb.1
                  have hc1 : c ≤ 300 := by omega
                  have hml : ML w6.drew B n f := H6.out.ml.of_block rfl
                  have hlk := hml.look HGx.out
                  rw [hc] at hlk
                  obtain ⟨v0, st, w7, w8, e1, e2, e3, e4, e5⟩ := hml.entry (by simp only [maxLen]; omega) HGx.out (c := c - 1) (int_wf' (by omega) (by omega))
                  have hl7 := hml.mid (by simp only [maxLen]; omega) HGx.out e1
                  rw [hc] at hl7
                  simp only at hlk e1 hl7
                  have HX8 := Lib.hid ((H6.out.below ((Below.refl _ _).drew)).map e3 e4)
                  have HCc := Lib.hid hc
                  have hwr : IntKind.i64.wrap (c - 1) = c - 1 := IntWalk.i64_in _ (by omega)
                  clear e3 e4 e5 hml hc hcb
                  have hw1 : IntKind.i64.wrap (yi.tmod (l.length : Int)) = yi.tmod (l.length : Int) := IntWalk.i64_in _ (by omega)
                  have hw2 : IntKind.i64.wrap (yi.tmod (l.length : Int) + (l.length : Int)) = yi.tmod (l.length : Int) + (l.length : Int) := IntWalk.i64_in _ (by omega)
                  have hw3 : IntKind.i64.wrap ((kx : Int)) = (kx : Int) := IntWalk.i64_in _ (by omega)
                  go_region_law (fail)
                  all_goals
                    go_wp2_with fail
                    go_meet
                    exact ⟨rfl, takeL l yi, n + 1, _, by omega, HX8.out.sub (by simp), gd_cut HG.out _, by rw [← HCc.out]; exact cnt_cut HT.out HKX.out HGx.out⟩
              | false =>
                go_wp2_with fail
                go_meet
                exact ⟨rfl, l, n, f, by omega, H5.out.sub (by simp), HG.out, HT.out⟩
      case rest =>
        obtain ⟨rfl, l', n', f', hn', hx, hgx, hcx⟩ := hcut
        have hl4 : l'.length ≤ 300 := hx.len3
        have HX := Lib.hid hx
        have HGX := Lib.hid hgx
        have HCX := Lib.hid hcx
        clear hx hgx hcx
        obtain ⟨wq, hwq⟩ : ∃ x, x = wc := ⟨_, rfl⟩
        subst hwq
        have hBn : B < wq.heap.size := HX.out.ml.lt
        have hwn : w.heap.size ≤ wq.heap.size := HX.out.be.size
        have HXm : Hid (TX w (wq.alloc (.map #[] 0)) p l' B n' f' []) := Lib.hid (HX.out.below ((Below.refl _ _).alloc (Nat.le_refl _) _))
        have HAl := Lib.hid HXm.out.all
        go_upto_region 31 with (go_at_call 18; with_reducible refine HAl.out.mono ?_; rintro e w7 ⟨tT, cT, ht, rfl, h7, q7, b7, fr7⟩
                                have H7 := Lib.hid h7
                                have Q7 := Lib.hid q7
                                have B7 := Lib.hid b7
                                have F7 := Lib.hid fr7
                                clear h7 q7 b7 fr7)
        have M7 := Lib.hid ((ml_made wq).below B7.out)
        have HFr : Hid (∀ wz, But [wq.heap.size] w7 wz → OwnL wz tT cT l') := Lib.hid fun wz hb => Q7.out wz fun x hx => by
          have hk := H7.out.held (g := x.1) (o := x.2) (List.mem_append_left _ hx)
          have hge := F7.out x hx
          refine (hb.block _ (lt_of_heap hk) ?_).trans hk
          simp at hge
          simp
          omega
        have hBs : wq.heap.size < w7.heap.size := by have := B7.out.size; simp at this; omega
        generalize wq.heap.size = Bn at *
        go_loopw [139] (fun i wz => ∃ (j m : Nat) (g : Lt → Option Int), j ≤ l'.length ∧ m ≤ j ∧ i = .int .i64 (j : Int) ∧ But [Bn] w7 wz ∧ ML wz Bn m g ∧ Cnt2 (l'.take j) g) (fun i _ => l'.length - (intOf i).toNat)
        case atStart => exact ⟨0, 0, _, by omega, by omega, rfl, But.refl _ _, M7.out, by simpa using cnt2_nil⟩
        case round =>
          obtain ⟨j, m, g, hj, hmj, rfl, hbt, hml, hcn⟩ := hrel
          obtain ⟨wz, hwz⟩ : ∃ x, x = wr := ⟨_, rfl⟩
          subst hwz
          have HBt := Lib.hid hbt
          have HMl := Lib.hid hml
          have HCn := Lib.hid hcn
          clear hbt hml hcn
          by_cases hlt2 : j < l'.length
          · have hlt2I : (j : Int) < (l'.length : Int) := by omega
            obtain ⟨⟨f3, t3, y3⟩, hx3⟩ : ∃ x, l'[j]? = some x := ⟨_, List.getElem?_eq_getElem hlt2⟩
            obtain ⟨bT, oT, rfl, _, r0, r1, r2⟩ := (HFr.out wz HBt.out).rd.at hx3
            simp only at r0 r1 r2
            have HGx := Lib.hid (gd_at HGX.out hx3)
            have htk : l'.take (j + 1) = l'.take j ++ [⟨f3, t3, y3⟩] := by
              rw [List.take_succ_eq_append_getElem hlt2]
              congr 2
              exact (List.getElem?_eq_some_iff.1 hx3).2
            have HTk := Lib.hid htk
            obtain ⟨c, hc⟩ : ∃ c : Int, (g ⟨f3, t3, y3⟩).getD 0 = c := ⟨_, rfl⟩
            have hcb := cnt_le HCn.out.1 HGx.out
            rw [hc, List.length_take] at hcb
            have hc0 := hcb.1
            have hc1 : c ≤ 300 := by omega
            have hml : ML (wz.alloc (.cells #[.int .i64 f3, .int .i64 t3, .string y3] 31)).drew Bn m g := (HMl.out.below ((Below.refl _ _).alloc (Nat.le_refl _) (.cells #[.int .i64 f3, .int .i64 t3, .string y3] 31))).of_block rfl
            have hlk := hml.look HGx.out
            rw [hc] at hlk
            obtain ⟨v0, st, w8, w9, e1, e2, e3, e4, e5⟩ := hml.entry (by simp only [maxLen]; omega) HGx.out (c := c + 1) (int_wf' (by omega) (by omega))
            have hl7 := hml.mid (by simp only [maxLen]; omega) HGx.out e1
            rw [hc] at hl7
            simp only at hlk e1 hl7
            have HE3 := Lib.hid e3
            have HB9 : Hid (But [Bn] w7 w9) := Lib.hid (((HBt.out.alloc (.cells #[.int .i64 f3, .int .i64 t3, .string y3] 31)).drew).trans e4)
            have HCc := Lib.hid hc
            have hwr : IntKind.i64.wrap (c + 1) = c + 1 := IntWalk.i64_in _ (by omega)
            clear e3 e4 e5 hml hc hcb hx3 htk
            go_wp2_with fail
            go_region_law (fail)
            all_goals
              go_wp2_with fail
              go_roundw
              case rel => exact ⟨j + 1, m + 1, _, by omega, by omega, by go_num, HB9.out, HE3.out, by rw [HTk.out, ← HCc.out]; exact cnt2_app HCn.out HGx.out⟩
              case measure => simp [intOf]; omega
          · have hje : l'.take j = l' := List.take_of_length_le (by omega)
            have HCn2 := HCn.out
            rw [hje] at HCn2
            have HC2 := Lib.hid HCn2
            obtain ⟨D, hown0, hsays⟩ := H7.out.ml
            have hown : wz.ownsMap (H := Unit) Try.prog 31 (plainElem Try.prog 3) B n' D := hown0.kept HBt.out.to_grown (by simp; omega)
            have HSy := Lib.hid hsays
            have HO := Lib.hid hown
            have hrs : Bn < wz.heap.size := by have := HBt.out.size; omega
            have hr7 : w7.heap.size ≤ wz.heap.size := HBt.out.size
            clear hown0 hsays hown hje HCn2 HCn
            go_wp2_with (first
              | (at_range; refine wpList_range_own _ rfl _ 45 rfl 31 3 ltLaw Try.underlying45 _ B n' D rfl HO.out ?_; intro wr0 hrg0 hg0 hs0)
              | go_in)
            go_frame
            have HRg0 := Lib.hid hrg0
            have HBr0 : Hid (But [Bn] w7 wr0) := Lib.hid (HBt.out.grown hg0 (by simp))
            have HMr0 : Hid (ML wr0 Bn m g) := Lib.hid (HMl.out.of_block (hg0.block _ hrs (by simp)))
            clear hrg0 hg0 hs0
            generalize wz.heap.size = r at *
            go_loopw [17] (fun _ wy => ∃ (left : Lit → Bool) (cnt : Nat) (g : Lt → Option Int), wy.ranges (H := Unit) Try.prog 31 (plainElem Try.prog 3) B r n' D left cnt ∧ But [Bn] w7 wy ∧ ML wy Bn l'.length g ∧ Nt.Left l' left g ∧ (∀ kl, left kl = true → has D kl = true)) (fun _ wy => wy.rangeLeft B r)
            case atStart => exact ⟨_, _, g, HRg0.out, HBr0.out, HMr0.out.mono (by omega), left_start HSy.out HCX.out HC2.out, fun kl h => h⟩
            case round =>
              obtain ⟨left, cnt, g, hrg, hbt, hml, hlf, hsub⟩ := hrel
              obtain ⟨wy, hwy⟩ : ∃ x, x = wr := ⟨_, rfl⟩
              subst hwy
              have HRg := Lib.hid hrg
              have HBy := Lib.hid hbt
              have HMy := Lib.hid hml
              have HLf := Lib.hid hlf
              have HSub := Lib.hid hsub
              clear hrg hbt hml hlf hsub
              go_wp2_with (first
                | (at_next; refine wpList_next_ranges _ rfl _ rfl 31 ltLaw (plainElem Try.prog 3) (fun x : Lt => Value.agg #[.int .i64 x.fr, .int .i64 x.to, .string x.body]) (Value.int .i64) (fun key kl h => key_inv h) (fun v y h => by obtain ⟨c, e, _⟩ := plainElem_int_inv Try.underlying3 h; exact ⟨c, e⟩) B r n' D _ _ rfl HRg.out ?_ ?_)
                | go_in)
              · intro _ hl0
                have HE0 := Lib.hid (left_end HLf.out hl0)
                clear hl0
                go_wp2_with (first
                  | (at_len; refine wpList_len_ML _ rfl _ rfl rfl HMy.out HE0.out ?_)
                  | go_in)
                go_roundw
                case rel => exact ⟨k + 1, n', l', f', by omega, by omega, by omega, by go_num, H7.out.but M7.out HBy.out (by omega) hwn, HGX.out, HCX.out⟩
                case measure => simp [intOf]; omega
              · intro x c kl ya yb w8 cnt1 hkey hlk hv hat hrg1 hlt1 hg1 hs1 hen
                obtain ⟨hgx, rfl, hce⟩ := entry_is (y := (ya, yb)) HSy.out HCX.out hkey (HSub.out _ hlk) hv hat
                have HGx := Lib.hid hgx
                have HGet := Lib.hid ((left_get HLf.out hgx hlk).trans hce.symm)
                have HR1 := Lib.hid hrg1
                have HLt1 := Lib.hid hlt1
                have HB8 : Hid (But [Bn] w7 w8) := Lib.hid (HBy.out.grown hg1 (fun q hq => by injection hq with hq; right; omega))
                have HM8 : Hid (ML w8 Bn l'.length g) := Lib.hid (HMy.out.of_block (hg1.block _ HMy.out.lt (by simp; omega)))
                clear hkey hlk hv hat hrg1 hlt1 hg1 hs1 hgx hce
                obtain ⟨f3, t3, y3⟩ := x
                simp only at hen
                have hlk8 := (HM8.out.below ((Below.refl _ _).alloc (Nat.le_refl _) (.cells #[.int .i64 f3, .int .i64 t3, .string y3] 31))).look HGx.out
                rw [HGet.out] at hlk8
                simp only at hlk8
                have HMa : Hid (ML (w8.alloc (.cells #[.int .i64 f3, .int .i64 t3, .string y3] 31)) Bn l'.length g) := Lib.hid (HM8.out.below ((Below.refl _ _).alloc (Nat.le_refl _) (.cells #[.int .i64 f3, .int .i64 t3, .string y3] 31)))
                have hcc : (c != c) = false := by simp
                go_wp2_with (first
                  | (at_delete; refine wpList_delete_ML _ rfl _ _ rfl rfl HMa.out ⟨f3, t3, y3⟩ HGx.out rfl ?_; intro w9 hm9 hb9 hz9; have HM9 := Lib.hid hm9; have HB9 := Lib.hid hb9; clear hm9 hb9 hz9; go_frame)
                  | go_in)
                have HRG9 := Lib.hid ((HR1.out.alloc (.cells #[.int .i64 f3, .int .i64 t3, .string y3] 31)).kept HB9.out.to_grown (by simp; omega) (by simp; omega))
                go_roundw
                case rel => exact ⟨_, cnt1, _, HRG9.out, (HB8.out.alloc (.cells #[.int .i64 f3, .int .i64 t3, .string y3] 31)).trans HB9.out, HM9.out, left_step HLf.out HGx.out, fun kl h => HSub.out kl (by simp at h; exact h.1)⟩
                case measure => rw [HRG9.out.left_eq, HRg.out.left_eq]; exact HLt1.out
    · have hnot : (¬ k < n0) ∨ (k < n0 ∧ ¬ k < 100) := by omega
      rcases hnot with h9 | ⟨h8, h9⟩
      case' inr => have g1 : (k : Int) < (n0 : Int) := by omega
                   have g2 : decide ((k : Int) < 100) = false := by simp; omega
      all_goals
        clear hlt
        go_wp2_with fail
        go_ret
        exact ⟨rfl, HR.out.be⟩

set_option maxRecDepth 100000 in
theorem lifted (os : Os) (started : os.Started) (H : Type) (enc : TypeId × Value → H) :
    ReturnsInHanded {} Try.checked os 4 .any (Rows.netTrueSpec.pre6 enc Try.prog Try.f4 Rows.netTrueRow.domain false) (Rows.netTrueSpec.post enc Try.prog Try.f4 false true false false) := by
  refine returnsInHanded_of_change (C := Try.checked) own started (by kernel_rfl) Try.func4
    (ChangeSpec.witness6 (enc := enc) (C := Try.checked) false ⟨#[], #[.slice none 0 0], []⟩ 8 (by kernel_rfl) (by kernel_rfl) (by kernel_rfl) (by kernel_rfl)) ?_
  intro W base args ds gs before hval0 hW hcnd _
  have hval : ∀ (j : Nat) t v, Try.f4.params[j]? = some t → args[j]? = some v → Value.okWide Try.prog W .any base t v := hval0
  have hW' := hW
  obtain ⟨p, q, hA0, hV, rfl, hfz, hnd⟩ := hW
  have hA : DataW.TrodAll enc Try.prog W 0 (fun _ => true) true Try.f4.params.toList args.toList ds p := hA0
  rw [Try.params4] at hA hval
  obtain ⟨v0, vs0, d0, ds0, p0, q0, hargs, rfl, rfl, h0, r0'⟩ := trodAll_cons hA
  obtain ⟨rfl, rfl, rfl⟩ := trodAll_nil r0'
  obtain rfl : args = #[v0] := by cases args; simp_all
  obtain ⟨rfl, rfl⟩ := trodVars_none hV
  have k0 := h0
  have lt0 : ∀ x ∈ p0, x.block < W.heap.size := by obtain ⟨m, hm⟩ := k0; exact DataW.trod_lt m _ _ _ hm
  obtain ⟨a0, n0, c0, l0, rfl, w0⟩ := Nt.open_acts h0 (okWide_slice Try.underlying22 (hval 0 22 v0 rfl rfl))
  clear hA0 hval0
  refine (walk a0 n0 c0 l0 W w0).mono fun e W' ⟨he, bel⟩ => ?_
  subst he
  exact ⟨_, rfl, _, _, _, [], _, [], hW', trodAll_mk1 (shut_bool Try.underlying4 _), (trodAll_cons_mk (Below.trod laidOut (by kernel_rfl) (of_decide_eq_true (by kernel_rfl)) k0 bel lt0) trodAll_mk0), rfl, bel.frame _, fun h => by cases h⟩

theorem over : Rows.netTrueRow.holds Try.pinned (OpenSpec.ofChange Rows.netTrueSpec) :=
  OpenClaim.holds_of_wide 4 Try.f4 rfl rfl rfl rfl rfl rfl rfl ⟨rfl, rfl, rfl, rfl, rfl⟩ rfl rfl rfl rfl rfl (by kernel_rfl) Try.func4 (by kernel_rfl)
    (of_decide_eq_true (by kernel_rfl)) (by unfold Func.isWrapper; first | (rw [if_pos (by decide +kernel)]; kernel_rfl) | (rw [if_neg (by decide +kernel)]; exact ⟨rfl, rfl⟩))
    (fun os started H enc _ => lifted os started H enc)

/-- the statement -/
theorem proved : Rows.NetTrueSaid := over
#print axioms proved
end Go.Proofs.Ythbgabmmfokioaa.netTrue
