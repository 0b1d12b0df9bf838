/-
  PROVED: Whatever is sent, taken, doubled and lost, all that is told is as the document says, act by act. CONDITIONS: none (any acts, of which up to 100 are done; any place).
-/
import Derived.Test.YthbgabmmfokioaaNtBoth
import Derived.Deep.CutBlock
import Derived.Deep.DeepCutAuto
import Derived.Deep.RegionHeld3
namespace Go.Proofs.Ythbgabmmfokioaa.netDoes
open Go.ChangeShapes Go.WideShapes Go.ChangeAt Go.RowKit Go.Joins
set_option linter.unusedVariables false
set_option linter.unusedSimpArgs false
set_option maxRecDepth 20000

open Nt
theorem acts_at {w : World} {a : Option Addr} {n c : Nat} {l : List Ac} (h : Acts w a n c l) {k : Nat} (hk : k < n) :
    ∃ y b off, l[k]? = some y ∧ a = some ⟨b, off, none⟩ ∧ y.Wf ∧ b < w.heap.size ∧ ∀ i v, y.cells[i]? = some v → w.cell? ⟨b, off + k * 5 + i, none⟩ = some v := by
  obtain ⟨h1, _, _, h4, h5⟩ := h
  have hx : l[k]? = some (l[k]'(by omega)) := List.getElem?_eq_getElem _
  rcases h5 with h5 | ⟨b, off, ha, hb, hc⟩
  · subst h5; simp at h1; omega
  · exact ⟨_, b, off, hx, ha, h4 _ (List.getElem_mem _), hb, fun i v hv => by rw [Nat.add_assoc]; exact hc k _ hx i v hv⟩
theorem tmod_in4 (x : Int) : x.tmod 400 < 400 := Int.tmod_lt_of_pos _ (by decide)

set_option maxHeartbeats 4000000 in
theorem walk (a0 : Option Addr) (n0 c0 : Nat) (l0 : List Nt.Ac) (x1 : Int) (w : World) (w0 : Nt.Acts w a0 n0 c0 l0) (w1 : (Lit.int .i64 x1).wf = true) :
    Calls Try.prog 3 #[.slice a0 n0 c0, .int .i64 x1] w fun e w' => e = .returned (.bool true) ∧ Below w.heap.size w w' := by
  have HA := Lib.hid w0
  have hm0 : n0 ≤ 9223372036854775807 := by obtain ⟨_, h1, h2, _⟩ := w0; simp only [maxLen] at h2; omega
  have hg := lt_guard
  have hp := lt_held
  clear w0 w1
  go_enter Try.func3, Try.ntmps3
  go_wp2_with (first
    | (go_at_call 9; with_reducible refine (awake_any _).mono ?_; rintro e w1 ⟨rfl, hb1⟩
       have HB := Lib.hid hb1
       clear hb1)
    | (go_at_call 10; with_reducible refine (new_run _ _ HB.out).mono ?_; rintro e w2 ⟨p, rfl, h1, _, _⟩
       have H := Lib.hid (DX.new h1)
       clear h1))
  generalize w2.heap.size = r at *
  go_loopw [7] (fun i wr => ∃ (k : Nat) (l : List Lt) (t : Option Addr) (ct : Nat) (ls : List Lt), k ≤ n0 ∧ k ≤ 100 ∧ i = .int .i64 (k : Int) ∧ DX w wr p l r l [] t ct ls) (fun i _ => 100 - (intOf i).toNat)
  case atStart => exact ⟨0, [], _, _, _, by omega, by omega, rfl, H.out⟩
  case round =>
    obtain ⟨k, l, t, ct, ls, hk1, hk2, rfl, hr⟩ := hrel
    obtain ⟨wo, hwo⟩ : ∃ x, x = wr := ⟨_, rfl⟩
    subst hwo
    have HR := Lib.hid hr
    have hl3 : l.length ≤ 300 := hr.len3.1
    clear hr
    by_cases hlt : k < n0 ∧ k < 100
    · have hltI : (k : Int) < (n0 : Int) := by omega
      have hltJ : (k : Int) < 100 := by omega
      obtain ⟨y, b, off, hy, rfl, hyw, hb, hc⟩ := acts_at HA.out hlt.1
      obtain ⟨kd, yi, fr, tu, body⟩ := y
      have c0 := hc 0 _ rfl
      have c1 := hc 1 _ rfl
      have c2 := hc 2 _ rfl
      have c3 := hc 3 _ rfl
      have c4 := hc 4 _ rfl
      simp only [Nat.add_zero] at c0 c1 c2 c3 c4
      have d0 := (HR.out.be.cell hb).trans c0
      have d1 := (HR.out.be.cell hb).trans c1
      have d2 := (HR.out.be.cell hb).trans c2
      have d3 := (HR.out.be.cell hb).trans c3
      have d4 := (HR.out.be.cell hb).trans c4
      clear c0 c1 c2 c3 c4 hc
      have HH := Lib.hid (HR.out.hold (.cells #[.int .i64 kd, .int .i64 yi, .int .i64 fr, .int .i64 tu, .string body] 33))
      have HC : Hid (∀ W l1 m1, DX w W p l1 r m1 [(wo.heap.size, .cells #[.int .i64 kd, .int .i64 yi, .int .i64 fr, .int .i64 tu, .string body] 33)] t ct ls → W.cell? ⟨wo.heap.size, 1, none⟩ = some (.int .i64 yi) ∧ W.cell? ⟨wo.heap.size, 2, none⟩ = some (.int .i64 fr) ∧ W.cell? ⟨wo.heap.size, 3, none⟩ = some (.int .i64 tu) ∧ W.cell? ⟨wo.heap.size, 4, none⟩ = some (.string body)) := Lib.hid fun W l1 m1 h => by
        have e := h.held (g := wo.heap.size) (List.mem_cons_self ..)
        exact ⟨cell_of_row _ _ 1 _ _ _ e, cell_of_row _ _ 2 _ _ _ e, cell_of_row _ _ 3 _ _ _ e, cell_of_row _ _ 4 _ _ _ e⟩
      go_upto_block 2 with (fail)
      go_cut [7] (fun i wx => i = .int .i64 (k : Int) ∧ ∃ l', DX w wx p l' r l' [] t ct ls)
      case first =>
        cases h0 : (kd == 0) with
        | true =>
          obtain ⟨E, hE⟩ : ∃ E, sendE l ⟨fr, tu, body⟩ = E := ⟨_, rfl⟩
          have hEE : (E != E) = false := by simp
          have CS1 : Hid (∀ W, DX w W p l r l [(wo.heap.size, .cells #[.int .i64 kd, .int .i64 yi, .int .i64 fr, .int .i64 tu, .string body] 33)] t ct ls → Calls Try.prog 11 #[.pointer (some ⟨p, 0, none⟩), .agg #[.int .i64 fr, .int .i64 tu, .string body]] W fun e w'' => e = .returned (.int .i64 E) ∧ DX w w'' p (sendL l ⟨fr, tu, body⟩) r l [(wo.heap.size, .cells #[.int .i64 kd, .int .i64 yi, .int .i64 fr, .int .i64 tu, .string body] 33)] t ct ls) := Lib.hid fun W h => by
            have := h.send ⟨fr, tu, body⟩
            rw [hE] at this
            exact this
          have CS2 : Hid (∀ W, DX w W p (sendL l ⟨fr, tu, body⟩) r l [(wo.heap.size, .cells #[.int .i64 kd, .int .i64 yi, .int .i64 fr, .int .i64 tu, .string body] 33)] t ct ls → Calls Try.prog 12 #[.pointer (some ⟨r, 0, none⟩), .agg #[.int .i64 fr, .int .i64 tu, .string body]] W fun e w'' => e = .returned (.int .i64 E) ∧ DX w w'' p (sendL l ⟨fr, tu, body⟩) r (sendL l ⟨fr, tu, body⟩) [(wo.heap.size, .cells #[.int .i64 kd, .int .i64 yi, .int .i64 fr, .int .i64 tu, .string body] 33)] t ct ls) := Lib.hid fun W h => by
            have := h.rsend ⟨fr, tu, body⟩
            rw [hE] at this
            exact this
          clear hE
          go_wp2_with fail
          have K0 := HC.out _ _ _ HH.out
          have HD0 := Lib.hid (HH.out.below ((Below.refl _ _).drew))
          go_region_held3 (fun w' => w'.cell? ⟨wo.heap.size, 1, none⟩ = some (.int .i64 yi) ∧ w'.cell? ⟨wo.heap.size, 2, none⟩ = some (.int .i64 fr) ∧ w'.cell? ⟨wo.heap.size, 3, none⟩ = some (.int .i64 tu) ∧ w'.cell? ⟨wo.heap.size, 4, none⟩ = some (.string body))
            (first
              | exact HC.out _ _ _ HD2.out
              | exact HC.out _ _ _ HD1.out
              | exact HC.out _ _ _ HD0.out
              | (go_keep; done))
            (first
              | (go_at_call 11; with_reducible refine (CS1.out _ HD0.out).mono ?_; rintro e w5 ⟨rfl, h5⟩
                 have HD1 := Lib.hid h5
                 clear h5)
              | (go_at_call 12; with_reducible refine (CS2.out _ HD1.out).mono ?_; rintro e w6 ⟨rfl, h6⟩
                 have HD2 := Lib.hid h6
                 clear h6))
          clear K0
          go_wp2_with fail
          go_meet
          exact ⟨rfl, _, HD2.out.free⟩
        | false =>
          cases h1 : (kd == 1) with
          | true =>
            obtain ⟨⟨f2, t2, y2⟩, hV⟩ : ∃ x, takeV l yi = x := ⟨_, rfl⟩
            obtain ⟨u, hu⟩ : ∃ u, takeB l = u := ⟨_, rfl⟩
            have huu : (u != u) = false := by simp
            have HT1 := HH.out.take yi
            rw [hV, hu] at HT1
            simp only [ltV] at HT1
            have CT1 := Lib.hid HT1
            have CT2 : Hid (∀ W h2, DX w W p (takeL l yi) r l h2 t ct ls → Calls Try.prog 14 #[.pointer (some ⟨r, 0, none⟩), .int .i64 yi] W fun e w'' => e = .returned (.tuple #[.agg #[.int .i64 f2, .int .i64 t2, .string y2], .bool u]) ∧ DX w w'' p (takeL l yi) r (takeL l yi) h2 t ct ls) := Lib.hid fun W h2 h => by
              have := h.rtake yi
              rw [hV, hu] at this
              exact this
            clear HT1 hV hu
            go_wp2_with (first
              | (go_at_call 13; with_reducible refine CT1.out.mono ?_; rintro e w5 ⟨rfl, h5⟩
                 have H5 := Lib.hid (h5.hold (.cells #[.int .i64 f2, .int .i64 t2, .string y2] 31))
                 have e1 := cell_of_row _ _ 1 _ _ _ (H5.out.held (g := wo.heap.size) (List.mem_cons_of_mem _ (List.mem_cons_self ..)))
                 simp at e1
                 clear h5)
              | (go_at_call 14; with_reducible refine (CT2.out _ _ H5.out).mono ?_; rintro e w6 ⟨rfl, h6⟩
                 have H6 := Lib.hid (h6.hold (.cells #[.int .i64 f2, .int .i64 t2, .string y2] 31))
                 have v0 := cell_of_row _ _ 0 _ _ _ (H6.out.held (g := w5.heap.size) (List.mem_cons_of_mem _ (List.mem_cons_self ..)))
                 have v1 := cell_of_row _ _ 1 _ _ _ (H6.out.held (g := w5.heap.size) (List.mem_cons_of_mem _ (List.mem_cons_self ..)))
                 have v2 := cell_of_row _ _ 2 _ _ _ (H6.out.held (g := w5.heap.size) (List.mem_cons_of_mem _ (List.mem_cons_self ..)))
                 simp at v0 v1 v2
                 clear h6))
            go_meet
            exact ⟨rfl, _, H6.out.free⟩
          | false =>
            cases h2 : (kd == 2) with
            | true =>
              obtain ⟨E, hE⟩ : ∃ E, copyB l = E := ⟨_, rfl⟩
              have hEE : (E != E) = false := by simp
              have CS1 : Hid (∀ W, DX w W p l r l [(wo.heap.size, .cells #[.int .i64 kd, .int .i64 yi, .int .i64 fr, .int .i64 tu, .string body] 33)] t ct ls → Calls Try.prog 15 #[.pointer (some ⟨p, 0, none⟩), .int .i64 yi] W fun e w'' => e = .returned (.bool E) ∧ DX w w'' p (copyL l yi) r l [(wo.heap.size, .cells #[.int .i64 kd, .int .i64 yi, .int .i64 fr, .int .i64 tu, .string body] 33)] t ct ls) := Lib.hid fun W h => by
                have := h.copy yi
                rw [hE] at this
                exact this
              have CS2 : Hid (∀ W, DX w W p (copyL l yi) r l [(wo.heap.size, .cells #[.int .i64 kd, .int .i64 yi, .int .i64 fr, .int .i64 tu, .string body] 33)] t ct ls → Calls Try.prog 16 #[.pointer (some ⟨r, 0, none⟩), .int .i64 yi] W fun e w'' => e = .returned (.bool E) ∧ DX w w'' p (copyL l yi) r (copyL l yi) [(wo.heap.size, .cells #[.int .i64 kd, .int .i64 yi, .int .i64 fr, .int .i64 tu, .string body] 33)] t ct ls) := Lib.hid fun W h => by
                have := h.rcopy yi
                rw [hE] at this
                exact this
              clear hE
              go_wp2_with fail
              have K0 := HC.out _ _ _ HH.out
              have HD0 := Lib.hid (HH.out.below ((Below.refl _ _).drew))
              go_region_held3 (fun w' => w'.cell? ⟨wo.heap.size, 1, none⟩ = some (.int .i64 yi) ∧ w'.cell? ⟨wo.heap.size, 2, none⟩ = some (.int .i64 fr) ∧ w'.cell? ⟨wo.heap.size, 3, none⟩ = some (.int .i64 tu) ∧ w'.cell? ⟨wo.heap.size, 4, none⟩ = some (.string body))
                (first
                  | exact HC.out _ _ _ HD2.out
                  | exact HC.out _ _ _ HD1.out
                  | exact HC.out _ _ _ HD0.out
                  | (go_keep; done))
                (first
                  | (go_at_call 15; with_reducible refine (CS1.out _ HD0.out).mono ?_; rintro e w5 ⟨rfl, h5⟩
                     have HD1 := Lib.hid h5
                     clear h5)
                  | (go_at_call 16; with_reducible refine (CS2.out _ HD1.out).mono ?_; rintro e w6 ⟨rfl, h6⟩
                     have HD2 := Lib.hid h6
                     clear h6))
              clear K0
              go_wp2_with fail
              go_meet
              exact ⟨rfl, _, HD2.out.free⟩
            | false =>
              cases h3 : (kd == 3) with
              | true =>
                obtain ⟨⟨f2, t2, y2⟩, hV⟩ : ∃ x, takeV l yi = x := ⟨_, rfl⟩
                obtain ⟨u, hu⟩ : ∃ u, takeB l = u := ⟨_, rfl⟩
                have huu : (u != u) = false := by simp
                have HT1 := HH.out.rtake yi
                rw [hV, hu] at HT1
                simp only [ltV] at HT1
                have CT1 := Lib.hid HT1
                have CT2 : Hid (∀ W h2, DX w W p l r (takeL l yi) h2 t ct ls → Calls Try.prog 17 #[.pointer (some ⟨p, 0, none⟩), .int .i64 yi] W fun e w'' => e = .returned (.bool u) ∧ DX w w'' p (takeL l yi) r (takeL l yi) h2 t ct ls) := Lib.hid fun W h2 h => by
                  have := h.drop yi
                  rw [hu] at this
                  exact this
                clear HT1 hV hu
                go_wp2_with (first
                  | (go_at_call 14; with_reducible refine CT1.out.mono ?_; rintro e w5 ⟨rfl, h5⟩
                     have H5 := Lib.hid (h5.hold (.cells #[.int .i64 f2, .int .i64 t2, .string y2] 31))
                     have e1 := cell_of_row _ _ 1 _ _ _ (H5.out.held (g := wo.heap.size) (List.mem_cons_of_mem _ (List.mem_cons_self ..)))
                     simp at e1
                     clear h5)
                  | (go_at_call 17; with_reducible refine (CT2.out _ _ H5.out).mono ?_; rintro e w6 ⟨rfl, h6⟩
                     have H6 := Lib.hid h6
                     clear h6))
                go_meet
                exact ⟨rfl, _, H6.out.free⟩
              | false =>
                cases h4 : (kd == 4) with
                | true =>
                  go_wp2_with fail
                  go_loopw [15] (fun j wz => ∃ (q : Nat) (l' : List Lt), q ≤ 400 ∧ j = .int .i64 (q : Int) ∧ DX w wz p l' r l' [(wo.heap.size, .cells #[.int .i64 kd, .int .i64 yi, .int .i64 fr, .int .i64 tu, .string body] 33)] t ct ls) (fun j _ => 400 - (intOf j).toNat)
                  case atStart => exact ⟨0, l, by omega, rfl, HH.out⟩
                  case round =>
                    obtain ⟨q, l', hq, rfl, hr2⟩ := hrel
                    have HR2 := Lib.hid hr2
                    have hm4 := tmod_in4 yi
                    have g1 := (HC.out _ _ _ hr2).1
                    clear hr2
                    by_cases hq2 : (q : Int) < yi.tmod 400
                    · have hq3 : q < 400 := by omega
                      have hqd : decide ((q : Int) < yi.tmod 400) = true := by simpa using hq2
                      obtain ⟨E, hE⟩ : ∃ E, sendE l' ⟨fr, tu, body⟩ = E := ⟨_, rfl⟩
                      have hEE : (E != E) = false := by simp
                      have CS1 : Hid (∀ W, DX w W p l' r l' [(wo.heap.size, .cells #[.int .i64 kd, .int .i64 yi, .int .i64 fr, .int .i64 tu, .string body] 33)] t ct ls → Calls Try.prog 11 #[.pointer (some ⟨p, 0, none⟩), .agg #[.int .i64 fr, .int .i64 tu, .string body]] W fun e w'' => e = .returned (.int .i64 E) ∧ DX w w'' p (sendL l' ⟨fr, tu, body⟩) r l' [(wo.heap.size, .cells #[.int .i64 kd, .int .i64 yi, .int .i64 fr, .int .i64 tu, .string body] 33)] t ct ls) := Lib.hid fun W h => by
                        have := h.send ⟨fr, tu, body⟩
                        rw [hE] at this
                        exact this
                      have CS2 : Hid (∀ W, DX w W p (sendL l' ⟨fr, tu, body⟩) r l' [(wo.heap.size, .cells #[.int .i64 kd, .int .i64 yi, .int .i64 fr, .int .i64 tu, .string body] 33)] t ct ls → Calls Try.prog 12 #[.pointer (some ⟨r, 0, none⟩), .agg #[.int .i64 fr, .int .i64 tu, .string body]] W fun e w'' => e = .returned (.int .i64 E) ∧ DX w w'' p (sendL l' ⟨fr, tu, body⟩) r (sendL l' ⟨fr, tu, body⟩) [(wo.heap.size, .cells #[.int .i64 kd, .int .i64 yi, .int .i64 fr, .int .i64 tu, .string body] 33)] t ct ls) := Lib.hid fun W h => by
                        have := h.rsend ⟨fr, tu, body⟩
                        rw [hE] at this
                        exact this
                      clear hE
                      go_wp2_with fail
                      have K0 := HC.out _ _ _ HR2.out
                      have HD0 := Lib.hid (HR2.out.below ((Below.refl _ _).drew))
                      go_region_held3 (fun w' => w'.cell? ⟨wo.heap.size, 1, none⟩ = some (.int .i64 yi) ∧ w'.cell? ⟨wo.heap.size, 2, none⟩ = some (.int .i64 fr) ∧ w'.cell? ⟨wo.heap.size, 3, none⟩ = some (.int .i64 tu) ∧ w'.cell? ⟨wo.heap.size, 4, none⟩ = some (.string body))
                        (first
                          | exact HC.out _ _ _ HD2.out
                          | exact HC.out _ _ _ HD1.out
                          | exact HC.out _ _ _ HD0.out
                          | (go_keep; done))
                        (first
                          | (go_at_call 11; with_reducible refine (CS1.out _ HD0.out).mono ?_; rintro e w5 ⟨rfl, h5⟩
                             have HD1 := Lib.hid h5
                             clear h5)
                          | (go_at_call 12; with_reducible refine (CS2.out _ HD1.out).mono ?_; rintro e w6 ⟨rfl, h6⟩
                             have HD2 := Lib.hid h6
                             clear h6))
                      clear K0
                      go_wp2_with fail
                      go_roundw
                      case rel => exact ⟨q + 1, _, by omega, by go_num, HD2.out⟩
                      case measure => simp [intOf]; omega
                    · have hqd : decide ((q : Int) < yi.tmod 400) = false := by simpa using hq2
                      go_wp2_with fail
                      go_meet
                      exact ⟨rfl, _, HR2.out.free⟩
                | false =>
                  go_wp2_with fail
                  go_meet
                  exact ⟨rfl, _, HH.out.free⟩
      case rest =>
        obtain ⟨rfl, l', hx⟩ := hcut
        have hl4 : l'.length ≤ 300 := hx.len3.1
        have HX := Lib.hid hx
        clear hx
        have HAl := Lib.hid HX.out.all
        obtain ⟨z, u, hz⟩ : ∃ (z : Int) (u : Bool), toV l' x1 = .tuple #[.int .i64 z, .bool u] := by
          unfold toV
          cases toK l' x1 with
          | none => exact ⟨_, _, rfl⟩
          | some j => exact ⟨_, _, rfl⟩
        have hzz : (z != z) = false := by simp
        have huu : (u != u) = false := by simp
        have hll : ((l'.length : Int) != (l'.length : Int)) = false := by simp
        have HZ := Lib.hid hz
        clear hz
        go_upto_region 32 with (go_at_call 18; with_reducible refine HAl.out.mono ?_; rintro e w7 ⟨tA, cA, rfl, h7⟩
                                have H7 := Lib.hid h7
                                clear h7)
        obtain ⟨bR, capR, k0, hRr⟩ := H7.out.rcell
        have HSq : Hid (∀ q, Calls Try.prog 19 #[.slice tA l'.length cA, .slice bR l'.length capR] (w7.drewN q) fun e w'' => e = .returned (.bool true) ∧ ∃ m, w'' = w7.drewN m) := Lib.hid fun q => by
          refine (same_yes (w7.drewN q) tA bR cA capR l' l'.length (by omega) (H7.out.rt.rd.drew q) (hRr.drew q)).mono ?_
          rintro e w'' ⟨rfl, q2, rfl⟩
          exact ⟨rfl, q + q2, by simp⟩
        have HLq : Hid (∀ q, Calls Try.prog 20 #[.pointer (some ⟨p, 0, none⟩)] (w7.drewN q) fun e w'' => e = .returned (.int .i64 (l'.length : Int)) ∧ ∃ m, w'' = w7.drewN m) := Lib.hid fun q => by
          refine (H7.out.below (below_drewN _ q)).len.mono ?_
          rintro e w'' ⟨rfl, rfl⟩
          exact ⟨rfl, q, rfl⟩
        clear hRr
        go_quiet ((first
          | (go_at_call 19; with_reducible exact HSq.out _)
          | (go_at_call 20; with_reducible exact HLq.out _)))
        have H8 := Lib.hid (H7.out.below (below_drewN _ nq))
        generalize w7.drewN nq = w8 at *
        have HTo : Hid (Calls Try.prog 21 #[.pointer (some ⟨p, 0, none⟩), .int .i64 x1] w8 fun e w' => e = .returned (.tuple #[.int .i64 z, .bool u]) ∧ DX w w' p l' r l' [] tA cA l') := Lib.hid (by
          have := H8.out.to x1
          rw [HZ.out] at this
          exact this)
        have HRTo : Hid (∀ W, DX w W p l' r l' [] tA cA l' → Calls Try.prog 22 #[.pointer (some ⟨r, 0, none⟩), .int .i64 x1] W fun e w' => e = .returned (.tuple #[.int .i64 z, .bool u]) ∧ W = w') := Lib.hid fun W h => by
          have := h.rto x1
          rw [HZ.out] at this
          exact this
        go_wp2_with (first
          | (go_at_call 21; with_reducible refine HTo.out.mono ?_; rintro e w9 ⟨rfl, h9⟩
             have H9 := Lib.hid h9
             clear h9)
          | (go_at_call 22; with_reducible refine (HRTo.out _ H9.out).mono ?_; rintro e wa ⟨rfl, rfl⟩))
        go_loopw [163] (fun j wz => ∃ (q : Nat) (ls' : List Lt), q ≤ l'.length ∧ ls'.length = l'.length ∧ j = .int .i64 (q : Int) ∧ DX w wz p l' r l' [] tA cA ls') (fun j _ => l'.length - (intOf j).toNat)
        case atStart => exact ⟨0, l', by omega, rfl, rfl, H9.out⟩
        case round =>
          obtain ⟨q, ls', hq, hls, rfl, hr3⟩ := hrel
          by_cases hq2 : q < l'.length
          · have hq2I : (q : Int) < (l'.length : Int) := by omega
            obtain ⟨x, hx⟩ : ∃ x, ls'[q]? = some x := ⟨_, List.getElem?_eq_getElem (by omega)⟩
            obtain ⟨g, rfl⟩ : ∃ g, tA = some ⟨g, 0, none⟩ := by
              rcases hr3.rt with ⟨_, _, h⟩ | ⟨g, cur, h, _⟩
              · rw [h] at hls; simp at hls; omega
              · exact ⟨g, h⟩
            obtain ⟨s1, s2, s3⟩ := hr3.setBody rfl hx ⟨#[63]⟩
            have HS3 := Lib.hid s3
            have HL3 := Lib.hid hls
            clear s3 hr3 hls hx
            go_wp2_with fail
            go_roundw
            case rel => exact ⟨q + 1, _, by omega, by rw [List.length_set]; exact HL3.out, by go_num, HS3.out⟩
            case measure => simp [intOf]; omega
          · have H3 := Lib.hid hr3
            clear hr3 hls
            go_wp2_with fail
            go_roundw
            case rel => exact ⟨k + 1, l', _, _, _, by omega, by omega, by go_num, H3.out⟩
            case measure => simp [intOf]; omega
    · have hnot : (¬ k < n0) ∨ (k < n0 ∧ ¬ k < 100) := by omega
      rcases hnot with h9 | ⟨h8, h9⟩
      case' inr => have g1 : (k : Int) < (n0 : Int) := by omega
                   have g2 : decide ((k : Int) < 100) = false := by simp; omega
      all_goals
        clear hlt
        go_wp2_with fail
        go_ret
        exact ⟨rfl, HR.out.be⟩

set_option maxRecDepth 100000 in
theorem lifted (os : Os) (started : os.Started) (H : Type) (enc : TypeId × Value → H) :
    ReturnsInHanded {} Try.checked os 3 .any (Rows.netDoesSpec.pre6 enc Try.prog Try.f3 Rows.netDoesRow.domain false) (Rows.netDoesSpec.post enc Try.prog Try.f3 false true false false) := by
  refine returnsInHanded_of_change (C := Try.checked) own started (by kernel_rfl) Try.func3
    (ChangeSpec.witness6 (enc := enc) (C := Try.checked) false ⟨#[], #[.slice none 0 0, .int .i64 0], []⟩ 8 (by kernel_rfl) (by kernel_rfl) (by kernel_rfl) (by kernel_rfl)) ?_
  intro W base args ds gs before hval0 hW hcnd _
  have hval : ∀ (j : Nat) t v, Try.f3.params[j]? = some t → args[j]? = some v → Value.okWide Try.prog W .any base t v := hval0
  have hW' := hW
  obtain ⟨p, q, hA0, hV, rfl, hfz, hnd⟩ := hW
  have hA : DataW.TrodAll enc Try.prog W 0 (fun _ => true) true Try.f3.params.toList args.toList ds p := hA0
  rw [Try.params3] at hA hval
  obtain ⟨v0, vs0, d0, ds0, p0, q0, hargs, rfl, rfl, h0, r0'⟩ := trodAll_cons hA
  obtain ⟨v1, vs1, d1, ds1, p1, q1, rfl, rfl, rfl, h1, r1'⟩ := trodAll_cons r0'
  obtain ⟨rfl, rfl, rfl⟩ := trodAll_nil r1'
  obtain rfl : args = #[v0, v1] := by cases args; simp_all
  obtain ⟨rfl, rfl⟩ := trodVars_none hV
  have k0 := h0
  have lt0 : ∀ x ∈ p0, x.block < W.heap.size := by obtain ⟨m, hm⟩ := k0; exact DataW.trod_lt m _ _ _ hm
  obtain ⟨a0, n0, c0, l0, rfl, w0⟩ := Nt.open_acts h0 (okWide_slice Try.underlying22 (hval 0 22 v0 rfl rfl))
  obtain ⟨x1, rfl, rfl, rfl, w1⟩ := open_int Try.underlying3 (hval 1 3 v1 rfl rfl) h1
  clear hA0 hval0
  refine (walk a0 n0 c0 l0 x1 W w0 w1).mono fun e W' ⟨he, bel⟩ => ?_
  subst he
  exact ⟨_, rfl, _, _, _, [], _, [], hW', trodAll_mk1 (shut_bool Try.underlying4 _), (trodAll_cons_mk (Below.trod laidOut (by kernel_rfl) (of_decide_eq_true (by kernel_rfl)) k0 bel lt0) (trodAll_cons_mk (shut_int Try.underlying3 w1) trodAll_mk0)), rfl, bel.frame _, fun h => by cases h⟩

theorem over : Rows.netDoesRow.holds Try.pinned (OpenSpec.ofChange Rows.netDoesSpec) :=
  OpenClaim.holds_of_wide 3 Try.f3 rfl rfl rfl rfl rfl rfl rfl ⟨rfl, rfl, rfl, rfl, rfl⟩ rfl rfl rfl rfl rfl (by kernel_rfl) Try.func3 (by kernel_rfl)
    (of_decide_eq_true (by kernel_rfl)) (by unfold Func.isWrapper; first | (rw [if_pos (by decide +kernel)]; kernel_rfl) | (rw [if_neg (by decide +kernel)]; exact ⟨rfl, rfl⟩))
    (fun os started H enc _ => lifted os started H enc)

/-- the statement -/
theorem proved : Rows.NetDoesSaid := over
#print axioms proved
end Go.Proofs.Ythbgabmmfokioaa.netDoes
