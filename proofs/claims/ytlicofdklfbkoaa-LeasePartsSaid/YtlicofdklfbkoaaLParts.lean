/-
  PROVED: clocks that go together do so in each part of the time; and whichever is called the first. CONDITIONS: none (any ticks, of which up to 200 are looked at; from where, and how many; any number).
-/
import Derived.Test.YtlicofdklfbkoaaLeOpen
namespace Go.Proofs.Ytlicofdklfbkoaa.leaseParts
open Go.ChangeShapes Go.WideShapes Go.ChangeAt Go.RowKit Go.Joins
open Go.ChangeMaps (open_string shut_string)
set_option linter.unusedVariables false
set_option linter.unusedSimpArgs false
set_option maxRecDepth 20000

open Le
theorem size_bools (w : World) : (sizeOf (Try.prog.elem 22)).run Try.prog w = .ok 1 w := by
  obtain ⟨i0, hi0, hz0, hz1, hz2⟩ := info_parts bool_info
  have e : Try.prog.elem 22 = 4 := by kernel_rfl
  rw [e]
  simp [sizeOf, typeInfo, hi0, hz1]
theorem under_bools : Try.prog.underlying 22 = some (.slice (Try.prog.elem 22)) := by
  rw [show Try.prog.elem 22 = 4 from by kernel_rfl]; exact Try.underlying22
theorem run_part (a : Option Addr) (n cap lo hi : Nat) (h1 : lo ≤ hi) (h2 : hi ≤ cap) (x y : Int) (hx : x = (lo : Int)) (hy : y = (hi : Int)) (w : World) :
    (Instr.slice 22 (.slice a n cap) (some (.int .i64 x)) (some (.int .i64 y)) none).run Try.prog w = .ok (.slice (adv a cap lo) (hi - lo) (cap - lo)) w := by
  subst hx hy
  rw [run_slice_lh w 22 a n cap under_bools .i64 .i64 lo hi (by omega) (by omega) (by omega), size_bools]
  simp [Result.andThen, sliced, adv]
theorem row_part {w : World} {a : Option Addr} {n cap : Nat} {l : List Bool} (h : Row w a n cap (Le.bits l)) {lo hi : Nat} (h1 : lo ≤ hi) (h2 : hi ≤ n) : Row w (adv a cap lo) (hi - lo) (cap - lo) (Le.bits ((l.drop lo).take (hi - lo))) := by
  have hd := row_drop h lo (by omega)
  have e : Le.bits ((l.drop lo).take (hi - lo)) = ((Le.bits l).drop lo).take (hi - lo) := by unfold Le.bits; rw [List.map_take, List.map_drop]
  rw [e]
  obtain ⟨g1, g2, g3, g4⟩ := hd
  refine ⟨by rw [List.length_take, g1]; omega, by omega, g3, ?_⟩
  rcases g4 with g4 | ⟨b, off, ha, hlt, hc⟩
  · exact .inl (by rw [g4]; simp)
  · exact .inr ⟨b, off, ha, hlt, fun i hi' => by rw [hc i (by omega), List.getElem?_take, if_pos hi']⟩
def turned (l : List Bool) (k : Nat) : List Bool := (l.take k).map (!·)
theorem turned_succ {l : List Bool} {k : Nat} {t : Bool} (h : l[k]? = some t) : turned l (k + 1) = turned l k ++ [!t] := by
  unfold turned
  rw [List.take_add_one, h, List.map_append]
  rfl
theorem turned_all {l : List Bool} {k : Nat} (h : l.length ≤ k) (d : Int) : tog (turned l k) d = tog l d := by
  unfold turned
  rw [List.take_of_length_le h, tog_not]

set_option maxHeartbeats 4000000 in
theorem walk (a0 : Option Addr) (n0 c0 : Nat) (l0 : List Bool) (x1 : Int) (x2 : Int) (x3 : Int) (w : World) (w0 : Le.Row w a0 n0 c0 (Le.bits l0)) (w1 : (Lit.int .u8 x1).wf = true) (w2 : (Lit.int .u8 x2).wf = true) (w3 : (Lit.int .i64 x3).wf = true) :
    Calls Try.prog 5 #[.slice a0 n0 c0, .int .u8 x1, .int .u8 x2, .int .i64 x3] w fun e w' => e = .returned (.bool true) ∧ Below w.heap.size w w' := by
  have HA := Lib.hid (fun w' => awake_any w')
  have HR := Lib.hid w0
  have HLen : Hid (l0.length = n0) := Lib.hid w0.len
  have hnc : n0 ≤ c0 := w0.2.1
  have hcm : c0 ≤ 9223372036854775807 := by have := w0.2.2.1; simp only [maxLen] at this; omega
  obtain ⟨hF0, hF9⟩ := u8_range w1
  obtain ⟨F, rfl⟩ := Int.eq_ofNat_of_zero_le hF0
  obtain ⟨hM0, hM9⟩ := u8_range w2
  obtain ⟨M, rfl⟩ := Int.eq_ofNat_of_zero_le hM0
  clear w0 w1 w2 hF0 hM0
  by_cases hbig : 200 < n0
  · have g1 : decide ((200 : Int) < (n0 : Int)) = true := by simp; omega
    have g1' : (200 : Int) < (n0 : Int) := by omega
    go_enter Try.func5, Try.ntmps5
    go_wp2_with (go_at_call 9; with_reducible refine (HA.out _).mono ?_; rintro e w1 ⟨rfl, hb1⟩
                 have HB := Lib.hid hb1
                 clear hb1)
    go_ret
    exact ⟨rfl, HB.out⟩
  have g1' : ¬ (200 : Int) < (n0 : Int) := by omega
  have HTg : Hid (∀ w', Below w.heap.size w w' → Calls Try.prog 12 #[.slice a0 n0 c0, .int .i64 x3] w' fun e w'' => e = .returned (.bool (tog l0 x3)) ∧ Below w'.heap.size w' w'') := Lib.hid fun w' hb => tog_any (row_below HR.out hb (Nat.le_refl _)) (by omega) x3
  have HTv : Hid (∀ w' a c, Own 4 w' w.heap.size a n0 c (Le.bits (turned l0 n0)) → w.heap.size ≤ w'.heap.size → Calls Try.prog 12 #[.slice a n0 c, .int .i64 x3] w' fun e w'' => e = .returned (.bool (tog l0 x3)) ∧ Below w.heap.size w' w'') := Lib.hid fun w' a c h hs => by
    refine (tog_any (own_row h).1 (by omega) x3).mono ?_
    rintro e w'' ⟨rfl, hb2⟩
    exact ⟨by rw [turned_all (by have := HLen.out; omega)], hb2.mono hs⟩
  go_enter Try.func5, Try.ntmps5
  go_wp2_with (go_at_call 9; with_reducible refine (HA.out _).mono ?_; rintro e w1 ⟨rfl, hb1⟩
               have HB := Lib.hid hb1
               clear hb1)
  go_loopw [9, 22] (fun sl i wr => ∃ (k : Nat) (a : Option Addr) (c : Nat), k ≤ n0 ∧ sl = .slice a k c ∧ i = .int .i64 (k : Int) ∧ Own 4 wr w.heap.size a k c (Le.bits (turned l0 k)) ∧ Below w.heap.size w wr) (fun _ i _ => n0 - (intOf i).toNat)
  case atStart => exact ⟨0, _, _, by omega, rfl, rfl, own_lit 4 w1 w.heap.size [] HB.out.size (by simp), HB.out.alloc HB.out.size _⟩
  case round =>
    obtain ⟨k, a, c, hk, rfl, rfl, ho, hb⟩ := hrel
    have HBr := Lib.hid hb
    by_cases hlt : k < n0
    · have hltI : (k : Int) < (n0 : Int) := by omega
      obtain ⟨t, ht⟩ : ∃ t, l0[k]? = some t := ⟨_, List.getElem?_eq_getElem (by have := HLen.out; omega)⟩
      obtain ⟨b, off, rfl, hbl, hc⟩ := HR.out.tick ht
      have hc' : wr.cell? ⟨b, off + k, none⟩ = some (.bool t) := by rw [hb.cell (p := ⟨b, off + k, none⟩) hbl]; exact hc
      have Ho := Lib.hid (own_below ho (bel1 wr (.cells #[.bool (!t)] 4)) (Nat.le_refl _))
      have Hs := Lib.hid (turned_succ ht)
      clear ho hb hc ht
      go_wp2_with (at_builtin
                   refine wpList_append_bool _ rfl (.tmp 25) (.tmp 31) rfl w.heap.size a k c (turned l0 k) rfl Ho.out _ 1 (!t) rfl (row_one _ 4 _) (by omega) (by have := HBr.out.size; simp; omega) ?_
                   intro a2 c2 w2 ho2 hb2
                   rw [← Hs.out] at ho2
                   have Ho2 := Lib.hid ho2
                   have Hb2 := Lib.hid ((HBr.out.alloc HBr.out.size _).trans hb2)
                   clear ho2 hb2)
      go_roundw
      case rel => exact ⟨k + 1, a2, c2, by omega, rfl, by go_num, Ho2.out, Hb2.out⟩
      case measure => simp [intOf]; omega
    · obtain rfl : n0 = k := by omega
      have Ho := Lib.hid ho
      have Hsz : Hid (wr.heap.size ≤ wr.heap.size) := Lib.hid (Nat.le_refl _)
      clear ho hb
      cases hT : tog l0 x3
      · have HTk := HTg
        have HTu := HTv
        rw [hT] at HTk HTu
        clear hT HTg HTv
        go_wp2_with (first
          | (go_at_call 12; with_reducible refine (HTk.out _ HBr.out).mono ?_; rintro e w3 ⟨rfl, b3'⟩
             have HB3 := Lib.hid (HBr.out.trans (b3'.mono HBr.out.size))
             have HU3 := Lib.hid (HTu.out w3 _ _ (own_below Ho.out b3' Hsz.out) HB3.out.size)
             clear b3' HTk)
          | (go_at_call 12; with_reducible refine HU3.out.mono ?_; rintro e w4 ⟨rfl, b4'⟩
             have HB4 := Lib.hid (HB3.out.trans b4')
             clear b4' HU3))
        all_goals
          go_ret
          exact ⟨rfl, HB4.out⟩
      · have HTk := HTg
        have HTu := HTv
        rw [hT] at HTk HTu
        have HTt := Lib.hid hT
        clear hT HTg HTv
        by_cases cA : (F : Int) ≤ (n0 : Int)
        · have cA' : ¬ (n0 : Int) < (F : Int) := by omega
          by_cases cB : (F : Int) + (M : Int) ≤ (n0 : Int)
          · have cB' : ¬ (n0 : Int) < (F : Int) + (M : Int) := by omega
            obtain ⟨A, hA⟩ : ∃ A : Nat, A = F := ⟨_, rfl⟩
            obtain ⟨B, hB⟩ : ∃ B : Nat, B = F + M := ⟨_, rfl⟩
            have hsl : ∀ w', (Instr.slice 22 (.slice a0 n0 c0) (some (.int .i64 ((F : Int)))) (some (.int .i64 ((F : Int) + (M : Int)))) none).run Try.prog w' = .ok (.slice (adv a0 c0 A) (B - A) (c0 - A)) w' := fun w' => run_part a0 n0 c0 A B (by omega) (by omega) _ _ (by omega) (by omega) w'
            have HP : Hid (∀ w', Below w.heap.size w w' → Calls Try.prog 12 #[.slice (adv a0 c0 A) (B - A) (c0 - A), .int .i64 x3] w' fun e w'' => e = .returned (.bool true) ∧ Below w.heap.size w' w'') := Lib.hid fun w' hb' => by
              refine (tog_any (row_below (row_part HR.out (lo := A) (hi := B) (by omega) (by omega)) hb' (Nat.le_refl _)) (by omega) x3).mono ?_
              rintro e w'' ⟨rfl, hb2⟩
              exact ⟨by rw [tog_part A (B - A) HTt.out], hb2.mono hb'.size⟩
            clear hA hB HR
            go_wp2_with (first
              | (go_at_call 12; with_reducible refine (HTk.out _ HBr.out).mono ?_; rintro e w3 ⟨rfl, b3'⟩
                 have HB3 := Lib.hid (HBr.out.trans (b3'.mono HBr.out.size))
                 have HU3 := Lib.hid (HTu.out w3 _ _ (own_below Ho.out b3' Hsz.out) HB3.out.size)
                 clear b3' HTk)
              | (go_at_call 12; with_reducible refine HU3.out.mono ?_; rintro e w4 ⟨rfl, b4'⟩
                 have HB4 := Lib.hid (HB3.out.trans b4')
                 clear b4' HU3)
              | (go_at_call 12; with_reducible refine (HP.out _ HB4.out).mono ?_; rintro e w5 ⟨rfl, b5'⟩
                 have HB5 := Lib.hid (HB4.out.trans b5')
                 clear b5'))
            go_ret
            exact ⟨rfl, HB5.out⟩
          · have cB' : (n0 : Int) < (F : Int) + (M : Int) := by omega
            obtain ⟨A, hA⟩ : ∃ A : Nat, A = F := ⟨_, rfl⟩
            obtain ⟨B, hB⟩ : ∃ B : Nat, B = n0 := ⟨_, rfl⟩
            have hsl : ∀ w', (Instr.slice 22 (.slice a0 n0 c0) (some (.int .i64 ((F : Int)))) (some (.int .i64 ((n0 : Int)))) none).run Try.prog w' = .ok (.slice (adv a0 c0 A) (B - A) (c0 - A)) w' := fun w' => run_part a0 n0 c0 A B (by omega) (by omega) _ _ (by omega) (by omega) w'
            have HP : Hid (∀ w', Below w.heap.size w w' → Calls Try.prog 12 #[.slice (adv a0 c0 A) (B - A) (c0 - A), .int .i64 x3] w' fun e w'' => e = .returned (.bool true) ∧ Below w.heap.size w' w'') := Lib.hid fun w' hb' => by
              refine (tog_any (row_below (row_part HR.out (lo := A) (hi := B) (by omega) (by omega)) hb' (Nat.le_refl _)) (by omega) x3).mono ?_
              rintro e w'' ⟨rfl, hb2⟩
              exact ⟨by rw [tog_part A (B - A) HTt.out], hb2.mono hb'.size⟩
            clear hA hB HR
            go_wp2_with (first
              | (go_at_call 12; with_reducible refine (HTk.out _ HBr.out).mono ?_; rintro e w3 ⟨rfl, b3'⟩
                 have HB3 := Lib.hid (HBr.out.trans (b3'.mono HBr.out.size))
                 have HU3 := Lib.hid (HTu.out w3 _ _ (own_below Ho.out b3' Hsz.out) HB3.out.size)
                 clear b3' HTk)
              | (go_at_call 12; with_reducible refine HU3.out.mono ?_; rintro e w4 ⟨rfl, b4'⟩
                 have HB4 := Lib.hid (HB3.out.trans b4')
                 clear b4' HU3)
              | (go_at_call 12; with_reducible refine (HP.out _ HB4.out).mono ?_; rintro e w5 ⟨rfl, b5'⟩
                 have HB5 := Lib.hid (HB4.out.trans b5')
                 clear b5'))
            go_ret
            exact ⟨rfl, HB5.out⟩
        · have cA' : (n0 : Int) < (F : Int) := by omega
          by_cases cB : (n0 : Int) + (M : Int) ≤ (n0 : Int)
          · have cB' : ¬ (n0 : Int) < (n0 : Int) + (M : Int) := by omega
            obtain ⟨A, hA⟩ : ∃ A : Nat, A = n0 := ⟨_, rfl⟩
            obtain ⟨B, hB⟩ : ∃ B : Nat, B = n0 + M := ⟨_, rfl⟩
            have hsl : ∀ w', (Instr.slice 22 (.slice a0 n0 c0) (some (.int .i64 ((n0 : Int)))) (some (.int .i64 ((n0 : Int) + (M : Int)))) none).run Try.prog w' = .ok (.slice (adv a0 c0 A) (B - A) (c0 - A)) w' := fun w' => run_part a0 n0 c0 A B (by omega) (by omega) _ _ (by omega) (by omega) w'
            have HP : Hid (∀ w', Below w.heap.size w w' → Calls Try.prog 12 #[.slice (adv a0 c0 A) (B - A) (c0 - A), .int .i64 x3] w' fun e w'' => e = .returned (.bool true) ∧ Below w.heap.size w' w'') := Lib.hid fun w' hb' => by
              refine (tog_any (row_below (row_part HR.out (lo := A) (hi := B) (by omega) (by omega)) hb' (Nat.le_refl _)) (by omega) x3).mono ?_
              rintro e w'' ⟨rfl, hb2⟩
              exact ⟨by rw [tog_part A (B - A) HTt.out], hb2.mono hb'.size⟩
            clear hA hB HR
            go_wp2_with (first
              | (go_at_call 12; with_reducible refine (HTk.out _ HBr.out).mono ?_; rintro e w3 ⟨rfl, b3'⟩
                 have HB3 := Lib.hid (HBr.out.trans (b3'.mono HBr.out.size))
                 have HU3 := Lib.hid (HTu.out w3 _ _ (own_below Ho.out b3' Hsz.out) HB3.out.size)
                 clear b3' HTk)
              | (go_at_call 12; with_reducible refine HU3.out.mono ?_; rintro e w4 ⟨rfl, b4'⟩
                 have HB4 := Lib.hid (HB3.out.trans b4')
                 clear b4' HU3)
              | (go_at_call 12; with_reducible refine (HP.out _ HB4.out).mono ?_; rintro e w5 ⟨rfl, b5'⟩
                 have HB5 := Lib.hid (HB4.out.trans b5')
                 clear b5'))
            go_ret
            exact ⟨rfl, HB5.out⟩
          · have cB' : (n0 : Int) < (n0 : Int) + (M : Int) := by omega
            obtain ⟨A, hA⟩ : ∃ A : Nat, A = n0 := ⟨_, rfl⟩
            obtain ⟨B, hB⟩ : ∃ B : Nat, B = n0 := ⟨_, rfl⟩
            have hsl : ∀ w', (Instr.slice 22 (.slice a0 n0 c0) (some (.int .i64 ((n0 : Int)))) (some (.int .i64 ((n0 : Int)))) none).run Try.prog w' = .ok (.slice (adv a0 c0 A) (B - A) (c0 - A)) w' := fun w' => run_part a0 n0 c0 A B (by omega) (by omega) _ _ (by omega) (by omega) w'
            have HP : Hid (∀ w', Below w.heap.size w w' → Calls Try.prog 12 #[.slice (adv a0 c0 A) (B - A) (c0 - A), .int .i64 x3] w' fun e w'' => e = .returned (.bool true) ∧ Below w.heap.size w' w'') := Lib.hid fun w' hb' => by
              refine (tog_any (row_below (row_part HR.out (lo := A) (hi := B) (by omega) (by omega)) hb' (Nat.le_refl _)) (by omega) x3).mono ?_
              rintro e w'' ⟨rfl, hb2⟩
              exact ⟨by rw [tog_part A (B - A) HTt.out], hb2.mono hb'.size⟩
            clear hA hB HR
            go_wp2_with (first
              | (go_at_call 12; with_reducible refine (HTk.out _ HBr.out).mono ?_; rintro e w3 ⟨rfl, b3'⟩
                 have HB3 := Lib.hid (HBr.out.trans (b3'.mono HBr.out.size))
                 have HU3 := Lib.hid (HTu.out w3 _ _ (own_below Ho.out b3' Hsz.out) HB3.out.size)
                 clear b3' HTk)
              | (go_at_call 12; with_reducible refine HU3.out.mono ?_; rintro e w4 ⟨rfl, b4'⟩
                 have HB4 := Lib.hid (HB3.out.trans b4')
                 clear b4' HU3)
              | (go_at_call 12; with_reducible refine (HP.out _ HB4.out).mono ?_; rintro e w5 ⟨rfl, b5'⟩
                 have HB5 := Lib.hid (HB4.out.trans b5')
                 clear b5'))
            go_ret
            exact ⟨rfl, HB5.out⟩

set_option maxRecDepth 100000 in
theorem lifted (os : Os) (started : os.Started) (H : Type) (enc : TypeId × Value → H) :
    ReturnsInHanded {} Try.checked os 5 .any (Rows.leasePartsSpec.pre6 enc Try.prog Try.f5 Rows.leasePartsRow.domain false) (Rows.leasePartsSpec.post enc Try.prog Try.f5 false true false false) := by
  refine returnsInHanded_of_change (C := Try.checked) Le.own started (by kernel_rfl) Try.func5
    (ChangeSpec.witness6 (enc := enc) (C := Try.checked) false ⟨#[], #[.slice none 0 0, .int .u8 0, .int .u8 0, .int .i64 0], []⟩ 8 (by kernel_rfl) (by kernel_rfl) (by kernel_rfl) (by kernel_rfl)) ?_
  intro W base args ds gs before hval0 hW hcnd _
  have hval : ∀ (j : Nat) t v, Try.f5.params[j]? = some t → args[j]? = some v → Value.okWide Try.prog W .any base t v := hval0
  have hW' := hW
  obtain ⟨p, q, hA0, hV, rfl, hfz, hnd⟩ := hW
  have hA : DataW.TrodAll enc Try.prog W 0 (fun _ => true) true Try.f5.params.toList args.toList ds p := hA0
  rw [Try.params5] at hA hval
  obtain ⟨v0, vs0, d0, ds0, p0, q0, hargs, rfl, rfl, h0, r0'⟩ := trodAll_cons hA
  obtain ⟨v1, vs1, d1, ds1, p1, q1, rfl, rfl, rfl, h1, r1'⟩ := trodAll_cons r0'
  obtain ⟨v2, vs2, d2, ds2, p2, q2, rfl, rfl, rfl, h2, r2'⟩ := trodAll_cons r1'
  obtain ⟨v3, vs3, d3, ds3, p3, q3, rfl, rfl, rfl, h3, r3'⟩ := trodAll_cons r2'
  obtain ⟨rfl, rfl, rfl⟩ := trodAll_nil r3'
  obtain rfl : args = #[v0, v1, v2, v3] := by cases args; simp_all
  obtain ⟨rfl, rfl⟩ := trodVars_none hV
  have k0 := h0
  have lt0 : ∀ x ∈ p0, x.block < W.heap.size := by obtain ⟨m, hm⟩ := k0; exact DataW.trod_lt m _ _ _ hm
  obtain ⟨a0, n0, c0, l0, rfl, w0⟩ := Le.open_bits h0 (okWide_slice Try.underlying22 (hval 0 22 v0 rfl rfl))
  obtain ⟨x1, rfl, rfl, rfl, w1⟩ := open_int Try.underlying5 (hval 1 5 v1 rfl rfl) h1
  obtain ⟨x2, rfl, rfl, rfl, w2⟩ := open_int Try.underlying5 (hval 2 5 v2 rfl rfl) h2
  obtain ⟨x3, rfl, rfl, rfl, w3⟩ := open_int Try.underlying2 (hval 3 2 v3 rfl rfl) h3
  clear hA0 hval0
  refine (walk a0 n0 c0 l0 x1 x2 x3 W w0 w1 w2 w3).mono fun e W' ⟨he, bel⟩ => ?_
  subst he
  exact ⟨_, rfl, _, _, _, [], _, [], hW', trodAll_mk1 (shut_bool Try.underlying4 _), (trodAll_cons_mk (Below.trod Le.laidOut (by kernel_rfl) (of_decide_eq_true (by kernel_rfl)) k0 bel lt0) (trodAll_cons_mk (shut_int Try.underlying5 w1) (trodAll_cons_mk (shut_int Try.underlying5 w2) (trodAll_cons_mk (shut_int Try.underlying2 w3) trodAll_mk0)))), rfl, bel.frame _, fun h => by cases h⟩

theorem over : Rows.leasePartsRow.holds Try.pinned (OpenSpec.ofChange Rows.leasePartsSpec) :=
  OpenClaim.holds_of_wide 5 Try.f5 rfl rfl rfl rfl rfl rfl rfl ⟨rfl, rfl, rfl, rfl, rfl⟩ rfl rfl rfl rfl rfl (by kernel_rfl) Try.func5 (by kernel_rfl)
    (of_decide_eq_true (by kernel_rfl)) (by unfold Func.isWrapper; first | (rw [if_pos (by decide +kernel)]; kernel_rfl) | (rw [if_neg (by decide +kernel)]; exact ⟨rfl, rfl⟩))
    (fun os started H enc _ => lifted os started H enc)

/-- the statement -/
theorem proved : Rows.LeasePartsSaid := over
#print axioms proved
end Go.Proofs.Ytlicofdklfbkoaa.leaseParts
