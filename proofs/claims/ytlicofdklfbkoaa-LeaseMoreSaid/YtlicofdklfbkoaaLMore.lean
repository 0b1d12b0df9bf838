/-
  PROVED: clocks that go together by so much go together by more; ticks in turn always do. CONDITIONS: none (any ticks, of which up to 200 are looked at; any numbers).
-/
import Derived.Test.YtlicofdklfbkoaaLeOpen
namespace Go.Proofs.Ytlicofdklfbkoaa.leaseMore
open Go.ChangeShapes Go.WideShapes Go.ChangeAt Go.RowKit Go.Joins
open Go.ChangeMaps (open_string shut_string)
set_option linter.unusedVariables false
set_option linter.unusedSimpArgs false
set_option maxRecDepth 20000

open Le
/-- ticks in turn -/
def turnL (k : Nat) : List Bool := (List.range k).map fun i => i % 2 == 0
theorem turnL_succ (k : Nat) : turnL (k + 1) = turnL k ++ [k % 2 == 0] := by unfold turnL; rw [List.range_succ, List.map_append]; rfl
theorem turnL_length (k : Nat) : (turnL k).length = k := by simp [turnL]
theorem even_eq' (k : Nat) : ((k : Int) % 2 == 0) = (k % 2 == 0) := by
  rcases Nat.mod_two_eq_zero_or_one k with h | h
  · have : (k : Int) % 2 = 0 := by omega
    rw [this, h]; rfl
  · have : (k : Int) % 2 = 1 := by omega
    rw [this, h]; rfl

set_option maxHeartbeats 4000000 in
theorem walk (a0 : Option Addr) (n0 c0 : Nat) (l0 : List Bool) (x1 : Int) (x2 : Int) (w : World) (w0 : Le.Row w a0 n0 c0 (Le.bits l0)) (w1 : (Lit.int .i64 x1).wf = true) (w2 : (Lit.int .i64 x2).wf = true) :
    Calls Try.prog 8 #[.slice a0 n0 c0, .int .i64 x1, .int .i64 x2] w fun e w' => e = .returned (.bool true) ∧ Below w.heap.size w w' := by
  have HA := Lib.hid (fun w' => awake_any w')
  have HR := Lib.hid w0
  have hLen : l0.length = n0 := w0.len
  have hcap : n0 ≤ 9223372036854775807 := by have := w0.2.1; have := w0.2.2.1; simp only [maxLen] at this; omega
  clear w0
  by_cases hbig : 200 < n0
  · have g1 : decide ((200 : Int) < (n0 : Int)) = true := by simp; omega
    have g1' : (200 : Int) < (n0 : Int) := by omega
    clear hLen
    go_enter Try.func8, Try.ntmps8
    go_wp2_with (go_at_call 9; with_reducible refine (HA.out _).mono ?_; rintro e w1 ⟨rfl, hb1⟩
                 have HB := Lib.hid hb1
                 clear hb1)
    go_ret
    exact ⟨rfl, HB.out⟩
  · have g1 : decide ((200 : Int) < (n0 : Int)) = false := by simp; omega
    have g1' : ¬ (200 : Int) < (n0 : Int) := by omega
    by_cases hgd : x1 < 0 ∨ 999 < x2 ∨ x2 < x1
    · have hg3 : decide (x1 < 0) = true ∨ (decide (x1 < 0) = false ∧ decide (999 < x2) = true) ∨ (decide (x1 < 0) = false ∧ decide (999 < x2) = false ∧ decide (x2 < x1) = true) := by
        by_cases h1 : x1 < 0
        · exact .inl (by simpa using h1)
        · by_cases h2 : 999 < x2
          · exact .inr (.inl ⟨by simpa using h1, by simpa using h2⟩)
          · exact .inr (.inr ⟨by simpa using h1, by simpa using h2, by simp; omega⟩)
      clear hLen hgd
      rcases hg3 with c1 | ⟨c1, c2⟩ | ⟨c1, c2, c3⟩
      all_goals
        go_enter Try.func8, Try.ntmps8
        go_wp2_with (go_at_call 9; with_reducible refine (HA.out _).mono ?_; rintro e w1 ⟨rfl, hb1⟩
                     have HB := Lib.hid hb1
                     clear hb1)
        go_ret
        exact ⟨rfl, HB.out⟩
    · have c1 : decide (x1 < 0) = false := by simp; omega
      have c2 : decide (999 < x2) = false := by simp; omega
      have c3 : decide (x2 < x1) = false := by simp; omega
      have b1 : 0 ≤ x1 := by omega
      have b2 : x1 ≤ x2 := by omega
      have b3 : x2 ≤ 999 := by omega
      have HTg : Hid (∀ w', Below w.heap.size w w' → ∀ d, Calls Try.prog 12 #[.slice a0 n0 c0, .int .i64 d] w' fun e w'' => e = .returned (.bool (tog l0 d)) ∧ Below w.heap.size w' w'') := Lib.hid fun w' hb d => by
        refine (tog_any (row_below HR.out hb (Nat.le_refl _)) (by omega) d).mono ?_
        rintro e w'' ⟨rfl, hb2⟩
        exact ⟨rfl, hb2.mono hb.size⟩
      have HTu : Hid (∀ w' a c, Own 4 w' w.heap.size a n0 c (Le.bits (turnL n0)) → w.heap.size ≤ w'.heap.size → Calls Try.prog 12 #[.slice a n0 c, .int .i64 x1] w' fun e w'' => e = .returned (.bool true) ∧ Below w.heap.size w' w'') := Lib.hid fun w' a c h hs => by
        refine (tog_any (own_row h).1 (by omega) x1).mono ?_
        rintro e w'' ⟨rfl, hb2⟩
        exact ⟨by rw [show tog (turnL n0) x1 = true from tog_alt b1 (by omega) n0], hb2.mono hs⟩
      have HMo : Hid (tog l0 x1 = false ∨ (tog l0 x1 = true ∧ tog l0 x2 = true)) := Lib.hid (by
        cases h : tog l0 x1
        · exact .inl rfl
        · exact .inr ⟨rfl, tog_more b2 b3 h⟩)
      clear hLen hgd
      go_enter Try.func8, Try.ntmps8
      go_wp2_with (go_at_call 9; with_reducible refine (HA.out _).mono ?_; rintro e w1 ⟨rfl, hb1⟩
                   have HB := Lib.hid hb1
                   clear hb1)
      go_loopw [7, 30] (fun sl i wr => ∃ (k : Nat) (a : Option Addr) (c : Nat), k ≤ n0 ∧ sl = .slice a k c ∧ i = .int .i64 (k : Int) ∧ Own 4 wr w.heap.size a k c (Le.bits (turnL k)) ∧ Below w.heap.size w wr) (fun _ i _ => n0 - (intOf i).toNat)
      case atStart => exact ⟨0, _, _, by omega, rfl, rfl, own_lit 4 w1 w.heap.size [] HB.out.size (by simp), HB.out.alloc HB.out.size _⟩
      case round =>
        obtain ⟨k, a, c, hk, rfl, rfl, ho, hb⟩ := hrel
        have HBr := Lib.hid hb
        by_cases hlt : k < n0
        · have hltI : (k : Int) < (n0 : Int) := by omega
          have he := even_eq' k
          have Ho := Lib.hid (own_below ho (bel1 wr (.cells #[.bool (k % 2 == 0)] 4)) (Nat.le_refl _))
          have Hs := Lib.hid (turnL_succ k)
          clear ho hb
          go_wp2_with (at_builtin
                       refine wpList_append_bool _ rfl (.tmp 33) (.tmp 37) rfl w.heap.size a k c (turnL k) rfl Ho.out _ 1 (k % 2 == 0) rfl (row_one _ 4 _) (by omega) (by have := HBr.out.size; simp; omega) ?_
                       intro a2 c2 w2 ho2 hb2
                       rw [← Hs.out] at ho2
                       have Ho2 := Lib.hid ho2
                       have Hb2 := Lib.hid ((HBr.out.alloc HBr.out.size _).trans hb2)
                       clear ho2 hb2)
          go_roundw
          case rel => exact ⟨k + 1, a2, c2, by omega, rfl, by go_num, Ho2.out, Hb2.out⟩
          case measure => simp [intOf]; omega
        · obtain rfl : n0 = k := by omega
          have HU := Lib.hid (HTu.out wr a c ho HBr.out.size)
          clear ho hb
          have HT1 : Hid (∀ w', Below w.heap.size w w' → Calls Try.prog 12 #[.slice a0 n0 c0, .int .i64 x1] w' fun e w'' => e = .returned (.bool (tog l0 x1)) ∧ Below w.heap.size w' w'') := Lib.hid fun w' h => HTg.out w' h x1
          have HT2 : Hid (∀ w', Below w.heap.size w w' → Calls Try.prog 12 #[.slice a0 n0 c0, .int .i64 x2] w' fun e w'' => e = .returned (.bool (tog l0 x2)) ∧ Below w.heap.size w' w'') := Lib.hid fun w' h => HTg.out w' h x2
          clear HTg HTu
          rcases HMo.out with hm | ⟨hm, hm2⟩
          · rw [hm] at HT1
            go_wp2_with (first
              | (go_at_call 12; with_reducible refine HU.out.mono ?_; rintro e w3 ⟨rfl, b3'⟩
                 have HB3 := Lib.hid (HBr.out.trans b3')
                 clear b3')
              | (go_at_call 12; with_reducible refine (HT1.out _ HB3.out).mono ?_; rintro e w4 ⟨rfl, b4'⟩
                 have HB4 := Lib.hid (HB3.out.trans b4')
                 clear b4'))
            go_ret
            exact ⟨rfl, HB4.out⟩
          · rw [hm] at HT1
            rw [hm2] at HT2
            go_wp2_with (first
              | (go_at_call 12; with_reducible refine HU.out.mono ?_; rintro e w3 ⟨rfl, b3'⟩
                 have HB3 := Lib.hid (HBr.out.trans b3')
                 clear b3' HU)
              | (go_at_call 12; with_reducible refine (HT1.out _ HB3.out).mono ?_; rintro e w4 ⟨rfl, b4'⟩
                 have HB4 := Lib.hid (HB3.out.trans b4')
                 clear b4' HT1)
              | (go_at_call 12; with_reducible refine (HT2.out _ HB4.out).mono ?_; rintro e w5 ⟨rfl, b5'⟩
                 have HB5 := Lib.hid (HB4.out.trans b5')
                 clear b5'))
            go_ret
            exact ⟨rfl, HB5.out⟩

set_option maxRecDepth 100000 in
theorem lifted (os : Os) (started : os.Started) (H : Type) (enc : TypeId × Value → H) :
    ReturnsInHanded {} Try.checked os 8 .any (Rows.leaseMoreSpec.pre6 enc Try.prog Try.f8 Rows.leaseMoreRow.domain false) (Rows.leaseMoreSpec.post enc Try.prog Try.f8 false true false false) := by
  refine returnsInHanded_of_change (C := Try.checked) Le.own started (by kernel_rfl) Try.func8
    (ChangeSpec.witness6 (enc := enc) (C := Try.checked) false ⟨#[], #[.slice none 0 0, .int .i64 0, .int .i64 0], []⟩ 8 (by kernel_rfl) (by kernel_rfl) (by kernel_rfl) (by kernel_rfl)) ?_
  intro W base args ds gs before hval0 hW hcnd _
  have hval : ∀ (j : Nat) t v, Try.f8.params[j]? = some t → args[j]? = some v → Value.okWide Try.prog W .any base t v := hval0
  have hW' := hW
  obtain ⟨p, q, hA0, hV, rfl, hfz, hnd⟩ := hW
  have hA : DataW.TrodAll enc Try.prog W 0 (fun _ => true) true Try.f8.params.toList args.toList ds p := hA0
  rw [Try.params8] at hA hval
  obtain ⟨v0, vs0, d0, ds0, p0, q0, hargs, rfl, rfl, h0, r0'⟩ := trodAll_cons hA
  obtain ⟨v1, vs1, d1, ds1, p1, q1, rfl, rfl, rfl, h1, r1'⟩ := trodAll_cons r0'
  obtain ⟨v2, vs2, d2, ds2, p2, q2, rfl, rfl, rfl, h2, r2'⟩ := trodAll_cons r1'
  obtain ⟨rfl, rfl, rfl⟩ := trodAll_nil r2'
  obtain rfl : args = #[v0, v1, v2] := by cases args; simp_all
  obtain ⟨rfl, rfl⟩ := trodVars_none hV
  have k0 := h0
  have lt0 : ∀ x ∈ p0, x.block < W.heap.size := by obtain ⟨m, hm⟩ := k0; exact DataW.trod_lt m _ _ _ hm
  obtain ⟨a0, n0, c0, l0, rfl, w0⟩ := Le.open_bits h0 (okWide_slice Try.underlying22 (hval 0 22 v0 rfl rfl))
  obtain ⟨x1, rfl, rfl, rfl, w1⟩ := open_int Try.underlying2 (hval 1 2 v1 rfl rfl) h1
  obtain ⟨x2, rfl, rfl, rfl, w2⟩ := open_int Try.underlying2 (hval 2 2 v2 rfl rfl) h2
  clear hA0 hval0
  refine (walk a0 n0 c0 l0 x1 x2 W w0 w1 w2).mono fun e W' ⟨he, bel⟩ => ?_
  subst he
  exact ⟨_, rfl, _, _, _, [], _, [], hW', trodAll_mk1 (shut_bool Try.underlying4 _), (trodAll_cons_mk (Below.trod Le.laidOut (by kernel_rfl) (of_decide_eq_true (by kernel_rfl)) k0 bel lt0) (trodAll_cons_mk (shut_int Try.underlying2 w1) (trodAll_cons_mk (shut_int Try.underlying2 w2) trodAll_mk0))), rfl, bel.frame _, fun h => by cases h⟩

theorem over : Rows.leaseMoreRow.holds Try.pinned (OpenSpec.ofChange Rows.leaseMoreSpec) :=
  OpenClaim.holds_of_wide 8 Try.f8 rfl rfl rfl rfl rfl rfl rfl ⟨rfl, rfl, rfl, rfl, rfl⟩ rfl rfl rfl rfl rfl (by kernel_rfl) Try.func8 (by kernel_rfl)
    (of_decide_eq_true (by kernel_rfl)) (by unfold Func.isWrapper; first | (rw [if_pos (by decide +kernel)]; kernel_rfl) | (rw [if_neg (by decide +kernel)]; exact ⟨rfl, rfl⟩))
    (fun os started H enc _ => lifted os started H enc)

/-- the statement -/
theorem proved : Rows.LeaseMoreSaid := over
#print axioms proved
end Go.Proofs.Ytlicofdklfbkoaa.leaseMore
