/-
  PROVED: numbers' bytes are as many as they need, and unlike for unlike ones; those nearer to 0 have no more. CONDITIONS: none (any two numbers of 64 bits).
-/
import Derived.Test.YtdakfhoadfbfiaaBox
import Derived.Test.YtdakfhoadfbfiaaOpen
namespace Go.Proofs.Ytdakfhoadfbfiaa.codeNumbers
open Go.ChangeShapes Go.WideShapes Go.ChangeAt Go.RowKit Go.Joins
set_option linter.unusedVariables false
set_option linter.unusedSimpArgs false
set_option maxRecDepth 20000

theorem str_back (l : List UInt8) : (str l).toList = l := by simp [str]
theorem one_dec {a : Int} (h : M.fits a) : M.dec ([0, 1] ++ M.num a) = some ⟨0, [a], []⟩ := by
  have hm : M.May ⟨0, [a], []⟩ := ⟨by simp, by simp, by simp, by simp, by simp⟩
  have hf : M.Fits ⟨0, [a], []⟩ := by intro n hn; simp at hn; rw [hn]; exact h
  have := M.dec_enc hm hf
  have e : M.enc ⟨0, [a], []⟩ = [0, 1] ++ M.num a := by simp [M.enc, M.cnt]
  rw [e] at this
  exact this
/-- the four ways of two numbers -/
def Way (a b : Int) (nx ny : Nat) : Prop :=
  (decide (a < 0) = false ∧ decide (0 ≤ a) = true ∧ decide (a ≤ b) = true ∧ decide (nx ≤ ny) = true) ∨ (decide (a < 0) = false ∧ decide (0 ≤ a) = true ∧ decide (a ≤ b) = false) ∨
  (decide (a < 0) = true ∧ decide (0 ≤ a) = false ∧ decide (b ≤ a) = true ∧ decide (nx ≤ ny) = true) ∨ (decide (a < 0) = true ∧ decide (0 ≤ a) = false ∧ decide (b ≤ a) = false)
theorem way (a b : Int) : Way a b (M.num a).length (M.num b).length := by
  unfold Way
  by_cases h0 : a < 0
  · have h1 : ¬ 0 ≤ a := by omega
    by_cases h : b ≤ a
    · refine .inr (.inr (.inl ⟨decide_eq_true h0, decide_eq_false h1, decide_eq_true h, ?_⟩))
      rw [decide_eq_true_eq]
      have := M.vb_mono 9 (M.zig a) (M.zig b) (by unfold M.zig; rw [if_pos h0, if_pos (by omega)]; omega)
      unfold M.num
      omega
    · exact .inr (.inr (.inr ⟨decide_eq_true h0, decide_eq_false h1, decide_eq_false h⟩))
  · have h1 : 0 ≤ a := by omega
    by_cases h : a ≤ b
    · refine .inl ⟨decide_eq_false h0, decide_eq_true h1, decide_eq_true h, ?_⟩
      rw [decide_eq_true_eq]
      have := M.vb_mono 9 (M.zig a) (M.zig b) (by unfold M.zig; rw [if_neg h0, if_neg (by omega)]; omega)
      unfold M.num
      omega
    · exact .inr (.inl ⟨decide_eq_false h0, decide_eq_true h1, decide_eq_false h⟩)
theorem num_beq {a b : Int} (ha : M.fits a) (hb : M.fits b) : (M.num a == M.num b) = (a == b) := by
  by_cases h : a = b
  · subst h; simp
  · have h2 : ¬ M.num a = M.num b := fun e => h (M.num_inj ha hb e)
    rw [beq_eq_false_iff_ne.2 h, beq_eq_false_iff_ne.2 h2]

set_option maxHeartbeats 1000000 in
theorem walk (x0 : Int) (x1 : Int) (w : World) (w0 : (Lit.int .i64 x0).wf = true) (w1 : (Lit.int .i64 x1).wf = true) :
    Calls Try.prog 8 #[.int .i64 x0, .int .i64 x1] w fun e w' => e = .returned (.bool true) ∧ Below w.heap.size w w' := by
  have hf0 := fits_of w0
  have hf1 := fits_of w1
  have Hf0 := Lib.hid hf0
  have Hf1 := Lib.hid hf1
  have hbeq : (M.num x0 == M.num x1) = (x0 == x1) := num_beq hf0 hf1
  have l0 := M.num_len x0
  have hs0 := str_back (M.num x0)
  have hs1 := str_back (M.num x1)
  have hd1 : decide (((M.num x0).length : Int) < 1) = false := by rw [decide_eq_false_iff_not]; omega
  have hd2 : decide ((10 : Int) < ((M.num x0).length : Int)) = false := by rw [decide_eq_false_iff_not]; omega
  have HW := Lib.hid (way x0 x1)
  have L0 := Lib.hid l0
  clear hf0 hf1 w0 w1 l0
  go_enter Try.func8, Try.ntmps8
  go_wp2_with (go_at_call 12; refine (awake_any _).mono ?_; rintro e w1 ⟨rfl, hb⟩; have B1 := Lib.hid hb; clear hb)
  refine (number2_any x0 _ Hf0.out).mono ?_
  rintro e w2 ⟨a2, cap2, rfl, ho2, hb⟩
  have B2 : Hid (Below w.heap.size w w2) := B1.out.trans (hb.mono B1.out.size)
  have O2 := Lib.hid ho2
  clear ho2 hb
  go_wp2_with fail
  refine (number2_any x1 _ Hf1.out).mono ?_
  rintro e w3 ⟨a3, cap3, rfl, ho3, hb⟩
  have B3 : Hid (Below w.heap.size w w3) := B2.out.trans (hb.mono B2.out.size)
  have O3 := Lib.hid ho3
  have O2' := Lib.hid (own_below O2.out hb (Nat.le_refl _))
  have hc2 := run_string_bytes (own_row O2'.out).1
  have hc3 := run_string_bytes (own_row O3.out).1
  clear ho3 hb
  go_wp2_with (at_builtin
               refine wpList_append_u8 _ rfl (.tmp 35) (.tmp 36) rfl w3.heap.size (some ⟨w3.heap.size, 0, none⟩) 2 2 [0, 1] rfl (own_lit 5 w3 w3.heap.size (u8s [0, 1]) (Nat.le_refl _) (by simp [u8s])) a2 _ cap2 (M.num x0) rfl (row_below (own_row O2'.out).1 ((Below.refl _ _).alloc (Nat.le_refl _) _) (Nat.le_refl _)) (2 + (M.num x0).length) rfl (by have := L0.out; omega) (by simp) ?_
               intro a4 cap4 w4 hown hb
               have O4 := Lib.hid hown
               have B4 : Hid (Below w.heap.size w w4) := (B3.out.alloc B3.out.size _).trans (hb.mono B3.out.size)
               clear hown hb)
  refine (decode_ok _ _ _ _ ([0, 1] ++ M.num x0) ⟨0, [x0], []⟩ (own_row O4.out).1 (one_dec Hf0.out)).mono ?_
  rintro e w5 ⟨aN, nN, cN, aT, nT, cT, rfl, ho5, hb⟩
  obtain rfl : nN = 1 := ho5.at.lenN
  obtain rfl : nT = 0 := ho5.at.lenT
  obtain ⟨b, off, t, rfl, hbT, ht, hcT⟩ := row_i64 ho5.at.nums 0 (by omega)
  obtain rfl : x0 = t := by injection ht
  have B5 : Hid (Below w.heap.size w w5) := B4.out.trans (hb.mono B4.out.size)
  have hc5 : (w5.alloc (.cells #[.int .i64 0, .slice (some ⟨b, off, none⟩) 1 cN, .slice aT 0 cT] 25)).cell? ⟨b, off, none⟩ = some (.int .i64 x0) := by
    rw [((Below.refl w5.heap.size w5).alloc (Nat.le_refl _) _).cell (p := ⟨b, off, none⟩) hbT]
    rw [Nat.add_zero] at hcT
    exact hcT
  have hxx : (x0 != x0) = false := by simp
  clear ho5 hb ht hcT hbT
  rcases HW.out with ⟨g1, g2, g3, g4⟩ | ⟨g1, g2, g3⟩ | ⟨g1, g2, g3, g4⟩ | ⟨g1, g2, g3⟩
  all_goals
    go_wp2_with fail
    go_ret
    exact ⟨rfl, B5.out.alloc B5.out.size _⟩

set_option maxRecDepth 100000 in
theorem lifted (os : Os) (started : os.Started) (H : Type) (enc : TypeId × Value → H) :
    ReturnsInHanded {} Try.checked os 8 .any (Rows.codeNumbersSpec.pre6 enc Try.prog Try.f8 Rows.codeNumbersRow.domain false) (Rows.codeNumbersSpec.post enc Try.prog Try.f8 false true false false) := by
  refine returnsInHanded_of_change (C := Try.checked) own started (by kernel_rfl) Try.func8
    (ChangeSpec.witness6 (enc := enc) (C := Try.checked) false ⟨#[], #[.int .i64 0, .int .i64 0], []⟩ 8 (by kernel_rfl) (by kernel_rfl) (by kernel_rfl) (by kernel_rfl)) ?_
  intro W base args ds gs before hval0 hW hcnd _
  have hval : ∀ (j : Nat) t v, Try.f8.params[j]? = some t → args[j]? = some v → Value.okWide Try.prog W .any base t v := hval0
  have hW' := hW
  obtain ⟨p, q, hA0, hV, rfl, hfz, hnd⟩ := hW
  have hA : DataW.TrodAll enc Try.prog W 0 (fun _ => true) true Try.f8.params.toList args.toList ds p := hA0
  rw [Try.params8] at hA hval
  obtain ⟨v0, vs0, d0, ds0, p0, q0, hargs, rfl, rfl, h0, r0'⟩ := trodAll_cons hA
  obtain ⟨v1, vs1, d1, ds1, p1, q1, rfl, rfl, rfl, h1, r1'⟩ := trodAll_cons r0'
  obtain ⟨rfl, rfl, rfl⟩ := trodAll_nil r1'
  obtain rfl : args = #[v0, v1] := by cases args; simp_all
  obtain ⟨rfl, rfl⟩ := trodVars_none hV
  obtain ⟨x0, rfl, rfl, rfl, w0⟩ := open_int Try.underlying2 (hval 0 2 v0 rfl rfl) h0
  obtain ⟨x1, rfl, rfl, rfl, w1⟩ := open_int Try.underlying2 (hval 1 2 v1 rfl rfl) h1
  clear hA0 hval0
  refine (walk x0 x1 W w0 w1).mono fun e W' ⟨he, bel⟩ => ?_
  subst he
  exact ⟨_, rfl, _, _, _, [], _, [], hW', trodAll_mk1 (shut_bool Try.underlying4 _), (trodAll_cons_mk (shut_int Try.underlying2 w0) (trodAll_cons_mk (shut_int Try.underlying2 w1) trodAll_mk0)), rfl, bel.frame _, fun h => by cases h⟩

theorem over : Rows.codeNumbersRow.holds Try.pinned (OpenSpec.ofChange Rows.codeNumbersSpec) :=
  OpenClaim.holds_of_wide 8 Try.f8 rfl rfl rfl rfl rfl rfl rfl ⟨rfl, rfl, rfl, rfl, rfl⟩ rfl rfl rfl rfl rfl (by kernel_rfl) Try.func8 (by kernel_rfl)
    (of_decide_eq_true (by kernel_rfl)) (by unfold Func.isWrapper; first | (rw [if_pos (by decide +kernel)]; kernel_rfl) | (rw [if_neg (by decide +kernel)]; exact ⟨rfl, rfl⟩))
    (fun os started H enc _ => lifted os started H enc)

/-- the statement -/
theorem proved : Rows.CodeNumbersSaid := over
#print axioms proved
end Go.Proofs.Ytdakfhoadfbfiaa.codeNumbers
