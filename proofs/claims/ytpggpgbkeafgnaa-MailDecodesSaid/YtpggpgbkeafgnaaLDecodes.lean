/-
  PROVED: Which message any bytes are, or that they are none, is as the document says. CONDITIONS: none (any bytes, of which up to 2^14 are decoded).
-/
import Derived.Test.YtpggpgbkeafgnaaMlRefD
namespace Go.Proofs.Ytpggpgbkeafgnaa.mailDecodes
open Go.ChangeShapes Go.WideShapes Go.ChangeAt Go.RowKit Go.Joins
open Go.ChangeMaps (open_string shut_string)
set_option linter.unusedVariables false
set_option linter.unusedSimpArgs false
set_option maxRecDepth 20000

open Ml

set_option maxHeartbeats 4000000 in
theorem walk (s0 : ByteArray) (w : World) (w0 : s0.size ≤ maxLen) :
    Calls Try.prog 4 #[.string s0] w fun e w' => e = .returned (.bool true) ∧ Below w.heap.size w w' := by
  have hg := mg_guard
  by_cases hbig : 16384 < s0.size
  · have hd : decide ((16384 : Int) < (s0.size : Int)) = true := by rw [decide_eq_true_eq]; omega
    clear hbig
    go_enter Try.func4, Try.ntmps4
    go_wp2_with (first
      | (go_at_call 8; with_reducible refine (awake_any _).mono ?_; rintro e1 w1 ⟨rfl, hb⟩
         have C1 := Lib.hid hb
         clear hb))
    go_ret
    exact ⟨rfl, C1.out⟩
  · have hd : decide ((16384 : Int) < (s0.size : Int)) = false := by rw [decide_eq_false_iff_not]; omega
    have hP := fun w' => Ml.decode_any w' s0 (by omega)
    have hR := fun w' => Ml.refdecode_any w' s0 (by omega)
    obtain ⟨m, hm⟩ : ∃ m, readV (Ml.read s0.data.toList) = .tuple #[msgV m, .int .i64 0] ∨ readV (Ml.read s0.data.toList) = .tuple #[msgV m, .int .i64 4] := by
      cases h : Ml.read s0.data.toList with
      | none => exact ⟨nil, .inr rfl⟩
      | some m => exact ⟨m, .inl rfl⟩
    have hq := fun w' => msg_equal m m w'
    rw [show decide (m = m) = true by simp] at hq
    clear hbig
    obtain ⟨kind, epoch, seq, n, block, client, e, t0, t1, t2, t3, data, row⟩ := m
    simp only [msgV, Mg.cells] at hm hq
    rcases hm with hm | hm
    all_goals
      rw [hm] at hP hR
      clear hm
      have HP := Lib.hid hP
      have HR := Lib.hid hR
      clear hP hR
      go_enter Try.func4, Try.ntmps4
      go_wp2_with (first
        | (go_at_call 8; with_reducible refine (awake_any _).mono ?_; rintro e1 w1 ⟨rfl, hb⟩
           have C1 := Lib.hid hb
           clear hb)
        | (go_at_call 13; with_reducible refine (HP.out _).mono ?_; rintro e2 w2 ⟨rfl, hb⟩
           have C2 := Lib.hid (C1.out.trans (Below.mono hb C1.out.size))
           have HMB := Lib.hid (MB.new w2 ⟨kind, epoch, seq, n, block, client, e, t0, t1, t2, t3, data, row⟩)
           clear hb)
        | (go_at_call 14; with_reducible refine (HR.out _).mono ?_; rintro e3 w3 ⟨rfl, hb⟩
           have C3 := Lib.hid (((C2.out.alloc C2.out.size _).trans (Below.mono hb (C2.out.alloc C2.out.size _).size)).alloc ((C2.out.alloc C2.out.size _).trans (Below.mono hb (C2.out.alloc C2.out.size _).size)).size (.cells (Mg.cells ⟨kind, epoch, seq, n, block, client, e, t0, t1, t2, t3, data, row⟩) 25))
           obtain ⟨z0, z1, z2, z3, z4, z5, z6, z7, z8, z9, z10, z11, z12⟩ := ((HMB.out.below hb (by simp)).below ((Below.refl w3.heap.size w3).alloc (Nat.le_refl _) (.cells (Mg.cells ⟨kind, epoch, seq, n, block, client, e, t0, t1, t2, t3, data, row⟩) 25)) (by have := hb.size; simp at this; omega)).cells
           simp only [Mg.cells] at z0 z1 z2 z3 z4 z5 z6 z7 z8 z9 z10 z11 z12
           clear hb))
      go_ret
      exact ⟨rfl, C3.out⟩

set_option maxRecDepth 100000 in
theorem lifted (os : Os) (started : os.Started) (H : Type) (enc : TypeId × Value → H) :
    ReturnsInHanded {} Try.checked os 4 .any (Rows.mailDecodesSpec.pre6 enc Try.prog Try.f4 Rows.mailDecodesRow.domain false) (Rows.mailDecodesSpec.post enc Try.prog Try.f4 false true false false) := by
  refine returnsInHanded_of_change (C := Try.checked) own started (by kernel_rfl) Try.func4
    (ChangeSpec.witness6 (enc := enc) (C := Try.checked) false ⟨#[], #[.string ⟨#[]⟩], []⟩ 8 (by kernel_rfl) (by kernel_rfl) (by kernel_rfl) (by kernel_rfl)) ?_
  intro W base args ds gs before hval0 hW hcnd _
  have hval : ∀ (j : Nat) t v, Try.f4.params[j]? = some t → args[j]? = some v → Value.okWide Try.prog W .any base t v := hval0
  have hW' := hW
  obtain ⟨p, q, hA0, hV, rfl, hfz, hnd⟩ := hW
  have hA : DataW.TrodAll enc Try.prog W 0 (fun _ => true) true Try.f4.params.toList args.toList ds p := hA0
  rw [Try.params4] at hA hval
  obtain ⟨v0, vs0, d0, ds0, p0, q0, hargs, rfl, rfl, h0, r0'⟩ := trodAll_cons hA
  obtain ⟨rfl, rfl, rfl⟩ := trodAll_nil r0'
  obtain rfl : args = #[v0] := by cases args; simp_all
  obtain ⟨rfl, rfl⟩ := trodVars_none hV
  obtain ⟨s0, rfl, rfl, rfl, w0⟩ := open_string Try.underlying9 (hval 0 9 v0 rfl rfl) h0
  clear hA0 hval0
  refine (walk s0 W w0).mono fun e W' ⟨he, bel⟩ => ?_
  subst he
  exact ⟨_, rfl, _, _, _, [], _, [], hW', trodAll_mk1 (shut_bool Try.underlying4 _), (trodAll_cons_mk (shut_string Try.underlying9 w0) trodAll_mk0), rfl, bel.frame _, fun h => by cases h⟩

theorem over : Rows.mailDecodesRow.holds Try.pinned (OpenSpec.ofChange Rows.mailDecodesSpec) :=
  OpenClaim.holds_of_wide 4 Try.f4 rfl rfl rfl rfl rfl rfl rfl ⟨rfl, rfl, rfl, rfl, rfl⟩ rfl rfl rfl rfl rfl (by kernel_rfl) Try.func4 (by kernel_rfl)
    (of_decide_eq_true (by kernel_rfl)) (by unfold Func.isWrapper; first | (rw [if_pos (by decide +kernel)]; kernel_rfl) | (rw [if_neg (by decide +kernel)]; exact ⟨rfl, rfl⟩))
    (fun os started H enc _ => lifted os started H enc)

/-- the statement -/
theorem proved : Rows.MailDecodesSaid := over
#print axioms proved
end Go.Proofs.Ytpggpgbkeafgnaa.mailDecodes
