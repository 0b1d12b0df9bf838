/-
  PROVED: Unlike messages have unlike bytes, like ones like bytes. CONDITIONS: none (any two messages).
-/
import Derived.Test.YtpggpgbkeafgnaaMlKit
namespace Go.Proofs.Ytpggpgbkeafgnaa.mailApart
open Go.ChangeShapes Go.WideShapes Go.ChangeAt Go.RowKit Go.Joins
open Go.ChangeMaps (open_string shut_string)
set_option linter.unusedVariables false
set_option linter.unusedSimpArgs false
set_option maxRecDepth 20000

open Ml

set_option maxHeartbeats 4000000 in
theorem walk (y0 : Ml.Mg) (y1 : Ml.Mg) (w : World)  :
    Calls Try.prog 6 #[Ml.msgV y0, Ml.msgV y1] w fun e w' => e = .returned (.bool true) ∧ Below w.heap.size w w' := by
  have hg := mg_guard
  have HEa := Lib.hid (fun w' => encode_any w' y0)
  have HEb := Lib.hid (fun w' => encode_any w' y1)
  have hq := fun w' => msg_equal y0 y1 w'
  have HMB := Lib.hid (fun (w' : World) hb => two_boxes w y0 y1 (w' := w') hb)
  have HBE := Lib.hid (fun (w' : World) hb => two_below w y0 y1 (w' := w') hb)
  have hc : encE y0 = 4 ∨ (encE y0 = 0 ∧ encE y1 = 4) ∨ (encE y0 = 0 ∧ encE y1 = 0 ∧ decide (y0 = y1) = true ∧ (encV y0).toList = (encV y1).toList) ∨ (encE y0 = 0 ∧ encE y1 = 0 ∧ decide (y0 = y1) = false ∧ ((encV y0).toList == (encV y1).toList) = false) := by
    by_cases ha : may y0 = true
    · by_cases hb : may y1 = true
      · by_cases hab : y0 = y1
        · exact .inr (.inr (.inl ⟨(enc_yes ha).2, (enc_yes hb).2, by simp [hab], by rw [hab]⟩))
        · exact .inr (.inr (.inr ⟨(enc_yes ha).2, (enc_yes hb).2, by simp [hab], beq_false_of_ne fun h => hab (bytes_inj ha hb (by rw [(enc_yes ha).1, (enc_yes hb).1, str_toList, str_toList] at h; exact h))⟩))
      · exact .inr (.inl ⟨(enc_yes ha).2, (enc_no hb).2⟩)
    · exact .inl (enc_no ha).2
  rcases hc with h1 | ⟨h1, h2⟩ | ⟨h1, h2, hd, hs⟩ | ⟨h1, h2, hd, hs⟩
  all_goals
    rw [h1] at HEa
    try rw [h2] at HEb
    try rw [hd] at hq
    try clear hd
    try clear h2
    clear h1
    generalize encV y0 = sa at *
    generalize encV y1 = sb at *
    generalize encE y1 = ee at *
    obtain ⟨kind, epoch, seq, n, block, client, e, t0, t1, t2, t3, data, row⟩ := y0
    obtain ⟨kind', epoch', seq', n', block', client', e', t0', t1', t2', t3', data', row'⟩ := y1
    simp only [msgV, Mg.cells] at HEa HEb hq HMB HBE ⊢
    go_enter Try.func6, Try.ntmps6
    go_wp2_with (first
      | (go_at_call 8; with_reducible refine (awake_any _).mono ?_; rintro e1 w1 ⟨rfl, hb⟩
         have C1 := Lib.hid hb
         obtain ⟨z0, z1, z2, z3, z4, z5, z6, z7, z8, z9, z10, z11, z12⟩ := (HMB.out _ hb).1.cells
         obtain ⟨k0, k1, k2, k3, k4, k5, k6, k7, k8, k9, k10, k11, k12⟩ := (HMB.out _ hb).2.cells
         clear hb)
      | (go_at_call 9; with_reducible refine (HEa.out _).mono ?_; rintro e2 w2 ⟨rfl, hb⟩
         have C2 := Lib.hid (C1.out.trans (Below.mono hb C1.out.size))
         clear z0 z1 z2 z3 z4 z5 z6 z7 z8 z9 z10 z11 z12 k0 k1 k2 k3 k4 k5 k6 k7 k8 k9 k10 k11 k12
         obtain ⟨k0, k1, k2, k3, k4, k5, k6, k7, k8, k9, k10, k11, k12⟩ := (HMB.out _ C2.out).2.cells
         clear hb)
      | (go_at_call 9; with_reducible refine (HEb.out _).mono ?_; rintro e3 w3 ⟨rfl, hb⟩
         have C3 := Lib.hid (C2.out.trans (Below.mono hb C2.out.size))
         clear k0 k1 k2 k3 k4 k5 k6 k7 k8 k9 k10 k11 k12
         obtain ⟨z0, z1, z2, z3, z4, z5, z6, z7, z8, z9, z10, z11, z12⟩ := (HMB.out _ C3.out).1.cells
         obtain ⟨k0, k1, k2, k3, k4, k5, k6, k7, k8, k9, k10, k11, k12⟩ := (HMB.out _ C3.out).2.cells
         clear hb))
    go_ret
    exact ⟨rfl, HBE.out _ C3.out⟩

set_option maxRecDepth 100000 in
theorem lifted (os : Os) (started : os.Started) (H : Type) (enc : TypeId × Value → H) :
    ReturnsInHanded {} Try.checked os 6 .any (Rows.mailApartSpec.pre6 enc Try.prog Try.f6 Rows.mailApartRow.domain false) (Rows.mailApartSpec.post enc Try.prog Try.f6 false true false false) := by
  refine returnsInHanded_of_change (C := Try.checked) own started (by kernel_rfl) Try.func6
    (ChangeSpec.witness6 (enc := enc) (C := Try.checked) false ⟨#[], #[Ml.msgV Ml.nil, Ml.msgV Ml.nil], []⟩ 8 (by kernel_rfl) (by kernel_rfl) (by kernel_rfl) (by kernel_rfl)) ?_
  intro W base args ds gs before hval0 hW hcnd _
  have hval : ∀ (j : Nat) t v, Try.f6.params[j]? = some t → args[j]? = some v → Value.okWide Try.prog W .any base t v := hval0
  have hW' := hW
  obtain ⟨p, q, hA0, hV, rfl, hfz, hnd⟩ := hW
  have hA : DataW.TrodAll enc Try.prog W 0 (fun _ => true) true Try.f6.params.toList args.toList ds p := hA0
  rw [Try.params6] at hA hval
  obtain ⟨v0, vs0, d0, ds0, p0, q0, hargs, rfl, rfl, h0, r0'⟩ := trodAll_cons hA
  obtain ⟨v1, vs1, d1, ds1, p1, q1, rfl, rfl, rfl, h1, r1'⟩ := trodAll_cons r0'
  obtain ⟨rfl, rfl, rfl⟩ := trodAll_nil r1'
  obtain rfl : args = #[v0, v1] := by cases args; simp_all
  obtain ⟨rfl, rfl⟩ := trodVars_none hV
  have k0 := h0
  have lt0 : ∀ x ∈ p0, x.block < W.heap.size := by obtain ⟨m, hm⟩ := k0; exact DataW.trod_lt m _ _ _ hm
  obtain ⟨y0, rfl⟩ := Ml.open_msg (hval 0 25 v0 rfl rfl) h0
  have k1 := h1
  have lt1 : ∀ x ∈ p1, x.block < W.heap.size := by obtain ⟨m, hm⟩ := k1; exact DataW.trod_lt m _ _ _ hm
  obtain ⟨y1, rfl⟩ := Ml.open_msg (hval 1 25 v1 rfl rfl) h1
  clear hA0 hval0
  refine (walk y0 y1 W ).mono fun e W' ⟨he, bel⟩ => ?_
  subst he
  exact ⟨_, rfl, _, _, _, [], _, [], hW', trodAll_mk1 (shut_bool Try.underlying4 _), (trodAll_cons_mk (Below.trod laidOut (by kernel_rfl) (of_decide_eq_true (by kernel_rfl)) k0 bel lt0) (trodAll_cons_mk (Below.trod laidOut (by kernel_rfl) (of_decide_eq_true (by kernel_rfl)) k1 bel lt1) trodAll_mk0)), rfl, bel.frame _, fun h => by cases h⟩

theorem over : Rows.mailApartRow.holds Try.pinned (OpenSpec.ofChange Rows.mailApartSpec) :=
  OpenClaim.holds_of_wide 6 Try.f6 rfl rfl rfl rfl rfl rfl rfl ⟨rfl, rfl, rfl, rfl, rfl⟩ rfl rfl rfl rfl rfl (by kernel_rfl) Try.func6 (by kernel_rfl)
    (of_decide_eq_true (by kernel_rfl)) (by unfold Func.isWrapper; first | (rw [if_pos (by decide +kernel)]; kernel_rfl) | (rw [if_neg (by decide +kernel)]; exact ⟨rfl, rfl⟩))
    (fun os started H enc _ => lifted os started H enc)

/-- the statement -/
theorem proved : Rows.MailApartSaid := over
#print axioms proved
end Go.Proofs.Ytpggpgbkeafgnaa.mailApart
