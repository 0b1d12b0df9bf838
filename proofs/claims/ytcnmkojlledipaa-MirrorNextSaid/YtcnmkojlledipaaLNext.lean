/-
  PROVED: what is done with an item is as the document says. CONDITIONS: none (any version, any epoch, any number).
-/
import Derived.Test.YtcnmkojlledipaaMrRef
import Derived.BigQuiet
import Derived.Deep.RegionHeld3
namespace Go.Proofs.Ytcnmkojlledipaa.mirrorNext
open Go.ChangeShapes Go.WideShapes Go.ChangeAt Go.RowKit Go.Joins
open Go.ChangeMaps (open_string shut_string)
set_option linter.unusedVariables false
set_option linter.unusedSimpArgs false
set_option maxRecDepth 20000

open Mr

set_option maxHeartbeats 4000000 in
theorem walk (e0 s0 : Int) (x1 : Int) (x2 : Int) (w : World) (w0 : Mr.In64 e0 ∧ Mr.In64 s0) (w1 : (Lit.int .i64 x1).wf = true) (w2 : (Lit.int .i64 x2).wf = true) :
    Calls Try.prog 4 #[.agg #[.int .i64 e0, .int .i64 s0], .int .i64 x1, .int .i64 x2] w fun e w' => e = .returned (.bool true) ∧ Below w.heap.size w w' := by
  have HA := Lib.hid (fun w' => awake_any w')
  have hx1 := wf_i64 w1
  have hx2 := wf_i64 w2
  have HC1 : Hid (∀ w', Calls Try.prog 22 #[.agg #[.int .i64 e0, .int .i64 s0], .int .i64 x1, .int .i64 x2] w' fun e w'' => e = .returned (.int .i64 (next e0 s0 x1 x2)) ∧ Below w'.heap.size w' w'') := Lib.hid fun w' => next_any w' e0 s0 x1 x2 w0.2.1 hx2.2
  have HC2 : Hid (∀ w', Calls Try.prog 23 #[.agg #[.int .i64 e0, .int .i64 s0], .int .i64 x1, .int .i64 x2] w' fun e w'' => e = .returned (.int .i64 (next e0 s0 x1 x2)) ∧ Below w'.heap.size w' w'') := Lib.hid fun w' => rnext_any w' e0 s0 x1 x2 w0.2 hx2
  have HB0 := Lib.hid ((Below.refl w.heap.size w).alloc (Nat.le_refl _) (.cells #[.int .i64 e0, .int .i64 s0] 44))
  have HV0 := Lib.hid (heap_alloc_new w (.cells #[.int .i64 e0, .int .i64 s0] 44))
  clear w0 w1 w2 hx1 hx2
  go_enter Try.func4, Try.ntmps4
  go_wp2_with (go_at_call 9; with_reducible refine (HA.out _).mono ?_; rintro e wa ⟨rfl, hb⟩
               have HB := Lib.hid (HB0.out.trans (hb.mono HB0.out.size))
               have HV := Lib.hid ((hb.block _ (lt_of_heap HV0.out)).trans HV0.out)
               clear hb)
  have HQ : Hid (∀ w', Below wa.heap.size wa w' → w'.cell? ⟨w.heap.size, 0, none⟩ = some (.int .i64 e0) ∧ w'.cell? ⟨w.heap.size, 1, none⟩ = some (.int .i64 s0)) := Lib.hid fun w' hb => by
    have := (hb.block _ (lt_of_heap HV.out)).trans HV.out
    exact ⟨by simp [World.cell?, this], by simp [World.cell?, this]⟩
  have q0 := (HQ.out wa (Below.refl _ _)).1
  have q1 := (HQ.out wa (Below.refl _ _)).2
  go_region_held3 (fun w' => w'.cell? ⟨w.heap.size, 0, none⟩ = some (.int .i64 e0) ∧ w'.cell? ⟨w.heap.size, 1, none⟩ = some (.int .i64 s0))
    (first
      | exact HQ.out _ C2.out
      | exact HQ.out _ C1.out
      | exact HQ.out _ (Below.refl _ _).drew
      | (go_keep; done))
    (first
      | (go_at_call 22; with_reducible refine (HC1.out _).mono ?_; rintro e v1 ⟨rfl, hb⟩
         have C1 : Hid (Below wa.heap.size wa v1) := Lib.hid ((Below.refl _ _).drew.trans hb)
         clear hb)
      | (go_at_call 23; with_reducible refine (HC2.out _).mono ?_; rintro e v2 ⟨rfl, hb⟩
         have C2 : Hid (Below wa.heap.size wa v2) := Lib.hid (C1.out.trans (hb.mono C1.out.size))
         clear hb))
  all_goals
    go_wp2
    go_ret
    exact ⟨by simp, HB.out.trans (C2.out.mono HB.out.size)⟩

set_option maxRecDepth 100000 in
theorem lifted (os : Os) (started : os.Started) (H : Type) (enc : TypeId × Value → H) :
    ReturnsInHanded {} Try.checked os 4 .any (Rows.mirrorNextSpec.pre6 enc Try.prog Try.f4 Rows.mirrorNextRow.domain false) (Rows.mirrorNextSpec.post enc Try.prog Try.f4 false true false false) := by
  refine returnsInHanded_of_change (C := Try.checked) own started (by kernel_rfl) Try.func4
    (ChangeSpec.witness6 (enc := enc) (C := Try.checked) false ⟨#[], #[.agg #[.int .i64 0, .int .i64 0], .int .i64 0, .int .i64 0], []⟩ 8 (by kernel_rfl) (by kernel_rfl) (by kernel_rfl) (by kernel_rfl)) ?_
  intro W base args ds gs before hval0 hW hcnd _
  have hval : ∀ (j : Nat) t v, Try.f4.params[j]? = some t → args[j]? = some v → Value.okWide Try.prog W .any base t v := hval0
  have hW' := hW
  obtain ⟨p, q, hA0, hV, rfl, hfz, hnd⟩ := hW
  have hA : DataW.TrodAll enc Try.prog W 0 (fun _ => true) true Try.f4.params.toList args.toList ds p := hA0
  rw [Try.params4] at hA hval
  obtain ⟨v0, vs0, d0, ds0, p0, q0, hargs, rfl, rfl, h0, r0'⟩ := trodAll_cons hA
  obtain ⟨v1, vs1, d1, ds1, p1, q1, rfl, rfl, rfl, h1, r1'⟩ := trodAll_cons r0'
  obtain ⟨v2, vs2, d2, ds2, p2, q2, rfl, rfl, rfl, h2, r2'⟩ := trodAll_cons r1'
  obtain ⟨rfl, rfl, rfl⟩ := trodAll_nil r2'
  obtain rfl : args = #[v0, v1, v2] := by cases args; simp_all
  obtain ⟨rfl, rfl⟩ := trodVars_none hV
  have k0 := h0
  have lt0 : ∀ x ∈ p0, x.block < W.heap.size := by obtain ⟨m, hm⟩ := k0; exact DataW.trod_lt m _ _ _ hm
  obtain ⟨e0, s0, rfl, w0⟩ := Mr.open_ver (hval 0 44 v0 rfl rfl) h0
  obtain ⟨x1, rfl, rfl, rfl, w1⟩ := open_int Try.underlying2 (hval 1 2 v1 rfl rfl) h1
  obtain ⟨x2, rfl, rfl, rfl, w2⟩ := open_int Try.underlying2 (hval 2 2 v2 rfl rfl) h2
  clear hA0 hval0
  refine (walk e0 s0 x1 x2 W w0 w1 w2).mono fun e W' ⟨he, bel⟩ => ?_
  subst he
  exact ⟨_, rfl, _, _, _, [], _, [], hW', trodAll_mk1 (shut_bool Try.underlying4 _), (trodAll_cons_mk (Below.trod laidOut (by kernel_rfl) (of_decide_eq_true (by kernel_rfl)) k0 bel lt0) (trodAll_cons_mk (shut_int Try.underlying2 w1) (trodAll_cons_mk (shut_int Try.underlying2 w2) trodAll_mk0))), rfl, bel.frame _, fun h => by cases h⟩

theorem over : Rows.mirrorNextRow.holds Try.pinned (OpenSpec.ofChange Rows.mirrorNextSpec) :=
  OpenClaim.holds_of_wide 4 Try.f4 rfl rfl rfl rfl rfl rfl rfl ⟨rfl, rfl, rfl, rfl, rfl⟩ rfl rfl rfl rfl rfl (by kernel_rfl) Try.func4 (by kernel_rfl)
    (of_decide_eq_true (by kernel_rfl)) (by unfold Func.isWrapper; first | (rw [if_pos (by decide +kernel)]; kernel_rfl) | (rw [if_neg (by decide +kernel)]; exact ⟨rfl, rfl⟩))
    (fun os started H enc _ => lifted os started H enc)

/-- the statement -/
theorem proved : Rows.MirrorNextSaid := over
#print axioms proved
end Go.Proofs.Ytcnmkojlledipaa.mirrorNext
