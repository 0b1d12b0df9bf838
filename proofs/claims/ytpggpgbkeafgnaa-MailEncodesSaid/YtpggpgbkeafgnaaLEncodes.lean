/-
  PROVED: Which messages may be, and their bytes, are as the document says. CONDITIONS: none (any message).
-/
import Derived.Test.YtpggpgbkeafgnaaMlRefE
namespace Go.Proofs.Ytpggpgbkeafgnaa.mailEncodes
open Go.ChangeShapes Go.WideShapes Go.ChangeAt Go.RowKit Go.Joins
open Go.ChangeMaps (open_string shut_string)
set_option linter.unusedVariables false
set_option linter.unusedSimpArgs false
set_option maxRecDepth 20000

open Ml

set_option maxHeartbeats 4000000 in
theorem walk (y0 : Ml.Mg) (w : World)  :
    Calls Try.prog 3 #[Ml.msgV y0] w fun e w' => e = .returned (.bool true) ∧ Below w.heap.size w w' := by
  have HMB := Lib.hid (fun (w' : World) hb => one_box w y0 (w' := w') hb)
  have HEa := Lib.hid (fun w' => encode_any w' y0)
  have HEr := Lib.hid (fun w' => refencode_any w' y0)
  have HMy := Lib.hid (fun w' => may_any w' y0)
  have HMr := Lib.hid (fun w' => refmay_any w' y0)
  generalize encV y0 = sa at *
  generalize encE y0 = ee at *
  generalize may y0 = z at *
  obtain ⟨kind, epoch, seq, n, block, client, e, t0, t1, t2, t3, data, row⟩ := y0
  simp only [msgV, Mg.cells] at HEa HEr HMy HMr HMB ⊢
  have KS : Hid (∀ w', Below (w.alloc (.cells #[.int .i64 kind, .int .i64 epoch, .int .i64 seq, .int .i64 n, .int .i64 block, .int .i64 client, .int .i64 e, .int .i64 t0, .int .i64 t1, .int .i64 t2, .int .i64 t3, .string data, .string row] 25)).heap.size (w.alloc (.cells #[.int .i64 kind, .int .i64 epoch, .int .i64 seq, .int .i64 n, .int .i64 block, .int .i64 client, .int .i64 e, .int .i64 t0, .int .i64 t1, .int .i64 t2, .int .i64 t3, .string data, .string row] 25)) w' → w'.cell? ⟨w.heap.size, 0, none⟩ = some (.int .i64 kind) ∧ w'.cell? ⟨w.heap.size, 1, none⟩ = some (.int .i64 epoch) ∧ w'.cell? ⟨w.heap.size, 2, none⟩ = some (.int .i64 seq) ∧ w'.cell? ⟨w.heap.size, 3, none⟩ = some (.int .i64 n) ∧ w'.cell? ⟨w.heap.size, 4, none⟩ = some (.int .i64 block) ∧ w'.cell? ⟨w.heap.size, 5, none⟩ = some (.int .i64 client) ∧ w'.cell? ⟨w.heap.size, 6, none⟩ = some (.int .i64 e) ∧ w'.cell? ⟨w.heap.size, 7, none⟩ = some (.int .i64 t0) ∧ w'.cell? ⟨w.heap.size, 8, none⟩ = some (.int .i64 t1) ∧ w'.cell? ⟨w.heap.size, 9, none⟩ = some (.int .i64 t2) ∧ w'.cell? ⟨w.heap.size, 10, none⟩ = some (.int .i64 t3) ∧ w'.cell? ⟨w.heap.size, 11, none⟩ = some (.string data) ∧ w'.cell? ⟨w.heap.size, 12, none⟩ = some (.string row)) := Lib.hid fun w' hb => (HMB.out w' hb).1.cells
  go_enter Try.func3, Try.ntmps3
  go_wp2_with (first
    | (go_at_call 8; with_reducible refine (awake_any _).mono ?_; rintro e1 w1 ⟨rfl, hb⟩
       have C1 := Lib.hid hb
       obtain ⟨z0, z1, z2, z3, z4, z5, z6, z7, z8, z9, z10, z11, z12⟩ := KS.out _ hb
       clear hb)
    | (go_at_call 9; with_reducible refine (HEa.out _).mono ?_; rintro e2 w2 ⟨rfl, hb⟩
       have C2 := Lib.hid (C1.out.trans (Below.mono hb C1.out.size))
       clear z0 z1 z2 z3 z4 z5 z6 z7 z8 z9 z10 z11 z12
       obtain ⟨z0, z1, z2, z3, z4, z5, z6, z7, z8, z9, z10, z11, z12⟩ := KS.out _ C2.out
       clear hb)
    | (go_at_call 10; with_reducible refine (HEr.out _).mono ?_; rintro e3 w3 ⟨rfl, hb⟩
       have C3 := Lib.hid (C2.out.trans (Below.mono hb C2.out.size))
       clear z0 z1 z2 z3 z4 z5 z6 z7 z8 z9 z10 z11 z12
       obtain ⟨z0, z1, z2, z3, z4, z5, z6, z7, z8, z9, z10, z11, z12⟩ := KS.out _ C3.out
       clear hb))
  have K3 := Lib.hid (KS.out _ C3.out.drew)
  go_region_held3 (fun w' => w'.cell? ⟨w.heap.size, 0, none⟩ = some (.int .i64 kind) ∧ w'.cell? ⟨w.heap.size, 1, none⟩ = some (.int .i64 epoch) ∧ w'.cell? ⟨w.heap.size, 2, none⟩ = some (.int .i64 seq) ∧ w'.cell? ⟨w.heap.size, 3, none⟩ = some (.int .i64 n) ∧ w'.cell? ⟨w.heap.size, 4, none⟩ = some (.int .i64 block) ∧ w'.cell? ⟨w.heap.size, 5, none⟩ = some (.int .i64 client) ∧ w'.cell? ⟨w.heap.size, 6, none⟩ = some (.int .i64 e) ∧ w'.cell? ⟨w.heap.size, 7, none⟩ = some (.int .i64 t0) ∧ w'.cell? ⟨w.heap.size, 8, none⟩ = some (.int .i64 t1) ∧ w'.cell? ⟨w.heap.size, 9, none⟩ = some (.int .i64 t2) ∧ w'.cell? ⟨w.heap.size, 10, none⟩ = some (.int .i64 t3) ∧ w'.cell? ⟨w.heap.size, 11, none⟩ = some (.string data) ∧ w'.cell? ⟨w.heap.size, 12, none⟩ = some (.string row))
    (first
      | with_reducible exact K5.out
      | with_reducible exact K4.out
      | with_reducible exact K3.out)
    (first
      | (go_at_call 11; with_reducible refine (HMy.out _).mono ?_; rintro e4 w4 ⟨rfl, hb⟩
         have C4 := Lib.hid (C3.out.drew.trans (Below.mono hb C3.out.drew.size))
         have K4 := Lib.hid (KS.out _ C4.out)
         clear hb)
      | (go_at_call 12; with_reducible refine (HMr.out _).mono ?_; rintro e5 w5 ⟨rfl, hb⟩
         have C5 := Lib.hid (C4.out.trans (Below.mono hb C4.out.size))
         have K5 := Lib.hid (KS.out _ C5.out)
         clear hb))
  all_goals
    go_wp2
    go_ret
    exact ⟨rfl, (HMB.out _ C5.out).2⟩

set_option maxRecDepth 100000 in
theorem lifted (os : Os) (started : os.Started) (H : Type) (enc : TypeId × Value → H) :
    ReturnsInHanded {} Try.checked os 3 .any (Rows.mailEncodesSpec.pre6 enc Try.prog Try.f3 Rows.mailEncodesRow.domain false) (Rows.mailEncodesSpec.post enc Try.prog Try.f3 false true false false) := by
  refine returnsInHanded_of_change (C := Try.checked) own started (by kernel_rfl) Try.func3
    (ChangeSpec.witness6 (enc := enc) (C := Try.checked) false ⟨#[], #[Ml.msgV Ml.nil], []⟩ 8 (by kernel_rfl) (by kernel_rfl) (by kernel_rfl) (by kernel_rfl)) ?_
  intro W base args ds gs before hval0 hW hcnd _
  have hval : ∀ (j : Nat) t v, Try.f3.params[j]? = some t → args[j]? = some v → Value.okWide Try.prog W .any base t v := hval0
  have hW' := hW
  obtain ⟨p, q, hA0, hV, rfl, hfz, hnd⟩ := hW
  have hA : DataW.TrodAll enc Try.prog W 0 (fun _ => true) true Try.f3.params.toList args.toList ds p := hA0
  rw [Try.params3] at hA hval
  obtain ⟨v0, vs0, d0, ds0, p0, q0, hargs, rfl, rfl, h0, r0'⟩ := trodAll_cons hA
  obtain ⟨rfl, rfl, rfl⟩ := trodAll_nil r0'
  obtain rfl : args = #[v0] := by cases args; simp_all
  obtain ⟨rfl, rfl⟩ := trodVars_none hV
  have k0 := h0
  have lt0 : ∀ x ∈ p0, x.block < W.heap.size := by obtain ⟨m, hm⟩ := k0; exact DataW.trod_lt m _ _ _ hm
  obtain ⟨y0, rfl⟩ := Ml.open_msg (hval 0 25 v0 rfl rfl) h0
  clear hA0 hval0
  refine (walk y0 W ).mono fun e W' ⟨he, bel⟩ => ?_
  subst he
  exact ⟨_, rfl, _, _, _, [], _, [], hW', trodAll_mk1 (shut_bool Try.underlying4 _), (trodAll_cons_mk (Below.trod laidOut (by kernel_rfl) (of_decide_eq_true (by kernel_rfl)) k0 bel lt0) trodAll_mk0), rfl, bel.frame _, fun h => by cases h⟩

theorem over : Rows.mailEncodesRow.holds Try.pinned (OpenSpec.ofChange Rows.mailEncodesSpec) :=
  OpenClaim.holds_of_wide 3 Try.f3 rfl rfl rfl rfl rfl rfl rfl ⟨rfl, rfl, rfl, rfl, rfl⟩ rfl rfl rfl rfl rfl (by kernel_rfl) Try.func3 (by kernel_rfl)
    (of_decide_eq_true (by kernel_rfl)) (by unfold Func.isWrapper; first | (rw [if_pos (by decide +kernel)]; kernel_rfl) | (rw [if_neg (by decide +kernel)]; exact ⟨rfl, rfl⟩))
    (fun os started H enc _ => lifted os started H enc)

/-- the statement -/
theorem proved : Rows.MailEncodesSaid := over
#print axioms proved
end Go.Proofs.Ytpggpgbkeafgnaa.mailEncodes
