/-
  PROVED: What is encoded is decoded to the same, and fits a letter; what is decoded has just these bytes. CONDITIONS: none (any message; any bytes, of which up to 2^14 are decoded).
-/
import Derived.Test.YtpggpgbkeafgnaaMlKit
namespace Go.Proofs.Ytpggpgbkeafgnaa.mailBack
open Go.ChangeShapes Go.WideShapes Go.ChangeAt Go.RowKit Go.Joins
open Go.ChangeMaps (open_string shut_string)
set_option linter.unusedVariables false
set_option linter.unusedSimpArgs false
set_option maxRecDepth 20000

open Ml

set_option maxHeartbeats 4000000 in
theorem walk (y0 : Ml.Mg) (s1 : ByteArray) (w : World) (w1 : s1.size ≤ maxLen) :
    Calls Try.prog 5 #[Ml.msgV y0, .string s1] w fun e w' => e = .returned (.bool true) ∧ Below w.heap.size w w' := by
  have hg := mg_guard
  have HMB := Lib.hid (fun (w' : World) hb => one_box w y0 (w' := w') hb)
  have HEa := Lib.hid (fun w' => encode_any w' y0)
  have HMy := Lib.hid (fun w' => may_any w' y0)
  have hq := fun w' => msg_equal y0 y0 w'
  rw [show decide (y0 = y0) = true by simp] at hq
  by_cases hbig : 16384 < s1.size
  · have hd : decide ((16384 : Int) < (s1.size : Int)) = true := by rw [decide_eq_true_eq]; omega
    clear hbig hq
    obtain ⟨kind, epoch, seq, n, block, client, e, t0, t1, t2, t3, data, row⟩ := y0
    simp only [msgV, Mg.cells] at HMB ⊢
    go_enter Try.func5, Try.ntmps5
    go_wp2_with (first
      | (go_at_call 8; with_reducible refine (awake_any _).mono ?_; rintro e1 w1 ⟨rfl, hb⟩
         have C1 := Lib.hid hb
         clear hb))
    go_ret
    exact ⟨rfl, (HMB.out _ C1.out).2⟩
  · have hd : decide ((16384 : Int) < (s1.size : Int)) = false := by rw [decide_eq_false_iff_not]; omega
    have hS : (∀ w', Calls Try.prog 13 #[.string s1] w' fun e w'' => e = .returned (.tuple #[msgV nil, .int .i64 4]) ∧ Below w'.heap.size w' w'') ∨ ∃ m : Mg, (∀ w', Calls Try.prog 13 #[.string s1] w' fun e w'' => e = .returned (.tuple #[msgV m, .int .i64 0]) ∧ Below w'.heap.size w' w'') ∧ ∀ w', Calls Try.prog 9 #[msgV m] w' fun e w'' => e = .returned (.tuple #[.string s1, .int .i64 0]) ∧ Below w'.heap.size w' w'' := by
      cases hr : Ml.read s1.data.toList with
      | none => exact .inl fun w' => decode_no w' s1 (by omega) hr
      | some m =>
        obtain ⟨h1, h2⟩ := bytes_read hr
        refine .inr ⟨m, fun w' => decode_yes w' s1 (by omega) m hr, fun w' => ?_⟩
        have := encode_yes w' m h1
        rw [← h2, str_of] at this
        exact this
    have hz := fun w' => msg_equal nil nil w'
    rw [show decide (nil = nil) = true by simp] at hz
    clear hbig
    by_cases ha : may y0 = true
    · obtain ⟨hlo, hhi⟩ := bytes_len ha
      rw [(enc_yes ha).1, (enc_yes ha).2] at HEa
      have HD := Lib.hid (fun w' => decode_yes w' (C.str (Ml.bytes y0)) (by rw [str_size]; omega) y0 (by rw [str_list]; exact read_bytes ha))
      have hsz : decide ((200 : Int) < ((C.str (Ml.bytes y0)).size : Int)) = false := by rw [decide_eq_false_iff_not, str_size]; omega
      rw [ha] at HMy
      generalize C.str (Ml.bytes y0) = sa at *
      clear ha hlo hhi
      obtain ⟨kind, epoch, seq, n, block, client, e, t0, t1, t2, t3, data, row⟩ := y0
      rcases hS with hS | ⟨m, hS, hSE⟩
      · simp only [msgV, nil, Mg.cells] at HEa HMB HMy hz hS ⊢
        simp only [msgV, Mg.cells] at HD hq
        have HS := Lib.hid hS
        clear hS
        go_enter Try.func5, Try.ntmps5
        go_wp2_with (first
          | (go_at_call 8; with_reducible refine (awake_any _).mono ?_; rintro e1 w1 ⟨rfl, hb⟩
             have C1 := Lib.hid hb
             obtain ⟨z0, z1, z2, z3, z4, z5, z6, z7, z8, z9, z10, z11, z12⟩ := (HMB.out _ hb).1.cells
             clear hb)
          | (go_at_call 9; with_reducible refine (HEa.out _).mono ?_; rintro e2 w2 ⟨rfl, hb⟩
             have C2 := Lib.hid (C1.out.trans (Below.mono hb C1.out.size))
             clear hb
             clear z0 z1 z2 z3 z4 z5 z6 z7 z8 z9 z10 z11 z12)
          | (go_at_call 13; with_reducible refine (HD.out _).mono ?_; rintro e3 w3 ⟨rfl, hb⟩
             have C3 := Lib.hid ((C2.out.trans (Below.mono hb C2.out.size)).alloc (C2.out.trans (Below.mono hb C2.out.size)).size (.cells #[.int .i64 kind, .int .i64 epoch, .int .i64 seq, .int .i64 n, .int .i64 block, .int .i64 client, .int .i64 e, .int .i64 t0, .int .i64 t1, .int .i64 t2, .int .i64 t3, .string data, .string row] 25))
             obtain ⟨z0, z1, z2, z3, z4, z5, z6, z7, z8, z9, z10, z11, z12⟩ := (HMB.out _ C3.out).1.cells
             clear hb)
          | (go_at_call 11; with_reducible refine (HMy.out _).mono ?_; rintro e4 w4 ⟨rfl, hb⟩
             have C4 := Lib.hid (C3.out.trans (Below.mono hb C3.out.size))
             clear hb
             clear z0 z1 z2 z3 z4 z5 z6 z7 z8 z9 z10 z11 z12)
          | (go_at_call 13; with_reducible refine (HS.out _).mono ?_; rintro e5 w5 ⟨rfl, hb⟩
             have C5 := Lib.hid ((C4.out.trans (Below.mono hb C4.out.size)).alloc (C4.out.trans (Below.mono hb C4.out.size)).size (.cells nil.cells 25))
             clear hb))
        go_ret
        exact ⟨rfl, (HMB.out _ C5.out).2⟩
      · obtain ⟨kind', epoch', seq', n', block', client', e', t0', t1', t2', t3', data', row'⟩ := m
        simp only [msgV, nil, Mg.cells] at HEa HMB HMy hz hS hSE ⊢
        simp only [msgV, Mg.cells] at HD hq
        have HS := Lib.hid hS
        have HSE := Lib.hid hSE
        clear hS hSE
        go_enter Try.func5, Try.ntmps5
        go_wp2_with (first
          | (go_at_call 8; with_reducible refine (awake_any _).mono ?_; rintro e1 w1 ⟨rfl, hb⟩
             have C1 := Lib.hid hb
             obtain ⟨z0, z1, z2, z3, z4, z5, z6, z7, z8, z9, z10, z11, z12⟩ := (HMB.out _ hb).1.cells
             clear hb)
          | (go_at_call 9; with_reducible refine (HEa.out _).mono ?_; rintro e2 w2 ⟨rfl, hb⟩
             have C2 := Lib.hid (C1.out.trans (Below.mono hb C1.out.size))
             clear hb
             clear z0 z1 z2 z3 z4 z5 z6 z7 z8 z9 z10 z11 z12)
          | (go_at_call 13; with_reducible refine (HD.out _).mono ?_; rintro e3 w3 ⟨rfl, hb⟩
             have C3 := Lib.hid ((C2.out.trans (Below.mono hb C2.out.size)).alloc (C2.out.trans (Below.mono hb C2.out.size)).size (.cells #[.int .i64 kind, .int .i64 epoch, .int .i64 seq, .int .i64 n, .int .i64 block, .int .i64 client, .int .i64 e, .int .i64 t0, .int .i64 t1, .int .i64 t2, .int .i64 t3, .string data, .string row] 25))
             obtain ⟨z0, z1, z2, z3, z4, z5, z6, z7, z8, z9, z10, z11, z12⟩ := (HMB.out _ C3.out).1.cells
             clear hb)
          | (go_at_call 11; with_reducible refine (HMy.out _).mono ?_; rintro e4 w4 ⟨rfl, hb⟩
             have C4 := Lib.hid (C3.out.trans (Below.mono hb C3.out.size))
             clear hb
             clear z0 z1 z2 z3 z4 z5 z6 z7 z8 z9 z10 z11 z12)
          | (go_at_call 13; with_reducible refine (HS.out _).mono ?_; rintro e5 w5 ⟨rfl, hb⟩
             have C5 := Lib.hid ((C4.out.trans (Below.mono hb C4.out.size)).alloc (C4.out.trans (Below.mono hb C4.out.size)).size (.cells #[.int .i64 kind', .int .i64 epoch', .int .i64 seq', .int .i64 n', .int .i64 block', .int .i64 client', .int .i64 e', .int .i64 t0', .int .i64 t1', .int .i64 t2', .int .i64 t3', .string data', .string row'] 25))
             clear hb)
          | (go_at_call 9; with_reducible refine (HSE.out _).mono ?_; rintro e6 w6 ⟨rfl, hb⟩
             have C6 := Lib.hid (C5.out.trans (Below.mono hb C5.out.size))
             clear hb))
        go_ret
        exact ⟨rfl, (HMB.out _ C6.out).2⟩
    · rw [(enc_no ha).1, (enc_no ha).2] at HEa
      rw [show may y0 = false by simpa using ha] at HMy
      clear ha hq
      obtain ⟨kind, epoch, seq, n, block, client, e, t0, t1, t2, t3, data, row⟩ := y0
      rcases hS with hS | ⟨m, hS, hSE⟩
      · simp only [msgV, nil, Mg.cells] at HEa HMB HMy hz hS ⊢
        have HS := Lib.hid hS
        clear hS
        go_enter Try.func5, Try.ntmps5
        go_wp2_with (first
          | (go_at_call 8; with_reducible refine (awake_any _).mono ?_; rintro e1 w1 ⟨rfl, hb⟩
             have C1 := Lib.hid hb
             obtain ⟨z0, z1, z2, z3, z4, z5, z6, z7, z8, z9, z10, z11, z12⟩ := (HMB.out _ hb).1.cells
             clear hb)
          | (go_at_call 9; with_reducible refine (HEa.out _).mono ?_; rintro e2 w2 ⟨rfl, hb⟩
             have C2 := Lib.hid (C1.out.trans (Below.mono hb C1.out.size))
             clear hb
             clear z0 z1 z2 z3 z4 z5 z6 z7 z8 z9 z10 z11 z12
             obtain ⟨z0, z1, z2, z3, z4, z5, z6, z7, z8, z9, z10, z11, z12⟩ := (HMB.out _ C2.out).1.cells)
          | (go_at_call 11; with_reducible refine (HMy.out _).mono ?_; rintro e4 w4 ⟨rfl, hb⟩
             have C4 := Lib.hid (C2.out.trans (Below.mono hb C2.out.size))
             clear hb
             clear z0 z1 z2 z3 z4 z5 z6 z7 z8 z9 z10 z11 z12)
          | (go_at_call 13; with_reducible refine (HS.out _).mono ?_; rintro e5 w5 ⟨rfl, hb⟩
             have C5 := Lib.hid ((C4.out.trans (Below.mono hb C4.out.size)).alloc (C4.out.trans (Below.mono hb C4.out.size)).size (.cells nil.cells 25))
             clear hb))
        go_ret
        exact ⟨rfl, (HMB.out _ C5.out).2⟩
      · obtain ⟨kind', epoch', seq', n', block', client', e', t0', t1', t2', t3', data', row'⟩ := m
        simp only [msgV, nil, Mg.cells] at HEa HMB HMy hz hS hSE ⊢
        have HS := Lib.hid hS
        have HSE := Lib.hid hSE
        clear hS hSE
        go_enter Try.func5, Try.ntmps5
        go_wp2_with (first
          | (go_at_call 8; with_reducible refine (awake_any _).mono ?_; rintro e1 w1 ⟨rfl, hb⟩
             have C1 := Lib.hid hb
             obtain ⟨z0, z1, z2, z3, z4, z5, z6, z7, z8, z9, z10, z11, z12⟩ := (HMB.out _ hb).1.cells
             clear hb)
          | (go_at_call 9; with_reducible refine (HEa.out _).mono ?_; rintro e2 w2 ⟨rfl, hb⟩
             have C2 := Lib.hid (C1.out.trans (Below.mono hb C1.out.size))
             clear hb
             clear z0 z1 z2 z3 z4 z5 z6 z7 z8 z9 z10 z11 z12
             obtain ⟨z0, z1, z2, z3, z4, z5, z6, z7, z8, z9, z10, z11, z12⟩ := (HMB.out _ C2.out).1.cells)
          | (go_at_call 11; with_reducible refine (HMy.out _).mono ?_; rintro e4 w4 ⟨rfl, hb⟩
             have C4 := Lib.hid (C2.out.trans (Below.mono hb C2.out.size))
             clear hb
             clear z0 z1 z2 z3 z4 z5 z6 z7 z8 z9 z10 z11 z12)
          | (go_at_call 13; with_reducible refine (HS.out _).mono ?_; rintro e5 w5 ⟨rfl, hb⟩
             have C5 := Lib.hid ((C4.out.trans (Below.mono hb C4.out.size)).alloc (C4.out.trans (Below.mono hb C4.out.size)).size (.cells #[.int .i64 kind', .int .i64 epoch', .int .i64 seq', .int .i64 n', .int .i64 block', .int .i64 client', .int .i64 e', .int .i64 t0', .int .i64 t1', .int .i64 t2', .int .i64 t3', .string data', .string row'] 25))
             clear hb)
          | (go_at_call 9; with_reducible refine (HSE.out _).mono ?_; rintro e6 w6 ⟨rfl, hb⟩
             have C6 := Lib.hid (C5.out.trans (Below.mono hb C5.out.size))
             clear hb))
        go_ret
        exact ⟨rfl, (HMB.out _ C6.out).2⟩

set_option maxRecDepth 100000 in
theorem lifted (os : Os) (started : os.Started) (H : Type) (enc : TypeId × Value → H) :
    ReturnsInHanded {} Try.checked os 5 .any (Rows.mailBackSpec.pre6 enc Try.prog Try.f5 Rows.mailBackRow.domain false) (Rows.mailBackSpec.post enc Try.prog Try.f5 false true false false) := by
  refine returnsInHanded_of_change (C := Try.checked) own started (by kernel_rfl) Try.func5
    (ChangeSpec.witness6 (enc := enc) (C := Try.checked) false ⟨#[], #[Ml.msgV Ml.nil, .string ⟨#[]⟩], []⟩ 8 (by kernel_rfl) (by kernel_rfl) (by kernel_rfl) (by kernel_rfl)) ?_
  intro W base args ds gs before hval0 hW hcnd _
  have hval : ∀ (j : Nat) t v, Try.f5.params[j]? = some t → args[j]? = some v → Value.okWide Try.prog W .any base t v := hval0
  have hW' := hW
  obtain ⟨p, q, hA0, hV, rfl, hfz, hnd⟩ := hW
  have hA : DataW.TrodAll enc Try.prog W 0 (fun _ => true) true Try.f5.params.toList args.toList ds p := hA0
  rw [Try.params5] at hA hval
  obtain ⟨v0, vs0, d0, ds0, p0, q0, hargs, rfl, rfl, h0, r0'⟩ := trodAll_cons hA
  obtain ⟨v1, vs1, d1, ds1, p1, q1, rfl, rfl, rfl, h1, r1'⟩ := trodAll_cons r0'
  obtain ⟨rfl, rfl, rfl⟩ := trodAll_nil r1'
  obtain rfl : args = #[v0, v1] := by cases args; simp_all
  obtain ⟨rfl, rfl⟩ := trodVars_none hV
  have k0 := h0
  have lt0 : ∀ x ∈ p0, x.block < W.heap.size := by obtain ⟨m, hm⟩ := k0; exact DataW.trod_lt m _ _ _ hm
  obtain ⟨y0, rfl⟩ := Ml.open_msg (hval 0 25 v0 rfl rfl) h0
  obtain ⟨s1, rfl, rfl, rfl, w1⟩ := open_string Try.underlying9 (hval 1 9 v1 rfl rfl) h1
  clear hA0 hval0
  refine (walk y0 s1 W w1).mono fun e W' ⟨he, bel⟩ => ?_
  subst he
  exact ⟨_, rfl, _, _, _, [], _, [], hW', trodAll_mk1 (shut_bool Try.underlying4 _), (trodAll_cons_mk (Below.trod laidOut (by kernel_rfl) (of_decide_eq_true (by kernel_rfl)) k0 bel lt0) (trodAll_cons_mk (shut_string Try.underlying9 w1) trodAll_mk0)), rfl, bel.frame _, fun h => by cases h⟩

theorem over : Rows.mailBackRow.holds Try.pinned (OpenSpec.ofChange Rows.mailBackSpec) :=
  OpenClaim.holds_of_wide 5 Try.f5 rfl rfl rfl rfl rfl rfl rfl ⟨rfl, rfl, rfl, rfl, rfl⟩ rfl rfl rfl rfl rfl (by kernel_rfl) Try.func5 (by kernel_rfl)
    (of_decide_eq_true (by kernel_rfl)) (by unfold Func.isWrapper; first | (rw [if_pos (by decide +kernel)]; kernel_rfl) | (rw [if_neg (by decide +kernel)]; exact ⟨rfl, rfl⟩))
    (fun os started H enc _ => lifted os started H enc)

/-- the statement -/
theorem proved : Rows.MailBackSaid := over
#print axioms proved
end Go.Proofs.Ytpggpgbkeafgnaa.mailBack
