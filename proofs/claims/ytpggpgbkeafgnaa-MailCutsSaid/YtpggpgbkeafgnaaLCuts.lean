/-
  PROVED: A message that is cut short, or has more behind, is none. CONDITIONS: none (any message, any place of the cut, any bytes behind, of which up to 2^12 are put there).
-/
import Derived.Test.YtpggpgbkeafgnaaMlKit
namespace Go.Proofs.Ytpggpgbkeafgnaa.mailCuts
open Go.ChangeShapes Go.WideShapes Go.ChangeAt Go.RowKit Go.Joins
open Go.ChangeMaps (open_string shut_string)
set_option linter.unusedVariables false
set_option linter.unusedSimpArgs false
set_option maxRecDepth 20000

open Ml

set_option maxHeartbeats 4000000 in
theorem walk (y0 : Ml.Mg) (x1 : Int) (s2 : ByteArray) (w : World) (w1 : (Lit.int .u8 x1).wf = true) (w2 : s2.size ≤ maxLen) :
    Calls Try.prog 7 #[Ml.msgV y0, .int .u8 x1, .string s2] w fun e w' => e = .returned (.bool true) ∧ Below w.heap.size w w' := by
  have hg := mg_guard
  obtain ⟨hx0, hx1⟩ := u8_range w1
  obtain ⟨X, rfl⟩ := Int.eq_ofNat_of_zero_le hx0
  clear w1 hx0
  have HMB := Lib.hid (fun (w' : World) hb => one_box w y0 (w' := w') hb)
  have HEa := Lib.hid (fun w' => encode_any w' y0)
  by_cases ha : may y0 = true
  · obtain ⟨hlo, hhi⟩ := bytes_len ha
    rw [(enc_yes ha).1, (enc_yes ha).2] at HEa
    by_cases hbig : 4096 < s2.size
    · have hd : decide ((4096 : Int) < (s2.size : Int)) = true := by rw [decide_eq_true_eq]; omega
      clear ha hbig hlo hhi
      generalize C.str (Ml.bytes y0) = sa at *
      obtain ⟨kind, epoch, seq, n, block, client, e, t0, t1, t2, t3, data, row⟩ := y0
      simp only [msgV, Mg.cells] at HEa HMB ⊢
      go_enter Try.func7, Try.ntmps7
      go_wp2_with (first
        | (go_at_call 8; with_reducible refine (awake_any _).mono ?_; rintro e1 w1 ⟨rfl, hb⟩
           have C1 := Lib.hid hb
           obtain ⟨z0, z1, z2, z3, z4, z5, z6, z7, z8, z9, z10, z11, z12⟩ := (HMB.out _ hb).1.cells
           clear hb)
        | (go_at_call 9; with_reducible refine (HEa.out _).mono ?_; rintro e2 w2 ⟨rfl, hb⟩
           have C2 := Lib.hid (C1.out.trans (Below.mono hb C1.out.size))
           clear hb))
      go_ret
      exact ⟨rfl, (HMB.out _ C2.out).2⟩
    · have hd : decide ((4096 : Int) < (s2.size : Int)) = false := by rw [decide_eq_false_iff_not]; omega
      have hC := fun w' => decode_no w' (C.str ((Ml.bytes y0).take (X % (Ml.bytes y0).length))) (by rw [str_size, List.length_take]; omega) (by rw [str_list]; exact read_cut ha (Nat.mod_lt X (by omega)))
      have hs1 : (C.str (Ml.bytes y0)).extract 0 (X % (Ml.bytes y0).length) = C.str ((Ml.bytes y0).take (X % (Ml.bytes y0).length)) := str_cut _ _
      have hsz : (C.str (Ml.bytes y0)).size = (Ml.bytes y0).length := str_size _
      rw [← hs1] at hC
      have hJ : (s2.toList.isEmpty = true ∧ ∀ w', Calls Try.prog 13 #[.string (C.str (Ml.bytes y0) ++ s2)] w' fun e w'' => e = .returned (.tuple #[msgV y0, .int .i64 0]) ∧ Below w'.heap.size w' w'') ∨ (s2.toList.isEmpty = false ∧ ∀ w', Calls Try.prog 13 #[.string (C.str (Ml.bytes y0) ++ s2)] w' fun e w'' => e = .returned (.tuple #[msgV nil, .int .i64 4]) ∧ Below w'.heap.size w' w'') := by
        have hsj : (C.str (Ml.bytes y0) ++ s2).size ≤ 65536 := by rw [str_join, str_size, List.length_append, C.M.size_list]; omega
        by_cases he : s2 = ⟨#[]⟩
        · exact .inl ⟨empty_yes he, fun w' => decode_yes w' _ hsj y0 (by rw [str_join, str_list, he]; simpa using read_bytes ha)⟩
        · exact .inr ⟨empty_no he, fun w' => decode_no w' _ hsj (by rw [str_join, str_list]; exact read_more ha (fun h => he (by rw [← str_of s2, h]; rfl)))⟩
      generalize C.str (Ml.bytes y0) = sa at *
      generalize (Ml.bytes y0).length = N at *
      have hno : ¬ (9223372036854775807 < N + s2.size) := by omega
      clear hbig hs1 ha
      have hnz : ¬ (N : Int) = 0 := by omega
      have hnp : (0 : Int) < (N : Int) := by omega
      have hX0 : (0 : Int) ≤ (X : Int) := by omega
      have hml : X % N < N := Nat.mod_lt X (by omega)
      have hsl : ∀ w' : World, (Instr.slice 9 (.string sa) none (some (.int .i64 ((X : Int) % (N : Int)))) none).run Try.prog w' = .ok (.string (sa.extract 0 (X % N))) w' := fun w' => by
        rw [run_slice_string_h w' 9 sa Try.underlying9 .i64 ((X : Int) % (N : Int)) (by omega) (by omega)]
        rw [show ((X : Int) % (N : Int)).toNat = X % N by omega]
      have HC := Lib.hid hC
      clear hC
      rcases hJ with ⟨hz, hJ⟩ | ⟨hz, hJ⟩
      all_goals have HJ := Lib.hid hJ
      all_goals clear hJ
      all_goals generalize sa.extract 0 (X % N) = sc at *
      all_goals
        obtain ⟨kind, epoch, seq, n, block, client, e, t0, t1, t2, t3, data, row⟩ := y0
        simp only [msgV, nil, Mg.cells] at HEa HMB HC HJ ⊢
        go_enter Try.func7, Try.ntmps7
        go_wp2_with (first
          | (go_at_call 8; with_reducible refine (awake_any _).mono ?_; rintro e1 w1 ⟨rfl, hb⟩
             have C1 := Lib.hid hb
             obtain ⟨z0, z1, z2, z3, z4, z5, z6, z7, z8, z9, z10, z11, z12⟩ := (HMB.out _ hb).1.cells
             clear hb)
          | (go_at_call 9; with_reducible refine (HEa.out _).mono ?_; rintro e2 w2 ⟨rfl, hb⟩
             have C2 := Lib.hid (C1.out.trans (Below.mono hb C1.out.size))
             clear hb)
          | (go_at_call 13; with_reducible refine (HC.out _).mono ?_; rintro e3 w3 ⟨rfl, hb⟩
             have C3 := Lib.hid (C2.out.trans (Below.mono hb C2.out.size))
             clear hb)
          | (go_at_call 13; with_reducible refine (HJ.out _).mono ?_; rintro e4 w4 ⟨rfl, hb⟩
             have C4 := Lib.hid ((C3.out.alloc C3.out.size _).trans (Below.mono hb (C3.out.alloc C3.out.size _).size))
             clear hb))
        go_ret
        exact ⟨rfl, (HMB.out _ (C4.out.alloc C4.out.size _)).2⟩
  · rw [(enc_no ha).1, (enc_no ha).2] at HEa
    clear ha
    obtain ⟨kind, epoch, seq, n, block, client, e, t0, t1, t2, t3, data, row⟩ := y0
    simp only [msgV, Mg.cells] at HEa HMB ⊢
    go_enter Try.func7, Try.ntmps7
    go_wp2_with (first
      | (go_at_call 8; with_reducible refine (awake_any _).mono ?_; rintro e1 w1 ⟨rfl, hb⟩
         have C1 := Lib.hid hb
         obtain ⟨z0, z1, z2, z3, z4, z5, z6, z7, z8, z9, z10, z11, z12⟩ := (HMB.out _ hb).1.cells
         clear hb)
      | (go_at_call 9; with_reducible refine (HEa.out _).mono ?_; rintro e2 w2 ⟨rfl, hb⟩
         have C2 := Lib.hid (C1.out.trans (Below.mono hb C1.out.size))
         clear hb))
    go_ret
    exact ⟨rfl, (HMB.out _ C2.out).2⟩

set_option maxRecDepth 100000 in
theorem lifted (os : Os) (started : os.Started) (H : Type) (enc : TypeId × Value → H) :
    ReturnsInHanded {} Try.checked os 7 .any (Rows.mailCutsSpec.pre6 enc Try.prog Try.f7 Rows.mailCutsRow.domain false) (Rows.mailCutsSpec.post enc Try.prog Try.f7 false true false false) := by
  refine returnsInHanded_of_change (C := Try.checked) own started (by kernel_rfl) Try.func7
    (ChangeSpec.witness6 (enc := enc) (C := Try.checked) false ⟨#[], #[Ml.msgV Ml.nil, .int .u8 0, .string ⟨#[]⟩], []⟩ 8 (by kernel_rfl) (by kernel_rfl) (by kernel_rfl) (by kernel_rfl)) ?_
  intro W base args ds gs before hval0 hW hcnd _
  have hval : ∀ (j : Nat) t v, Try.f7.params[j]? = some t → args[j]? = some v → Value.okWide Try.prog W .any base t v := hval0
  have hW' := hW
  obtain ⟨p, q, hA0, hV, rfl, hfz, hnd⟩ := hW
  have hA : DataW.TrodAll enc Try.prog W 0 (fun _ => true) true Try.f7.params.toList args.toList ds p := hA0
  rw [Try.params7] at hA hval
  obtain ⟨v0, vs0, d0, ds0, p0, q0, hargs, rfl, rfl, h0, r0'⟩ := trodAll_cons hA
  obtain ⟨v1, vs1, d1, ds1, p1, q1, rfl, rfl, rfl, h1, r1'⟩ := trodAll_cons r0'
  obtain ⟨v2, vs2, d2, ds2, p2, q2, rfl, rfl, rfl, h2, r2'⟩ := trodAll_cons r1'
  obtain ⟨rfl, rfl, rfl⟩ := trodAll_nil r2'
  obtain rfl : args = #[v0, v1, v2] := by cases args; simp_all
  obtain ⟨rfl, rfl⟩ := trodVars_none hV
  have k0 := h0
  have lt0 : ∀ x ∈ p0, x.block < W.heap.size := by obtain ⟨m, hm⟩ := k0; exact DataW.trod_lt m _ _ _ hm
  obtain ⟨y0, rfl⟩ := Ml.open_msg (hval 0 25 v0 rfl rfl) h0
  obtain ⟨x1, rfl, rfl, rfl, w1⟩ := open_int Try.underlying5 (hval 1 5 v1 rfl rfl) h1
  obtain ⟨s2, rfl, rfl, rfl, w2⟩ := open_string Try.underlying9 (hval 2 9 v2 rfl rfl) h2
  clear hA0 hval0
  refine (walk y0 x1 s2 W w1 w2).mono fun e W' ⟨he, bel⟩ => ?_
  subst he
  exact ⟨_, rfl, _, _, _, [], _, [], hW', trodAll_mk1 (shut_bool Try.underlying4 _), (trodAll_cons_mk (Below.trod laidOut (by kernel_rfl) (of_decide_eq_true (by kernel_rfl)) k0 bel lt0) (trodAll_cons_mk (shut_int Try.underlying5 w1) (trodAll_cons_mk (shut_string Try.underlying9 w2) trodAll_mk0))), rfl, bel.frame _, fun h => by cases h⟩

theorem over : Rows.mailCutsRow.holds Try.pinned (OpenSpec.ofChange Rows.mailCutsSpec) :=
  OpenClaim.holds_of_wide 7 Try.f7 rfl rfl rfl rfl rfl rfl rfl ⟨rfl, rfl, rfl, rfl, rfl⟩ rfl rfl rfl rfl rfl (by kernel_rfl) Try.func7 (by kernel_rfl)
    (of_decide_eq_true (by kernel_rfl)) (by unfold Func.isWrapper; first | (rw [if_pos (by decide +kernel)]; kernel_rfl) | (rw [if_neg (by decide +kernel)]; exact ⟨rfl, rfl⟩))
    (fun os started H enc _ => lifted os started H enc)

/-- the statement -/
theorem proved : Rows.MailCutsSaid := over
#print axioms proved
end Go.Proofs.Ytpggpgbkeafgnaa.mailCuts
