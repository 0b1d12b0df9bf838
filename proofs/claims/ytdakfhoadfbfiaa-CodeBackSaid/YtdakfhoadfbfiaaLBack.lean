/-
  PROVED: what is encoded is decoded to the same; what is decoded has just these bytes, and may be. CONDITIONS: none (any record, any bytes).
-/
import Derived.Test.YtdakfhoadfbfiaaBox
import Derived.Test.YtdakfhoadfbfiaaOpen
namespace Go.Proofs.Ytdakfhoadfbfiaa.codeBack
open Go.ChangeShapes Go.WideShapes Go.ChangeAt Go.RowKit Go.Joins
set_option linter.unusedVariables false
set_option linter.unusedSimpArgs false
set_option maxRecDepth 20000

theorem str_back (l : List UInt8) : (str l).toList = l := by simp [str]
def zero : M.Rc := ⟨0, [], []⟩
theorem zero_at (w : World) : RecAt w zero none 0 0 none 0 0 := ⟨row_nil w, row_nil w⟩

set_option maxHeartbeats 1000000 in
theorem walk (r0 : M.Rc) (aN0 : Option Addr) (nN0 cN0 : Nat) (aT0 : Option Addr) (nT0 cT0 : Nat) (a1 : Option Addr) (n1 c1 : Nat) (l1 : List UInt8) (w : World) (w0 : RecAt w r0 aN0 nN0 cN0 aT0 nT0 cT0) (f0 : M.Fits r0) (w1 : Row w a1 n1 c1 (u8s l1)) :
    Calls Try.prog 5 #[.agg #[.int .i64 r0.kind, .slice aN0 nN0 cN0, .slice aT0 nT0 cT0], .slice a1 n1 c1] w fun e w' => e = .returned (.bool true) ∧ Below w.heap.size w w' := by
  have H := Lib.hid w0
  have F := Lib.hid f0
  have HB := Lib.hid w1
  clear w0 f0 w1
  by_cases hl : nN0 ≤ 1000 ∧ nT0 ≤ 1000
  · obtain ⟨hl1, hl2⟩ := hl
    by_cases hbig : 65536 < n1
    · have hd : decide ((65536 : Int) < (n1 : Int)) = true := by rw [decide_eq_true_eq]; omega
      clear hbig
      go_enter Try.func5, Try.ntmps5
      go_wp2_with (first
        | (go_at_call 12; refine (awake_any _).mono ?_; rintro e w1 ⟨rfl, hb⟩; have B1 := Lib.hid ((Bx.refl w (.cells #[.int .i64 r0.kind, .slice aN0 nN0 cN0, .slice aT0 nT0 cT0] 25)).next hb (Nat.le_refl _)); obtain ⟨c1, c2, c3⟩ := B1.out.cells; clear hb)
        | (go_at_call 13; refine (large_no _ _ _ _ _ _ _ _ hl1 hl2).mono ?_; rintro e w2 ⟨rfl, hb⟩; have B2 := Lib.hid (B1.out.next hb (Nat.le_refl _)); obtain ⟨d1, d2, d3⟩ := B2.out.cells; clear hb))
      go_ret
      exact ⟨rfl, B2.out.old⟩
    · have hd : decide ((65536 : Int) < (n1 : Int)) = false := by rw [decide_eq_false_iff_not]; omega
      clear hbig
      by_cases hm : M.May r0
      · have Hm := Lib.hid hm
        have Hsame := Lib.hid (M.dec_enc hm F.out)
        clear hm
        go_enter Try.func5, Try.ntmps5
        go_wp2_with (first
          | (go_at_call 12; refine (awake_any _).mono ?_; rintro e w1 ⟨rfl, hb⟩; have B1 := Lib.hid ((Bx.refl w (.cells #[.int .i64 r0.kind, .slice aN0 nN0 cN0, .slice aT0 nT0 cT0] 25)).next hb (Nat.le_refl _)); obtain ⟨c1, c2, c3⟩ := B1.out.cells; clear hb)
          | (go_at_call 13; refine (large_no _ _ _ _ _ _ _ _ hl1 hl2).mono ?_; rintro e w2 ⟨rfl, hb⟩; have B2 := Lib.hid (B1.out.next hb (Nat.le_refl _)); obtain ⟨d1, d2, d3⟩ := B2.out.cells; clear hb)
          | (go_at_call 14; refine (encode_yes _ r0 _ _ _ _ _ _ (B2.out.rec H.out) Hm.out F.out).mono ?_; rintro e w3 ⟨a3, cap3, rfl, ho, hb⟩; have B3 := Lib.hid (B2.out.next hb (Nat.le_refl _)); have O3 := Lib.hid ho; clear hb ho))
        refine (decode_ok _ _ _ _ _ r0 (own_row O3.out).1 Hsame.out).mono ?_
        rintro e w4 ⟨aN, nN, cN, aT, nT, cT, rfl, ho, hb⟩
        have B4 := Lib.hid (B3.out.next hb (Nat.le_refl _))
        have hal := (Below.refl w4.heap.size w4).alloc (Nat.le_refl _) (.cells #[.int .i64 r0.kind, .slice aN nN cN, .slice aT nT cT] 25)
        have B5 := Lib.hid (B4.out.next hal (Nat.le_refl _))
        have HR := Lib.hid (ho.at.below hal (Nat.le_refl _))
        clear ho hb hal c1 c2 c3 d1 d2 d3
        obtain ⟨c1, c2, c3⟩ := B5.out.cells
        go_wp2_with (go_at_call 21; refine (same_yes _ r0 _ _ _ _ _ _ _ _ _ _ _ _ (B5.out.rec H.out) HR.out (by omega) (by omega)).mono ?_; rintro e w6 ⟨rfl, hb⟩; have BK := Lib.hid (B5.out.old.trans (hb.mono (Nat.le_of_succ_le B5.out.size))); clear hb)
        have d1 := True.intro
        have d2 := True.intro
        have d3 := True.intro
        clear c1 c2 c3 d1 d2 d3
        cases hdec : M.dec l1 with
        | none =>
          have Hdec := Lib.hid hdec
          clear hdec
          refine (decode_no _ _ _ _ l1 (row_below HB.out BK.out (Nat.le_refl _)) Hdec.out).mono ?_
          rintro e v1 ⟨rfl, hb⟩
          have BV := Lib.hid (BK.out.trans (hb.mono BK.out.size))
          clear hb
          go_wp2_with (go_at_call 21; refine (same_yes _ zero none 0 0 none 0 0 none 0 0 none 0 0 (zero_at _) (zero_at _) (by omega) (by omega)).mono ?_; rintro e v2 ⟨rfl, hb⟩; have BE := Lib.hid ((BV.out.alloc BV.out.size (.cells #[.int .i64 0, .slice none 0 0, .slice none 0 0] 25)).trans (hb.mono (by have := BV.out.size; simp; omega))); clear hb)
          go_ret
          exact ⟨rfl, BE.out⟩
        | some s =>
          obtain ⟨hs1, hs2, hs3⟩ := M.enc_dec hdec
          have Hdec := Lib.hid hdec
          have Hs1 := Lib.hid hs1
          have Hs2 := Lib.hid hs2
          have Hs3 := Lib.hid hs3
          clear hdec hs1 hs2 hs3
          refine (decode_ok _ _ _ _ l1 s (row_below HB.out BK.out (Nat.le_refl _)) Hdec.out).mono ?_
          rintro e v1 ⟨aN, nN, cN, aT, nT, cT, rfl, ho, hb⟩
          have BV := Lib.hid (BK.out.trans (hb.mono BK.out.size))
          have hal := (Below.refl v1.heap.size v1).alloc (Nat.le_refl _) (.cells #[.int .i64 s.kind, .slice aN nN cN, .slice aT nT cT] 25)
          have HS := Lib.hid (ho.at.below hal (Nat.le_refl _))
          have BX2 : Hid (Bx v1 (.cells #[.int .i64 s.kind, .slice aN nN cN, .slice aT nT cT] 25) (v1.alloc (.cells #[.int .i64 s.kind, .slice aN nN cN, .slice aT nT cT] 25))) := Bx.refl _ _
          have HS0 := Lib.hid ho.at
          clear ho hb hal
          go_wp2_with fail
          refine (encode_yes _ s _ _ _ _ _ _ HS.out Hs1.out Hs2.out).mono ?_
          rintro e v2 ⟨aD, capD, rfl, hod, hb⟩
          have BX3 := Lib.hid (BX2.out.next hb (Nat.le_refl _))
          obtain ⟨g1, g2, g3⟩ := BX3.out.cells
          have BV2 : Hid (Below w.heap.size w v2) := BV.out.trans (BX3.out.old.mono BV.out.size)
          have hc1 := run_string_bytes (own_row hod).1
          have hse2 : (str (M.enc s)).toList = l1 := by rw [str_back, ← Hs3.out]
          have hc2 := run_string_bytes (row_below HB.out BV2.out (Nat.le_refl _))
          have hse := str_back l1
          clear hb hod
          go_wp2_with (go_at_call 16; refine (may_yes _ s _ _ _ _ _ _ (BX3.out.rec HS0.out) Hs1.out).mono ?_; rintro e v3 ⟨rfl, hb⟩; have BE := Lib.hid (BV2.out.trans (hb.mono BV2.out.size)); clear hb)
          go_ret
          exact ⟨rfl, BE.out⟩
      · have Hm := Lib.hid hm
        clear hm
        go_enter Try.func5, Try.ntmps5
        go_wp2_with (first
          | (go_at_call 12; refine (awake_any _).mono ?_; rintro e w1 ⟨rfl, hb⟩; have B1 := Lib.hid ((Bx.refl w (.cells #[.int .i64 r0.kind, .slice aN0 nN0 cN0, .slice aT0 nT0 cT0] 25)).next hb (Nat.le_refl _)); obtain ⟨c1, c2, c3⟩ := B1.out.cells; clear hb)
          | (go_at_call 13; refine (large_no _ _ _ _ _ _ _ _ hl1 hl2).mono ?_; rintro e w2 ⟨rfl, hb⟩; have B2 := Lib.hid (B1.out.next hb (Nat.le_refl _)); obtain ⟨d1, d2, d3⟩ := B2.out.cells; clear hb)
          | (go_at_call 14; refine (encode_no _ r0 _ _ _ _ _ _ (B2.out.rec H.out) Hm.out).mono ?_; rintro e w3 ⟨rfl, hb⟩; have B3 := Lib.hid (B2.out.next hb (Nat.le_refl _)); clear hb))
        have BK := Lib.hid B3.out.old
        clear c1 c2 c3 d1 d2 d3
        cases hdec : M.dec l1 with
        | none =>
          have Hdec := Lib.hid hdec
          clear hdec
          refine (decode_no _ _ _ _ l1 (row_below HB.out BK.out (Nat.le_refl _)) Hdec.out).mono ?_
          rintro e v1 ⟨rfl, hb⟩
          have BV := Lib.hid (BK.out.trans (hb.mono BK.out.size))
          clear hb
          go_wp2_with (go_at_call 21; refine (same_yes _ zero none 0 0 none 0 0 none 0 0 none 0 0 (zero_at _) (zero_at _) (by omega) (by omega)).mono ?_; rintro e v2 ⟨rfl, hb⟩; have BE := Lib.hid ((BV.out.alloc BV.out.size (.cells #[.int .i64 0, .slice none 0 0, .slice none 0 0] 25)).trans (hb.mono (by have := BV.out.size; simp; omega))); clear hb)
          go_ret
          exact ⟨rfl, BE.out⟩
        | some s =>
          obtain ⟨hs1, hs2, hs3⟩ := M.enc_dec hdec
          have Hdec := Lib.hid hdec
          have Hs1 := Lib.hid hs1
          have Hs2 := Lib.hid hs2
          have Hs3 := Lib.hid hs3
          clear hdec hs1 hs2 hs3
          refine (decode_ok _ _ _ _ l1 s (row_below HB.out BK.out (Nat.le_refl _)) Hdec.out).mono ?_
          rintro e v1 ⟨aN, nN, cN, aT, nT, cT, rfl, ho, hb⟩
          have BV := Lib.hid (BK.out.trans (hb.mono BK.out.size))
          have hal := (Below.refl v1.heap.size v1).alloc (Nat.le_refl _) (.cells #[.int .i64 s.kind, .slice aN nN cN, .slice aT nT cT] 25)
          have HS := Lib.hid (ho.at.below hal (Nat.le_refl _))
          have BX2 : Hid (Bx v1 (.cells #[.int .i64 s.kind, .slice aN nN cN, .slice aT nT cT] 25) (v1.alloc (.cells #[.int .i64 s.kind, .slice aN nN cN, .slice aT nT cT] 25))) := Bx.refl _ _
          have HS0 := Lib.hid ho.at
          clear ho hb hal
          go_wp2_with fail
          refine (encode_yes _ s _ _ _ _ _ _ HS.out Hs1.out Hs2.out).mono ?_
          rintro e v2 ⟨aD, capD, rfl, hod, hb⟩
          have BX3 := Lib.hid (BX2.out.next hb (Nat.le_refl _))
          obtain ⟨g1, g2, g3⟩ := BX3.out.cells
          have BV2 : Hid (Below w.heap.size w v2) := BV.out.trans (BX3.out.old.mono BV.out.size)
          have hc1 := run_string_bytes (own_row hod).1
          have hse2 : (str (M.enc s)).toList = l1 := by rw [str_back, ← Hs3.out]
          have hc2 := run_string_bytes (row_below HB.out BV2.out (Nat.le_refl _))
          have hse := str_back l1
          clear hb hod
          go_wp2_with (go_at_call 16; refine (may_yes _ s _ _ _ _ _ _ (BX3.out.rec HS0.out) Hs1.out).mono ?_; rintro e v3 ⟨rfl, hb⟩; have BE := Lib.hid (BV2.out.trans (hb.mono BV2.out.size)); clear hb)
          go_ret
          exact ⟨rfl, BE.out⟩
  · go_enter Try.func5, Try.ntmps5
    go_wp2_with (first
        | (go_at_call 12; refine (awake_any _).mono ?_; rintro e w1 ⟨rfl, hb⟩; have B1 := Lib.hid ((Bx.refl w (.cells #[.int .i64 r0.kind, .slice aN0 nN0 cN0, .slice aT0 nT0 cT0] 25)).next hb (Nat.le_refl _)); obtain ⟨c1, c2, c3⟩ := B1.out.cells; clear hb)
        | (go_at_call 13; refine (large_yes _ _ _ _ _ _ _ _ hl).mono ?_; rintro e w2 ⟨rfl, hb⟩; have B2 := Lib.hid (B1.out.next hb (Nat.le_refl _)); clear hb))
    go_ret
    exact ⟨rfl, B2.out.old⟩

set_option maxRecDepth 100000 in
theorem lifted (os : Os) (started : os.Started) (H : Type) (enc : TypeId × Value → H) :
    ReturnsInHanded {} Try.checked os 5 .any (Rows.codeBackSpec.pre6 enc Try.prog Try.f5 Rows.codeBackRow.domain false) (Rows.codeBackSpec.post enc Try.prog Try.f5 false true false false) := by
  refine returnsInHanded_of_change (C := Try.checked) own started (by kernel_rfl) Try.func5
    (ChangeSpec.witness6 (enc := enc) (C := Try.checked) false ⟨#[], #[.agg #[.int .i64 0, .slice none 0 0, .slice none 0 0], .slice none 0 0], []⟩ 8 (by kernel_rfl) (by kernel_rfl) (by kernel_rfl) (by kernel_rfl)) ?_
  intro W base args ds gs before hval0 hW hcnd _
  have hval : ∀ (j : Nat) t v, Try.f5.params[j]? = some t → args[j]? = some v → Value.okWide Try.prog W .any base t v := hval0
  have hW' := hW
  obtain ⟨p, q, hA0, hV, rfl, hfz, hnd⟩ := hW
  have hA : DataW.TrodAll enc Try.prog W 0 (fun _ => true) true Try.f5.params.toList args.toList ds p := hA0
  rw [Try.params5] at hA hval
  obtain ⟨v0, vs0, d0, ds0, p0, q0, hargs, rfl, rfl, h0, r0'⟩ := trodAll_cons hA
  obtain ⟨v1, vs1, d1, ds1, p1, q1, rfl, rfl, rfl, h1, r1'⟩ := trodAll_cons r0'
  obtain ⟨rfl, rfl, rfl⟩ := trodAll_nil r1'
  obtain rfl : args = #[v0, v1] := by cases args; simp_all
  obtain ⟨rfl, rfl⟩ := trodVars_none hV
  have k0 := h0
  have lt0 : ∀ x ∈ p0, x.block < W.heap.size := by obtain ⟨m, hm⟩ := k0; exact DataW.trod_lt m _ _ _ hm
  obtain ⟨r0, aN0, nN0, cN0, aT0, nT0, cT0, rfl, w0, f0⟩ := open_rec (hval 0 25 v0 rfl rfl) h0
  have k1 := h1
  have lt1 : ∀ x ∈ p1, x.block < W.heap.size := by obtain ⟨m, hm⟩ := k1; exact DataW.trod_lt m _ _ _ hm
  obtain ⟨a1, n1, c1, l1, rfl, w1⟩ := open_bytes (hval 1 28 v1 rfl rfl) h1
  clear hA0 hval0
  refine (walk r0 aN0 nN0 cN0 aT0 nT0 cT0 a1 n1 c1 l1 W w0 f0 w1).mono fun e W' ⟨he, bel⟩ => ?_
  subst he
  exact ⟨_, rfl, _, _, _, [], _, [], hW', trodAll_mk1 (shut_bool Try.underlying4 _), (trodAll_cons_mk (Below.trod laidOut (by kernel_rfl) (of_decide_eq_true (by kernel_rfl)) k0 bel lt0) (trodAll_cons_mk (Below.trod laidOut (by kernel_rfl) (of_decide_eq_true (by kernel_rfl)) k1 bel lt1) trodAll_mk0)), rfl, bel.frame _, fun h => by cases h⟩

theorem over : Rows.codeBackRow.holds Try.pinned (OpenSpec.ofChange Rows.codeBackSpec) :=
  OpenClaim.holds_of_wide 5 Try.f5 rfl rfl rfl rfl rfl rfl rfl ⟨rfl, rfl, rfl, rfl, rfl⟩ rfl rfl rfl rfl rfl (by kernel_rfl) Try.func5 (by kernel_rfl)
    (of_decide_eq_true (by kernel_rfl)) (by unfold Func.isWrapper; first | (rw [if_pos (by decide +kernel)]; kernel_rfl) | (rw [if_neg (by decide +kernel)]; exact ⟨rfl, rfl⟩))
    (fun os started H enc _ => lifted os started H enc)

/-- the statement -/
theorem proved : Rows.CodeBackSaid := over
#print axioms proved
end Go.Proofs.Ytdakfhoadfbfiaa.codeBack
