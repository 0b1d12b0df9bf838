/-
  PROVED: what is cut short anywhere, or has more behind, is no record. CONDITIONS: none (any record, any place, any bytes behind).
-/
import Derived.Test.YtdakfhoadfbfiaaBox
import Derived.Test.YtdakfhoadfbfiaaOpen
namespace Go.Proofs.Ytdakfhoadfbfiaa.codeCuts
open Go.ChangeShapes Go.WideShapes Go.ChangeAt Go.RowKit Go.Joins
set_option linter.unusedVariables false
set_option linter.unusedSimpArgs false
set_option maxRecDepth 20000

theorem u16_range {a : Int} (h : (Lit.int .u16 a).wf = true) : 0 ≤ a ∧ a < 65536 := by
  simp [Lit.wf, IntKind.min, IntKind.max, IntKind.signed, IntKind.bits] at h
  omega
theorem run_mod (a : Option Addr) (n cap X : Nat) (hn : 0 < n) (hc : n ≤ cap) (w : World) :
    (Instr.slice 28 (.slice a n cap) none (some (.int .i64 ((X : Int) % (n : Int)))) none).run Try.prog w = .ok (.slice (adv a cap 0) (X % n) cap) w := by
  have e : ((X : Int) % (n : Int)) = ((X % n : Nat) : Int) := by simp
  rw [e]
  exact run_to 28 5 under28 size28 a n cap (X % n) (by have := Nat.mod_lt X hn; omega) w
theorem own_none (W : World) (N : Nat) (hN : W.heap.size = N) : Own 5 (W.alloc (.cells #[] 5)) N (some ⟨N, 0, none⟩) 0 0 (u8s []) := by
  subst hN
  exact own_lit 5 W W.heap.size [] (Nat.le_refl _) (by simp)

set_option maxHeartbeats 1000000 in
theorem walk (r0 : M.Rc) (aN0 : Option Addr) (nN0 cN0 : Nat) (aT0 : Option Addr) (nT0 cT0 : Nat) (x1 : Int) (a2 : Option Addr) (n2 c2 : Nat) (l2 : List UInt8) (w : World) (w0 : RecAt w r0 aN0 nN0 cN0 aT0 nT0 cT0) (f0 : M.Fits r0) (w1 : (Lit.int .u16 x1).wf = true) (w2 : Row w a2 n2 c2 (u8s l2)) :
    Calls Try.prog 7 #[.agg #[.int .i64 r0.kind, .slice aN0 nN0 cN0, .slice aT0 nT0 cT0], .int .u16 x1, .slice a2 n2 c2] w fun e w' => e = .returned (.bool true) ∧ Below w.heap.size w w' := by
  have H := Lib.hid w0
  have F := Lib.hid f0
  obtain ⟨hx0, hx1⟩ := u16_range w1
  obtain ⟨X, rfl⟩ := Int.eq_ofNat_of_zero_le hx0
  have HM := Lib.hid w2
  have hlm : l2.length = n2 := by have := w2.1; rw [u8s_length] at this; exact this
  clear w0 f0 w1 w2 hx0
  by_cases hl : nN0 ≤ 1000 ∧ nT0 ≤ 1000
  · obtain ⟨hl1, hl2⟩ := hl
    by_cases hbig : 4096 < n2
    · have hd : decide ((4096 : Int) < (n2 : Int)) = true := by rw [decide_eq_true_eq]; omega
      clear hlm hbig
      go_enter Try.func7, Try.ntmps7
      go_wp2_with (first
        | (go_at_call 12; refine (awake_any _).mono ?_; rintro e w1 ⟨rfl, hb⟩; have B1 := Lib.hid ((Bx.refl w (.cells #[.int .i64 r0.kind, .slice aN0 nN0 cN0, .slice aT0 nT0 cT0] 25)).next hb (Nat.le_refl _)); obtain ⟨c1, c2, c3⟩ := B1.out.cells; clear hb)
        | (go_at_call 13; refine (large_no _ _ _ _ _ _ _ _ hl1 hl2).mono ?_; rintro e w2 ⟨rfl, hb⟩; have B2 := Lib.hid (B1.out.next hb (Nat.le_refl _)); obtain ⟨d1, d2, d3⟩ := B2.out.cells; clear hb))
      go_ret
      exact ⟨rfl, B2.out.old⟩
    · have hd : decide ((4096 : Int) < (n2 : Int)) = false := by rw [decide_eq_false_iff_not]; omega
      have hn2 : n2 ≤ 4096 := by omega
      have Hn2 := Lib.hid hn2
      clear hbig hn2
      by_cases hm : M.May r0
      · have Hm := Lib.hid hm
        have hle := M.enc_le hm
        have Hcut := Lib.hid (fun n hn => M.dec_cut hm F.out n hn)
        have Hmore := Lib.hid (fun x hx => M.dec_more hm F.out x hx)
        have Hsame := Lib.hid (M.dec_enc hm F.out)
        clear hm
        have HE := fun w1 h1 => encode_yes w1 r0 aN0 nN0 cN0 aT0 nT0 cT0 h1 Hm.out F.out
        generalize hL : (M.enc r0).length = n at *
        have HL := Lib.hid hL
        have HEh := Lib.hid HE
        clear HE hL
        have hnz : ¬ (n : Int) = 0 := by omega
        have hnp : (0 : Int) < (n : Int) := by omega
        have hX0 : (0 : Int) ≤ (X : Int) := by omega
        have Hle := Lib.hid hle
        have Hlm := Lib.hid hlm
        clear hle hlm
        go_enter Try.func7, Try.ntmps7
        go_wp2_with (first
          | (go_at_call 12; refine (awake_any _).mono ?_; rintro e w1 ⟨rfl, hb⟩; have B1 := Lib.hid ((Bx.refl w (.cells #[.int .i64 r0.kind, .slice aN0 nN0 cN0, .slice aT0 nT0 cT0] 25)).next hb (Nat.le_refl _)); obtain ⟨c1, c2, c3⟩ := B1.out.cells; clear hb)
          | (go_at_call 13; refine (large_no _ _ _ _ _ _ _ _ hl1 hl2).mono ?_; rintro e w2 ⟨rfl, hb⟩; have B2 := Lib.hid (B1.out.next hb (Nat.le_refl _)); obtain ⟨d1, d2, d3⟩ := B2.out.cells; clear hb)
          | (go_at_call 14; refine (HEh.out _ (B2.out.rec H.out)).mono ?_; rintro e w3 ⟨a3, cap3, rfl, ho, hb⟩; have B3 := Lib.hid (B2.out.next hb (Nat.le_refl _)); have O3 := Lib.hid ho; have hcap := (own_row ho).1.2.1; have hsl := fun w => run_mod a3 n cap3 X (by have := Hle.out; omega) hcap w; clear hb ho hcap))
        generalize hadv : adv a3 cap3 0 = a3' at *
        have Hadv := Lib.hid hadv
        clear hadv c1 c2 c3 d1 d2 d3 hsl
        refine (decode_no _ _ _ _ ((M.enc r0).take (X % n)) (by
          have := row_take (own_row O3.out).1 (X % n) (Nat.le_of_lt (Nat.mod_lt X (by have := Hle.out; omega)))
          rw [Hadv.out, show (u8s (M.enc r0)).take (X % n) = u8s ((M.enc r0).take (X % n)) from (List.map_take ..).symm] at this
          exact this) (Hcut.out _ (Nat.mod_lt X (by have := Hle.out; omega)))).mono ?_
        rintro e w4 ⟨rfl, hb⟩
        have B4 := Lib.hid (B3.out.next hb (Nat.le_refl _))
        have O3' := Lib.hid (own_below O3.out hb (Nat.le_refl _))
        clear hb
        have Own0 := Lib.hid (own_none (w4.alloc (.cells #[.int .i64 0, .slice none 0 0, .slice none 0 0] 25)) (w4.heap.size + 1) (by simp))
        have B4' : Hid (Bx w (.cells #[.int .i64 r0.kind, .slice aN0 nN0 cN0, .slice aT0 nT0 cT0] 25) ((w4.alloc (.cells #[.int .i64 0, .slice none 0 0, .slice none 0 0] 25)).alloc (.cells #[] 5))) := (B4.out.alloc _).alloc _
        have hb4 : Below w4.heap.size w4 ((w4.alloc (.cells #[.int .i64 0, .slice none 0 0, .slice none 0 0] 25)).alloc (.cells #[] 5)) := ((Below.refl _ _).alloc (Nat.le_refl _) _).alloc (by simp) _
        have Row0 := Lib.hid (row_below (own_row O3'.out).1 hb4 (Nat.le_refl _))
        have Hb4 := Lib.hid hb4
        clear hb4
        go_wp2_with (first
          | (at_builtin
             refine wpList_append_u8 _ rfl (.tmp 41) (.tmp 42) rfl (w4.heap.size + 1) (some ⟨w4.heap.size + 1, 0, none⟩) 0 0 [] rfl Own0.out a3 n cap3 (M.enc r0) rfl Row0.out n (by omega) (by have := Hle.out; omega) (by simp) ?_
             intro a5 cap5 w5 hown hb
             have O5 := Lib.hid hown
             have hs5 := hb.size
             have S5 : Hid (w4.heap.size + 1 ≤ w5.heap.size) := by simp at hs5; show _ ≤ _; omega
             have B5 := Lib.hid (Below.trans (Hb4.out.mono (B := w4.heap.size) (Nat.le_refl _)) (hb.mono (by omega)))
             have R5 := Lib.hid (row_below (B4.out.row HM.out) B5.out (Nat.le_refl _))
             clear hown hb hs5)
          | (at_builtin
             refine wpList_append_u8 _ rfl (.tmp 43) (.tmp 44) rfl (w4.heap.size + 1) a5 n cap5 (M.enc r0) rfl O5.out a2 n2 c2 l2 rfl R5.out (n + n2) rfl (by have := Hle.out; have := Hn2.out; omega) S5.out ?_
             intro a6 cap6 w6 hown hb
             have O6 := Lib.hid hown
             have B6 := Lib.hid (B5.out.trans (hb.mono (by omega)))
             clear hown hb))
        have Bend := Lib.hid (B4.out.old.trans (B6.out.mono (by have := B4.out.size; omega)))
        by_cases hle2 : l2 = []
        · have hn0 : n2 = 0 := by have := Hlm.out; rw [hle2] at this; exact this.symm
          have hz : ((n2 : Int) == 0) = true := by rw [beq_iff_eq]; omega
          have Hd : Hid (M.dec (M.enc r0 ++ l2) = some r0) := by rw [hle2, List.append_nil]; exact Hsame.out
          clear hle2 hn0
          refine (decode_ok _ _ _ _ _ r0 (own_row O6.out).1 Hd.out).mono ?_
          rintro e w7 ⟨aN, nN, cN, aT, nT, cT, rfl, ho, hb⟩
          have B7 := Lib.hid (Bend.out.trans (hb.mono Bend.out.size))
          clear ho hb
          go_wp2_with fail
          go_ret
          exact ⟨rfl, B7.out.alloc B7.out.size _⟩
        · have hz : ((n2 : Int) == 0) = false := by
            rw [beq_eq_false_iff_ne]
            intro e
            have hn0 : n2 = 0 := by omega
            exact hle2 (List.eq_nil_of_length_eq_zero (by rw [Hlm.out]; exact hn0))
          have Hd := Lib.hid (Hmore.out l2 hle2)
          clear hle2
          refine (decode_no _ _ _ _ _ (own_row O6.out).1 Hd.out).mono ?_
          rintro e w7 ⟨rfl, hb⟩
          have B7 := Lib.hid (Bend.out.trans (hb.mono Bend.out.size))
          clear hb
          go_wp2_with fail
          go_ret
          exact ⟨rfl, B7.out.alloc B7.out.size _⟩
      · have Hm := Lib.hid hm
        clear hm
        go_enter Try.func7, Try.ntmps7
        go_wp2_with (first
          | (go_at_call 12; refine (awake_any _).mono ?_; rintro e w1 ⟨rfl, hb⟩; have B1 := Lib.hid ((Bx.refl w (.cells #[.int .i64 r0.kind, .slice aN0 nN0 cN0, .slice aT0 nT0 cT0] 25)).next hb (Nat.le_refl _)); obtain ⟨c1, c2, c3⟩ := B1.out.cells; clear hb)
          | (go_at_call 13; refine (large_no _ _ _ _ _ _ _ _ hl1 hl2).mono ?_; rintro e w2 ⟨rfl, hb⟩; have B2 := Lib.hid (B1.out.next hb (Nat.le_refl _)); obtain ⟨d1, d2, d3⟩ := B2.out.cells; clear hb)
          | (go_at_call 14; refine (encode_no _ r0 _ _ _ _ _ _ (B2.out.rec H.out) Hm.out).mono ?_; rintro e w3 ⟨rfl, hb⟩; have B3 := Lib.hid (B2.out.next hb (Nat.le_refl _)); clear hb))
        go_ret
        exact ⟨rfl, B3.out.old⟩
  · go_enter Try.func7, Try.ntmps7
    go_wp2_with (first
        | (go_at_call 12; refine (awake_any _).mono ?_; rintro e w1 ⟨rfl, hb⟩; have B1 := Lib.hid ((Bx.refl w (.cells #[.int .i64 r0.kind, .slice aN0 nN0 cN0, .slice aT0 nT0 cT0] 25)).next hb (Nat.le_refl _)); obtain ⟨c1, c2, c3⟩ := B1.out.cells; clear hb)
        | (go_at_call 13; refine (large_yes _ _ _ _ _ _ _ _ hl).mono ?_; rintro e w2 ⟨rfl, hb⟩; have B2 := Lib.hid (B1.out.next hb (Nat.le_refl _)); clear hb))
    go_ret
    exact ⟨rfl, B2.out.old⟩

set_option maxRecDepth 100000 in
theorem lifted (os : Os) (started : os.Started) (H : Type) (enc : TypeId × Value → H) :
    ReturnsInHanded {} Try.checked os 7 .any (Rows.codeCutsSpec.pre6 enc Try.prog Try.f7 Rows.codeCutsRow.domain false) (Rows.codeCutsSpec.post enc Try.prog Try.f7 false true false false) := by
  refine returnsInHanded_of_change (C := Try.checked) own started (by kernel_rfl) Try.func7
    (ChangeSpec.witness6 (enc := enc) (C := Try.checked) false ⟨#[], #[.agg #[.int .i64 0, .slice none 0 0, .slice none 0 0], .int .u16 0, .slice none 0 0], []⟩ 8 (by kernel_rfl) (by kernel_rfl) (by kernel_rfl) (by kernel_rfl)) ?_
  intro W base args ds gs before hval0 hW hcnd _
  have hval : ∀ (j : Nat) t v, Try.f7.params[j]? = some t → args[j]? = some v → Value.okWide Try.prog W .any base t v := hval0
  have hW' := hW
  obtain ⟨p, q, hA0, hV, rfl, hfz, hnd⟩ := hW
  have hA : DataW.TrodAll enc Try.prog W 0 (fun _ => true) true Try.f7.params.toList args.toList ds p := hA0
  rw [Try.params7] at hA hval
  obtain ⟨v0, vs0, d0, ds0, p0, q0, hargs, rfl, rfl, h0, r0'⟩ := trodAll_cons hA
  obtain ⟨v1, vs1, d1, ds1, p1, q1, rfl, rfl, rfl, h1, r1'⟩ := trodAll_cons r0'
  obtain ⟨v2, vs2, d2, ds2, p2, q2, rfl, rfl, rfl, h2, r2'⟩ := trodAll_cons r1'
  obtain ⟨rfl, rfl, rfl⟩ := trodAll_nil r2'
  obtain rfl : args = #[v0, v1, v2] := by cases args; simp_all
  obtain ⟨rfl, rfl⟩ := trodVars_none hV
  have k0 := h0
  have lt0 : ∀ x ∈ p0, x.block < W.heap.size := by obtain ⟨m, hm⟩ := k0; exact DataW.trod_lt m _ _ _ hm
  obtain ⟨r0, aN0, nN0, cN0, aT0, nT0, cT0, rfl, w0, f0⟩ := open_rec (hval 0 25 v0 rfl rfl) h0
  obtain ⟨x1, rfl, rfl, rfl, w1⟩ := open_int Try.underlying40 (hval 1 40 v1 rfl rfl) h1
  have k2 := h2
  have lt2 : ∀ x ∈ p2, x.block < W.heap.size := by obtain ⟨m, hm⟩ := k2; exact DataW.trod_lt m _ _ _ hm
  obtain ⟨a2, n2, c2, l2, rfl, w2⟩ := open_bytes (hval 2 28 v2 rfl rfl) h2
  clear hA0 hval0
  refine (walk r0 aN0 nN0 cN0 aT0 nT0 cT0 x1 a2 n2 c2 l2 W w0 f0 w1 w2).mono fun e W' ⟨he, bel⟩ => ?_
  subst he
  exact ⟨_, rfl, _, _, _, [], _, [], hW', trodAll_mk1 (shut_bool Try.underlying4 _), (trodAll_cons_mk (Below.trod laidOut (by kernel_rfl) (of_decide_eq_true (by kernel_rfl)) k0 bel lt0) (trodAll_cons_mk (shut_int Try.underlying40 w1) (trodAll_cons_mk (Below.trod laidOut (by kernel_rfl) (of_decide_eq_true (by kernel_rfl)) k2 bel lt2) trodAll_mk0))), rfl, bel.frame _, fun h => by cases h⟩

theorem over : Rows.codeCutsRow.holds Try.pinned (OpenSpec.ofChange Rows.codeCutsSpec) :=
  OpenClaim.holds_of_wide 7 Try.f7 rfl rfl rfl rfl rfl rfl rfl ⟨rfl, rfl, rfl, rfl, rfl⟩ rfl rfl rfl rfl rfl (by kernel_rfl) Try.func7 (by kernel_rfl)
    (of_decide_eq_true (by kernel_rfl)) (by unfold Func.isWrapper; first | (rw [if_pos (by decide +kernel)]; kernel_rfl) | (rw [if_neg (by decide +kernel)]; exact ⟨rfl, rfl⟩))
    (fun os started H enc _ => lifted os started H enc)

/-- the statement -/
theorem proved : Rows.CodeCutsSaid := over
#print axioms proved
end Go.Proofs.Ytdakfhoadfbfiaa.codeCuts
