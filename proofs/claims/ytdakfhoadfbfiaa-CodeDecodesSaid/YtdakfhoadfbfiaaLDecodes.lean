/-
  PROVED: what any bytes decode to is what the document says; they stay. CONDITIONS: none (any bytes).
-/
import Derived.Test.YtdakfhoadfbfiaaBox
import Derived.Test.YtdakfhoadfbfiaaOpen
import Derived.Test.YtdakfhoadfbfiaaRefd
namespace Go.Proofs.Ytdakfhoadfbfiaa.codeDecodes
open Go.ChangeShapes Go.WideShapes Go.ChangeAt Go.RowKit Go.Joins
set_option linter.unusedVariables false
set_option linter.unusedSimpArgs false
set_option maxRecDepth 20000

theorem str_back (l : List UInt8) : (str l).toList = l := by simp [str]
def zero : M.Rc := ⟨0, [], []⟩
theorem zero_at (w : World) : RecAt w zero none 0 0 none 0 0 := ⟨row_nil w, row_nil w⟩
theorem own_none (W : World) (N : Nat) (hN : W.heap.size = N) : Own 5 (W.alloc (.cells #[] 5)) N (some ⟨N, 0, none⟩) 0 0 (u8s []) := by
  subst hN
  exact own_lit 5 W W.heap.size [] (Nat.le_refl _) (by simp)
theorem refdecode_ok (w : World) (a : Option Addr) (n cap : Nat) (l : List UInt8) (r : M.Rc) (h : Row w a n cap (u8s l)) (hn : n ≤ 65536) (hd : M.dec l = some r) :
    Calls Try.prog 23 #[.slice a n cap] w fun e w' => ∃ aN nN cN aT nT cT, e = .returned (.tuple #[.agg #[.int .i64 r.kind, .slice aN nN cN, .slice aT nT cT], .int .i64 0]) ∧ RecOwn w' w.heap.size r aN nN cN aT nT cT ∧ Below w.heap.size w w' := by
  refine (refdecode_any w a n cap l h hn).mono ?_
  rintro e w' ⟨hb, ⟨r', v, h1, ⟨aN, nN, cN, aT, nT, cT, rfl, h2, h3⟩, rfl⟩ | ⟨h1, _⟩⟩
  · rw [hd] at h1
    injection h1 with h1
    subst h1
    exact ⟨aN, nN, cN, aT, nT, cT, rfl, ⟨h2, h3⟩, hb⟩
  · rw [hd] at h1; cases h1
theorem refdecode_no (w : World) (a : Option Addr) (n cap : Nat) (l : List UInt8) (h : Row w a n cap (u8s l)) (hn : n ≤ 65536) (hd : M.dec l = none) :
    Calls Try.prog 23 #[.slice a n cap] w fun e w' => e = .returned (.tuple #[.agg #[.int .i64 0, .slice none 0 0, .slice none 0 0], .int .i64 4]) ∧ Below w.heap.size w w' := by
  refine (refdecode_any w a n cap l h hn).mono ?_
  rintro e w' ⟨hb, ⟨r', v, h1, _, _⟩ | ⟨h1, rfl⟩⟩
  · rw [hd] at h1; cases h1
  · exact ⟨rfl, hb⟩

set_option maxHeartbeats 1000000 in
theorem walk (a0 : Option Addr) (n0 c0 : Nat) (l0 : List UInt8) (w : World) (w0 : Row w a0 n0 c0 (u8s l0)) :
    Calls Try.prog 4 #[.slice a0 n0 c0] w fun e w' => e = .returned (.bool true) ∧ Below w.heap.size w w' := by
  have HB := Lib.hid w0
  clear w0
  by_cases hbig : 65536 < n0
  · have hd : decide ((65536 : Int) < (n0 : Int)) = true := by rw [decide_eq_true_eq]; omega
    clear hbig
    go_enter Try.func4, Try.ntmps4
    go_wp2_with (go_at_call 12; refine (awake_any _).mono ?_; rintro e w1 ⟨rfl, hb⟩; have B1 := Lib.hid hb; clear hb)
    go_ret
    exact ⟨rfl, B1.out⟩
  · have hd : decide ((65536 : Int) < (n0 : Int)) = false := by rw [decide_eq_false_iff_not]; omega
    have Hn := Lib.hid (show n0 ≤ 65536 by omega)
    clear hbig
    go_enter Try.func4, Try.ntmps4
    go_wp2_with (first
      | (go_at_call 12; refine (awake_any _).mono ?_; rintro e w1 ⟨rfl, hb⟩; have B1 := Lib.hid hb; have Own0 := Lib.hid (own_none w1 w1.heap.size rfl); have hb1 := (Below.refl w1.heap.size w1).alloc (Nat.le_refl _) (.cells #[] 5); have Row0 := Lib.hid (row_below (row_below HB.out B1.out (Nat.le_refl _)) hb1 (Nat.le_refl _)); have Hb1 := Lib.hid hb1; clear hb hb1)
      | (at_builtin
         refine wpList_append_u8 _ rfl (.tmp 13) (.tmp 14) rfl w1.heap.size (some ⟨w1.heap.size, 0, none⟩) 0 0 [] rfl Own0.out a0 n0 c0 l0 rfl Row0.out n0 (by omega) (by have := Hn.out; omega) (by simp) ?_
         intro a5 cap5 w2 hown hb
         have O5 := Lib.hid (show Own 5 w2 w1.heap.size a5 n0 cap5 (u8s l0) from hown)
         have B2 := Lib.hid (B1.out.trans ((Hb1.out.trans hb).mono B1.out.size))
         clear hown hb))
    cases hdec : M.dec l0 with
    | none =>
      have Hdec := Lib.hid hdec
      clear hdec
      refine (decode_no _ _ _ _ _ (own_row O5.out).1 Hdec.out).mono ?_
      rintro e w3 ⟨rfl, hb⟩
      have R3 := Lib.hid (row_below (own_row O5.out).1 hb (Nat.le_refl _))
      have B3 := Lib.hid (B2.out.trans (hb.mono B2.out.size))
      clear hb
      go_wp2_with fail
      have B4 := Lib.hid (B3.out.alloc B3.out.size (.cells #[.int .i64 0, .slice none 0 0, .slice none 0 0] 25))
      have hal := (Below.refl w3.heap.size w3).alloc (Nat.le_refl _) (.cells #[.int .i64 0, .slice none 0 0, .slice none 0 0] 25)
      have R4 := Lib.hid (row_below R3.out hal (Nat.le_refl _))
      have HX4 : Hid (Bx w3 (.cells #[.int .i64 0, .slice none 0 0, .slice none 0 0] 25) (w3.alloc (.cells #[.int .i64 0, .slice none 0 0, .slice none 0 0] 25))) := Bx.refl _ _
      clear hal
      refine (refdecode_no _ _ _ _ l0 (row_below HB.out B4.out (Nat.le_refl _)) Hn.out Hdec.out).mono ?_
      rintro e w5 ⟨rfl, hb⟩
      have R5 := Lib.hid (row_below R4.out hb (Nat.le_refl _))
      have B5 := Lib.hid (B4.out.trans (hb.mono B4.out.size))
      have HX5 := Lib.hid (HX4.out.next hb (Nat.le_refl _))
      have hal := (Below.refl w5.heap.size w5).alloc (Nat.le_refl _) (.cells #[.int .i64 0, .slice none 0 0, .slice none 0 0] 25)
      have HX6 := Lib.hid (HX5.out.next (hal.mono (Nat.le_refl _)) (Nat.le_refl _))
      obtain ⟨c1, c2, c3⟩ := HX6.out.cells
      clear hb hal
      have hse := str_back l0
      go_wp2_with (go_at_call 21; refine (same_yes _ zero none 0 0 none 0 0 none 0 0 none 0 0 (zero_at _) (zero_at _) (by omega) (by omega)).mono ?_; rintro e v2 ⟨rfl, hb⟩
                   have hal := (Below.refl w5.heap.size w5).alloc (Nat.le_refl _) (.cells #[.int .i64 0, .slice none 0 0, .slice none 0 0] 25)
                   have hc1 := run_string_bytes (row_below (row_below R5.out hal (Nat.le_refl _)) hb (Nat.le_refl _))
                   have B6 := B5.out.trans (hal.mono B5.out.size)
                   have BE := Lib.hid (B6.trans (hb.mono B6.size))
                   have hc2 := run_string_bytes (row_below HB.out BE.out (Nat.le_refl _))
                   clear hb hal B6)
      go_ret
      exact ⟨rfl, BE.out⟩
    | some r =>
      have Hdec := Lib.hid hdec
      clear hdec
      refine (decode_ok _ _ _ _ _ r (own_row O5.out).1 Hdec.out).mono ?_
      rintro e w3 ⟨aN, nN, cN, aT, nT, cT, rfl, ho, hb⟩
      have R3 := Lib.hid (row_below (own_row O5.out).1 hb (Nat.le_refl _))
      have B3 := Lib.hid (B2.out.trans (hb.mono B2.out.size))
      have HA3 := Lib.hid ho.at
      have hmay := (M.enc_dec Hdec.out).1
      have hnN : nN ≤ 1000000 := by have := ho.at.lenN; have := hmay.2.2.1; omega
      have hnT : nT ≤ 1000000 := by have := ho.at.lenT; have := hmay.2.2.2.1; omega
      have HlN := Lib.hid hnN
      have HlT := Lib.hid hnT
      clear hmay hnN hnT
      clear ho hb
      go_wp2_with fail
      have B4 := Lib.hid (B3.out.alloc B3.out.size (.cells #[.int .i64 r.kind, .slice aN nN cN, .slice aT nT cT] 25))
      have hal := (Below.refl w3.heap.size w3).alloc (Nat.le_refl _) (.cells #[.int .i64 r.kind, .slice aN nN cN, .slice aT nT cT] 25)
      have R4 := Lib.hid (row_below R3.out hal (Nat.le_refl _))
      have HX4 : Hid (Bx w3 (.cells #[.int .i64 r.kind, .slice aN nN cN, .slice aT nT cT] 25) (w3.alloc (.cells #[.int .i64 r.kind, .slice aN nN cN, .slice aT nT cT] 25))) := Bx.refl _ _
      clear hal
      refine (refdecode_ok _ _ _ _ l0 r (row_below HB.out B4.out (Nat.le_refl _)) Hn.out Hdec.out).mono ?_
      rintro e w5 ⟨bN, mN, dN, bT, mT, dT, rfl, ho, hb⟩
      have R5 := Lib.hid (row_below R4.out hb (Nat.le_refl _))
      have B5 := Lib.hid (B4.out.trans (hb.mono B4.out.size))
      have HX5 := Lib.hid (HX4.out.next hb (Nat.le_refl _))
      have hal := (Below.refl w5.heap.size w5).alloc (Nat.le_refl _) (.cells #[.int .i64 r.kind, .slice bN mN dN, .slice bT mT dT] 25)
      have HS := Lib.hid (ho.at.below hal (Nat.le_refl _))
      have HX6 := Lib.hid (HX5.out.next (hal.mono (Nat.le_refl _)) (Nat.le_refl _))
      have HR6 := Lib.hid (HX6.out.rec HA3.out)
      have R6 := Lib.hid (row_below R5.out hal (Nat.le_refl _))
      have B6 := Lib.hid (B5.out.trans (hal.mono B5.out.size))
      obtain ⟨c1, c2, c3⟩ := HX6.out.cells
      have hse := str_back l0
      clear ho hb hal
      go_wp2_with (go_at_call 21; refine (same_yes _ r _ _ _ _ _ _ _ _ _ _ _ _ HR6.out HS.out HlN.out HlT.out).mono ?_; rintro e v2 ⟨rfl, hb⟩
                   have hc1 := run_string_bytes (row_below R6.out hb (Nat.le_refl _))
                   have BE := Lib.hid (B6.out.trans (hb.mono B6.out.size))
                   have hc2 := run_string_bytes (row_below HB.out BE.out (Nat.le_refl _))
                   clear hb)
      go_ret
      exact ⟨rfl, BE.out⟩

set_option maxRecDepth 100000 in
theorem lifted (os : Os) (started : os.Started) (H : Type) (enc : TypeId × Value → H) :
    ReturnsInHanded {} Try.checked os 4 .any (Rows.codeDecodesSpec.pre6 enc Try.prog Try.f4 Rows.codeDecodesRow.domain false) (Rows.codeDecodesSpec.post enc Try.prog Try.f4 false true false false) := by
  refine returnsInHanded_of_change (C := Try.checked) own started (by kernel_rfl) Try.func4
    (ChangeSpec.witness6 (enc := enc) (C := Try.checked) false ⟨#[], #[.slice none 0 0], []⟩ 8 (by kernel_rfl) (by kernel_rfl) (by kernel_rfl) (by kernel_rfl)) ?_
  intro W base args ds gs before hval0 hW hcnd _
  have hval : ∀ (j : Nat) t v, Try.f4.params[j]? = some t → args[j]? = some v → Value.okWide Try.prog W .any base t v := hval0
  have hW' := hW
  obtain ⟨p, q, hA0, hV, rfl, hfz, hnd⟩ := hW
  have hA : DataW.TrodAll enc Try.prog W 0 (fun _ => true) true Try.f4.params.toList args.toList ds p := hA0
  rw [Try.params4] at hA hval
  obtain ⟨v0, vs0, d0, ds0, p0, q0, hargs, rfl, rfl, h0, r0'⟩ := trodAll_cons hA
  obtain ⟨rfl, rfl, rfl⟩ := trodAll_nil r0'
  obtain rfl : args = #[v0] := by cases args; simp_all
  obtain ⟨rfl, rfl⟩ := trodVars_none hV
  have k0 := h0
  have lt0 : ∀ x ∈ p0, x.block < W.heap.size := by obtain ⟨m, hm⟩ := k0; exact DataW.trod_lt m _ _ _ hm
  obtain ⟨a0, n0, c0, l0, rfl, w0⟩ := open_bytes (hval 0 28 v0 rfl rfl) h0
  clear hA0 hval0
  refine (walk a0 n0 c0 l0 W w0).mono fun e W' ⟨he, bel⟩ => ?_
  subst he
  exact ⟨_, rfl, _, _, _, [], _, [], hW', trodAll_mk1 (shut_bool Try.underlying4 _), (trodAll_cons_mk (Below.trod laidOut (by kernel_rfl) (of_decide_eq_true (by kernel_rfl)) k0 bel lt0) trodAll_mk0), rfl, bel.frame _, fun h => by cases h⟩

theorem over : Rows.codeDecodesRow.holds Try.pinned (OpenSpec.ofChange Rows.codeDecodesSpec) :=
  OpenClaim.holds_of_wide 4 Try.f4 rfl rfl rfl rfl rfl rfl rfl ⟨rfl, rfl, rfl, rfl, rfl⟩ rfl rfl rfl rfl rfl (by kernel_rfl) Try.func4 (by kernel_rfl)
    (of_decide_eq_true (by kernel_rfl)) (by unfold Func.isWrapper; first | (rw [if_pos (by decide +kernel)]; kernel_rfl) | (rw [if_neg (by decide +kernel)]; exact ⟨rfl, rfl⟩))
    (fun os started H enc _ => lifted os started H enc)

/-- the statement -/
theorem proved : Rows.CodeDecodesSaid := over
#print axioms proved
end Go.Proofs.Ytdakfhoadfbfiaa.codeDecodes
