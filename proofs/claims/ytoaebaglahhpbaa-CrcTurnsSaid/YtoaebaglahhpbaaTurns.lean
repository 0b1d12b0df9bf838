/-
  PROVED: one bit that is turned makes another sum, and turned back it is as before. CONDITIONS: none (any bytes, any place).
-/
import Derived.Test.YtoaebaglahhpbaaRows
import Derived.Test.YtoaebaglahhpbaaBytes
import Derived.WalkKit
import Derived.RegionTactic
import Derived.ChangeAlike
import Derived.ProofKit
import Derived.OpenShut
import Derived.ShutString
import Derived.ChangeOld
import Derived.Below
namespace Go.Proofs.Ytoaebaglahhpbaa.crcTurns
open Go.ChangeShapes Go.WideShapes Go.ChangeAt Go.RowKit
open Go.ChangeMaps (open_string shut_string)
set_option linter.unusedVariables false

theorem own : ownKnob Try.prog.godebug = none := by kernel_rfl
theorem laidOut : laidOutB Try.prog = true := by kernel_rfl

/-- WHAT THE WALK IS TOLD OF A SLICE OF INTEGERS THAT CAME IN: it is nil; or it leads to a row of 'cap' cells, the numbers 'zs' (the first 'len' are its elements, the rest its spare room), each fitting its kind. -/
def IsRow (k : IntKind) (w : World) (a : Option Addr) (len cap : Nat) (zs : List Int) : Prop :=
  (a = none ∧ len = 0 ∧ cap = 0 ∧ zs = []) ∨
  ∃ x, a = some x ∧ len ≤ cap ∧ cap ≤ maxLen ∧ zs.length = cap ∧ (∀ i, i < zs.length → w.cell? (x.add i) = some (.int k (zs.getD i 0))) ∧ ∀ n ∈ zs, (Lit.int k n).wf = true

/-! ### STEP 1: THE WALK: the Go text returns true, AND WRITES NOTHING THAT WAS THERE: 'Below w.heap.size w w'' (Derived/Below.lean: '.refl', '.alloc', '.drew', '.setCell' at a new block, '.trans'). Open each 'IsRow' by 'rcases' AHEAD of 'go_enter'; part every test ahead of the walk. -/
theorem walk (a0 : Option Addr) (len0 cap0 : Nat) (z0 : List Int) (a1 : Int) (w : World) (w0 : IsRow .u8 w a0 len0 cap0 z0) (w1 : (Lit.int .i64 a1).wf = true) :
    Calls Try.prog 9 #[.slice a0 len0 cap0, .int .i64 a1] w fun e w' => e = .returned (.bool true) ∧ Below w.heap.size w w' := by
  have hwf : -9223372036854775808 ≤ a1 ∧ a1 ≤ 9223372036854775807 := i64_range w1
  obtain ⟨hlo, hhi⟩ := hwf
  by_cases hbig : 16384 < len0
  · have hb1 : (16384 : Int) < (len0 : Int) := by omega
    clear w0 w1
    go_enter Try.func9, Try.ntmps9
    go_wp2_with (go_at_call 11; refine (awake_any _).mono ?_; rintro e w1 ⟨rfl, hb⟩)
    go_ret
    exact ⟨rfl, by assumption⟩
  by_cases hneg : a1 < 0
  · clear w0 w1
    go_enter Try.func9, Try.ntmps9
    go_wp2_with (go_at_call 11; refine (awake_any _).mono ?_; rintro e w1 ⟨rfl, hb⟩)
    go_ret
    exact ⟨rfl, by assumption⟩
  obtain ⟨p, rfl⟩ := Int.eq_ofNat_of_zero_le (show 0 ≤ a1 by omega)
  by_cases hout : len0 ≤ p / 8
  · have hb2 : (len0 : Int) ≤ (p : Int) / 8 := by omega
    clear w0 w1
    go_enter Try.func9, Try.ntmps9
    go_wp2_with (go_at_call 11; refine (awake_any _).mono ?_; rintro e w1 ⟨rfl, hb⟩)
    go_ret
    exact ⟨rfl, by assumption⟩
  · have hr0 := row_of (by omega) w0
    have hb2 : (p : Int) / 8 < (len0 : Int) := by omega
    have hb3 : (p : Int) ≤ 131072 := by omega
    clear w0 w1 hlo hhi hneg
    generalize z0.take len0 = l at *
    have Hr0 := Lib.hid hr0
    clear hr0
    go_enter Try.func9, Try.ntmps9
    go_wp2_with (first
        | (go_at_call 11
           refine (awake_any _).mono ?_
           rintro e w1 ⟨rfl, hb⟩
           have hs1 := hb.size
           have Hown := Lib.hid (own_empty w1 w.heap.size hs1)
           have Hb1 := Lib.hid (hb.alloc hs1 (.cells #[] 5))
           clear hb)
        | (at_builtin
           refine wpList_append_bytes _ rfl (.tmp 24) (.tmp 25) rfl w.heap.size _ 0 0 [] rfl Hown.out a0 len0 cap0 l rfl (row_below Hr0.out (Nat.le_refl _) Hb1.out) len0 (by omega) l rfl (by omega) Hb1.out.size ?_
           intro a2 c2 w2 hown2 hb2
           obtain ⟨g, rfl, hg1, hg2, hg3, hg4, hg5⟩ := own_at hown2 (by omega)
           have hload := hg4 (p / 8) (by omega)
           have hlen := hown2.2.1
           have Hne := Lib.hid (more_turned_ne l p (by omega) hown2.2.2.2)
           have Hsb := Lib.hid (set_back l (p / 8) (turned (l.getD (p / 8) 0) p) (by omega))
           generalize hcv : l.getD (p / 8) 0 = c at *
           have Hcv := Lib.hid hcv
           have Hlen := Lib.hid hlen
           clear hcv hlen
           have hfree := hg5 (p / 8)
           have Hown2 := Lib.hid hown2
           have Hb2 := Lib.hid (Hb1.out.trans hb2)
           clear hown2 hb2 hg4 hg5)
        | (go_at_call 12
           refine (sum_any _ _ _ l _ (own_row Hown2.out)).mono ?_
           rintro e w' ⟨rfl, rfl⟩))
    go_region
    obtain ⟨ho3, hl3, hf3, hb3, hc, ht⟩ := own_flip p c Hown2.out (by omega) Hcv.out
    have Hback := Lib.hid (turned_back c p hc)
    have Hown3 := Lib.hid ho3
    have Hb3 := Lib.hid (Hb2.out.trans hb3)
    clear ho3 hb3 hc ht hload hfree
    have Hne2 := Lib.hid (toNat_bne Hne.out)
    generalize (w2.setCell ⟨g, p / 8, none⟩ (.int .u8 (bits .xor .u8 c ((2 : Int) ^ (p % 8) % 256)))).drew = w3 at *
    have hv : bits .xor .u8 c ((2 : Int) ^ (p % 8) % 256) = turned c p := rfl
    generalize bits .xor .u8 c ((2 : Int) ^ (p % 8) % 256) = v at *
    subst hv
    generalize htv : turned c p = v at *
    have Htv := Lib.hid htv
    clear htv
    go_wp2_with (go_at_call 12; refine (sum_any _ _ _ _ _ (own_row Hown3.out)).mono ?_; rintro e w' ⟨rfl, rfl⟩)
    go_region
    obtain ⟨ho4, hl4, hf4, hb4, _, _⟩ := own_flip p v Hown3.out (by omega) (by rw [List.getD_eq_getElem?_getD, List.getElem?_set_self (by have := Hlen.out; omega)]; rfl)
    rw [Hback.out, Hsb.out] at ho4
    have Hr4 := Lib.hid (own_row ho4)
    have Hb4 := Lib.hid (Hb3.out.trans hb4)
    clear ho4 hb4 hl4 hf4 hl3 hf3
    generalize (w3.setCell ⟨g, p / 8, none⟩ (.int .u8 (bits .xor .u8 v ((2 : Int) ^ (p % 8) % 256)))).drew = w4 at *
    have hne2 := Hne2.out
    go_wp2_with (go_at_call 12; refine (sum_any _ _ _ l _ Hr4.out).mono ?_; rintro e w' ⟨rfl, rfl⟩)
    go_ret
    exact ⟨ret_true (by simp), Hb4.out⟩

/-! ### THE ROW's STEP: WRITTEN OUT: LEAVE IT -/
set_option maxRecDepth 100000 in
theorem lifted (os : Os) (started : os.Started) (H : Type) (enc : TypeId × Value → H) :
    ReturnsInHanded {} Try.checked os 9 .any (Rows.crcTurnsSpec.pre6 enc Try.prog Try.f9 Rows.crcTurnsRow.domain false) (Rows.crcTurnsSpec.post enc Try.prog Try.f9 false true false false) := by
  refine returnsInHanded_of_change (C := Try.checked) own started (by kernel_rfl) Try.func9
    (ChangeSpec.witness6 (enc := enc) (C := Try.checked) false ⟨#[], #[.slice none 0 0, .int .i64 0], []⟩ 8 (by kernel_rfl) (by kernel_rfl) (by kernel_rfl) (by kernel_rfl)) ?_
  intro W base args ds gs before hval0 hW hcnd _
  have hval : ∀ (j : Nat) t v, Try.f9.params[j]? = some t → args[j]? = some v → Value.okWide Try.prog W .any base t v := hval0
  have hW' := hW
  obtain ⟨p, q, hA0, hV, rfl, hfz, hnd⟩ := hW
  have hA : DataW.TrodAll enc Try.prog W 0 (fun _ => true) true Try.f9.params.toList args.toList ds p := hA0
  rw [Try.params9] at hA hval
  obtain ⟨v0, vs0, d0, ds0, p0, q0, hargs, rfl, rfl, h0, r0⟩ := trodAll_cons hA
  obtain ⟨v1, vs1, d1, ds1, p1, q1, rfl, rfl, rfl, h1, r1⟩ := trodAll_cons r0
  obtain ⟨rfl, rfl, rfl⟩ := trodAll_nil r1
  obtain rfl : args = #[v0, v1] := by cases args; simp_all
  obtain ⟨rfl, rfl⟩ := trodVars_none hV
  obtain ⟨a0, len0, cap0, rfl⟩ := okWide_slice Try.underlying22 (hval 0 22 v0 rfl rfl)
  have k0 := h0
  have lt0 : ∀ x ∈ p0, x.block < W.heap.size := by obtain ⟨m, hm⟩ := k0; exact DataW.trod_lt m _ _ _ hm
  obtain ⟨z0, w0⟩ : ∃ zs, IsRow .u8 W a0 len0 cap0 zs := by
    obtain ⟨fuel, hf⟩ := h0
    rcases open_ints Try.underlying22 Try.underlying5 (by kernel_rfl) hf with ⟨hcs, _⟩ | ⟨x, l, c, zs, hcs, _, hl, hm, hz, _, hcell, hwz⟩
    · simp [Value.cells] at hcs
      obtain ⟨rfl, rfl, rfl⟩ := hcs
      exact ⟨[], .inl ⟨rfl, rfl, rfl, rfl⟩⟩
    · simp [Value.cells] at hcs
      obtain ⟨rfl, rfl, rfl⟩ := hcs
      exact ⟨zs, .inr ⟨_, rfl, hl, hm, by simpa using hz, hcell, hwz⟩⟩
  obtain ⟨a1, rfl, rfl, rfl, w1⟩ := open_int Try.underlying3 (hval 1 3 v1 rfl rfl) h1
  clear hA0 hval0
  refine (walk a0 len0 cap0 z0 a1 W w0 w1).mono fun e W' ⟨he, bel⟩ => ?_
  subst he
  exact ⟨_, rfl, _, _, _, [], _, [], hW', trodAll_mk1 (shut_bool Try.underlying4 _), (trodAll_cons_mk (Below.trod laidOut (by kernel_rfl) (of_decide_eq_true (by kernel_rfl)) k0 bel lt0) (trodAll_cons_mk (shut_int Try.underlying3 w1) trodAll_mk0)), rfl, bel.frame _, fun h => by cases h⟩

theorem over : Rows.crcTurnsRow.holds Try.pinned (OpenSpec.ofChange Rows.crcTurnsSpec) :=
  OpenClaim.holds_of_wide 9 Try.f9 rfl rfl rfl rfl rfl rfl rfl ⟨rfl, rfl, rfl, rfl, rfl⟩ rfl rfl rfl rfl rfl (by kernel_rfl) Try.func9 (by kernel_rfl)
    (of_decide_eq_true (by kernel_rfl)) (by unfold Func.isWrapper; first | (rw [if_pos (by decide +kernel)]; kernel_rfl) | (rw [if_neg (by decide +kernel)]; exact ⟨rfl, rfl⟩))
    (fun os started H enc _ => lifted os started H enc)

/-- ████ THE STATEMENT ████ -/
theorem proved : Rows.CrcTurnsSaid := over
#print axioms proved
end Go.Proofs.Ytoaebaglahhpbaa.crcTurns
