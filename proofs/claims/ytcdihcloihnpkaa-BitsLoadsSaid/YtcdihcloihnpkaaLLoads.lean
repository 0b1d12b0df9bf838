/-
  PROVED: which row any text is, or that it is none, is as the document says. CONDITIONS: none (any text, any place).
-/
import Derived.Test.YtcdihcloihnpkaaBLaw
import Derived.Test.YtcdihcloihnpkaaBRef6
namespace Go.Proofs.Ytcdihcloihnpkaa.bitsLoads
open Go.ChangeShapes Go.WideShapes Go.ChangeAt Go.RowKit Go.Joins B
open Go.ChangeMaps (open_string shut_string)
set_option linter.unusedVariables false
set_option linter.unusedSimpArgs false
set_option maxRecDepth 20000


set_option maxHeartbeats 4000000 in
theorem walk (s0 : ByteArray) (x1 : Int) (w : World) (w0 : s0.size ≤ maxLen) (w1 : (Lit.int .i64 x1).wf = true) :
    Calls Try.prog 4 #[.string s0, .int .i64 x1] w fun e w' => e = .returned (.bool true) ∧ Below w.heap.size w w' := by
  obtain ⟨hi1, hi2⟩ := wf_i64 w1
  by_cases hbig : 4096 < s0.size
  · have hbI : (4096 : Int) < (s0.size : Int) := by omega
    clear w0 w1
    go_enter Try.func4, Try.ntmps4
    go_wp2_with (go_at_call 10; refine (awake_any _).mono ?_; rintro e w1 ⟨rfl, hb⟩)
    go_ret
    exact ⟨rfl, by assumption⟩
  have hbI : decide ((4096 : Int) < (s0.size : Int)) = false := by simp; omega
  have hl := fun w => load_any s0 w w0
  have hr := fun w => rload_any s0 w (by omega)
  obtain ⟨hn, hm⟩ := M.load_ok s0.data.toList
  unfold V at hl
  generalize M.loadN s0.data.toList = n at *
  generalize M.loadM s0.data.toList = m at *
  generalize M.loadE s0.data.toList = f at *
  have HL := fun w => Lib.hid (hl w)
  have HR := fun w => Lib.hid (hr w)
  have hs := fun w => same_yes n m x1 w hn hm
  unfold V at hs
  have HS := fun w => Lib.hid (hs w)
  have hff : (f == f) = true := by simp
  clear hl hr hs hm hbig w0 w1
  go_enter Try.func4, Try.ntmps4
  go_wp2_with (first
    | (go_at_call 10; ((with_reducible refine (awake_any _).mono ?_); rintro e w1 ⟨rfl, hb⟩); have B1 := Lib.hid hb; clear hb)
    | (go_at_call 19; ((with_reducible refine (HL _).out.mono ?_); rintro e w2 ⟨rfl, hb⟩); have B2 := Lib.hid (below_up B1.out hb B1.out.size); have A2 := Lib.hid (at_new w2 n m); have C2 := Lib.hid (B2.out.alloc B2.out.size (.cells #[.int .i64 (n : Int), .int .u64 (m : Int)] 26)); clear hb)
    | (go_at_call 20; ((with_reducible refine (HR _).out.mono ?_); rintro e w3 ⟨rfl, hb⟩); have A3 := Lib.hid (A2.out.below hb A2.out.lt); have B3 := Lib.hid (below_up C2.out hb C2.out.size); clear hb)
    | (refine wpList_alloc30 rfl rfl ?_; intro w4 hw4; have R4 := Lib.hid (hw4 ▸ rat_new w3 0 0 : RAt w4 w3.heap.size 0 0); have A4 := Lib.hid (hw4 ▸ A3.out.alloc _ : At w4 w2.heap.size n m); have B4 := Lib.hid (hw4 ▸ B3.out.alloc B3.out.size _ : Below w.heap.size w w4); have hlt := A3.out.lt; have hsz := B3.out.size; clear hw4)
    | (refine wpList_store30 rfl _ _ rfl w3.heap.size rfl rfl R4.out.there ?_; intro w5 hw5; have R5 := Lib.hid (hw5 ▸ R4.out.store n m : RAt w5 w3.heap.size n m); have A5 := Lib.hid (hw5 ▸ A4.out.of_block (heap_setCells _ _ _ _ _ (by omega)) : At w5 w2.heap.size n m); have B5 := Lib.hid (hw5 ▸ below_setCells hsz _ _ B4.out : Below w.heap.size w w5); have d0 := A5.out.c0; have d1 := A5.out.c1; clear hw5)
    | (refine wpList_load30g (by rfl) _ rfl w3.heap.size rfl R5.out ?_)
    | (go_at_call 18; ((with_reducible refine (HS _).out.mono ?_); rintro e w6 ⟨rfl, hb⟩); have B6 := Lib.hid (below_up B5.out hb B5.out.size); clear hb))
  go_ret
  exact ⟨rfl, B6.out⟩

set_option maxRecDepth 100000 in
theorem lifted (os : Os) (started : os.Started) (H : Type) (enc : TypeId × Value → H) :
    ReturnsInHanded {} Try.checked os 4 .any (Rows.bitsLoadsSpec.pre6 enc Try.prog Try.f4 Rows.bitsLoadsRow.domain false) (Rows.bitsLoadsSpec.post enc Try.prog Try.f4 false true false false) := by
  refine returnsInHanded_of_change (C := Try.checked) own started (by kernel_rfl) Try.func4
    (ChangeSpec.witness6 (enc := enc) (C := Try.checked) false ⟨#[], #[.string ⟨#[]⟩, .int .i64 0], []⟩ 8 (by kernel_rfl) (by kernel_rfl) (by kernel_rfl) (by kernel_rfl)) ?_
  intro W base args ds gs before hval0 hW hcnd _
  have hval : ∀ (j : Nat) t v, Try.f4.params[j]? = some t → args[j]? = some v → Value.okWide Try.prog W .any base t v := hval0
  have hW' := hW
  obtain ⟨p, q, hA0, hV, rfl, hfz, hnd⟩ := hW
  have hA : DataW.TrodAll enc Try.prog W 0 (fun _ => true) true Try.f4.params.toList args.toList ds p := hA0
  rw [Try.params4] at hA hval
  obtain ⟨v0, vs0, d0, ds0, p0, q0, hargs, rfl, rfl, h0, r0'⟩ := trodAll_cons hA
  obtain ⟨v1, vs1, d1, ds1, p1, q1, rfl, rfl, rfl, h1, r1'⟩ := trodAll_cons r0'
  obtain ⟨rfl, rfl, rfl⟩ := trodAll_nil r1'
  obtain rfl : args = #[v0, v1] := by cases args; simp_all
  obtain ⟨rfl, rfl⟩ := trodVars_none hV
  obtain ⟨s0, rfl, rfl, rfl, w0⟩ := open_string Try.underlying9 (hval 0 9 v0 rfl rfl) h0
  obtain ⟨x1, rfl, rfl, rfl, w1⟩ := open_int Try.underlying3 (hval 1 3 v1 rfl rfl) h1
  clear hA0 hval0
  refine (walk s0 x1 W w0 w1).mono fun e W' ⟨he, bel⟩ => ?_
  subst he
  exact ⟨_, rfl, _, _, _, [], _, [], hW', trodAll_mk1 (shut_bool Try.underlying4 _), (trodAll_cons_mk (shut_string Try.underlying9 w0) (trodAll_cons_mk (shut_int Try.underlying3 w1) trodAll_mk0)), rfl, bel.frame _, fun h => by cases h⟩

theorem over : Rows.bitsLoadsRow.holds Try.pinned (OpenSpec.ofChange Rows.bitsLoadsSpec) :=
  OpenClaim.holds_of_wide 4 Try.f4 rfl rfl rfl rfl rfl rfl rfl ⟨rfl, rfl, rfl, rfl, rfl⟩ rfl rfl rfl rfl rfl (by kernel_rfl) Try.func4 (by kernel_rfl)
    (of_decide_eq_true (by kernel_rfl)) (by unfold Func.isWrapper; first | (rw [if_pos (by decide +kernel)]; kernel_rfl) | (rw [if_neg (by decide +kernel)]; exact ⟨rfl, rfl⟩))
    (fun os started H enc _ => lifted os started H enc)

/-- the statement -/
theorem proved : Rows.BitsLoadsSaid := over
#print axioms proved
end Go.Proofs.Ytcdihcloihnpkaa.bitsLoads
