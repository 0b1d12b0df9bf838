/-
  PROVED: the sums of three rows of one length, told apart bit by bit, are the sum of the three told apart. CONDITIONS: none (any three rows).
-/
import Derived.Test.YtoaebaglahhpbaaRows
import Derived.Test.YtoaebaglahhpbaaBytes
import Derived.WalkKit
import Derived.RegionTactic
import Derived.ChangeAlike
import Derived.Deep.RegionLaw
import Derived.Deep.QuietTactic
import Derived.BigQuiet
import Derived.ProofKit
import Derived.OpenShut
import Derived.ShutString
import Derived.ChangeOld
import Derived.Below
namespace Go.Proofs.Ytoaebaglahhpbaa.crcRows
open Go.ChangeShapes Go.WideShapes Go.ChangeAt Go.RowKit
open Go.ChangeMaps (open_string shut_string)
set_option linter.unusedVariables false

theorem own : ownKnob Try.prog.godebug = none := by kernel_rfl
theorem laidOut : laidOutB Try.prog = true := by kernel_rfl

/-- WHAT THE WALK IS TOLD OF A SLICE OF INTEGERS THAT CAME IN: it is nil; or it leads to a row of 'cap' cells, the numbers 'zs' (the first 'len' are its elements, the rest its spare room), each fitting its kind. -/
def IsRow (k : IntKind) (w : World) (a : Option Addr) (len cap : Nat) (zs : List Int) : Prop :=
  (a = none ∧ len = 0 ∧ cap = 0 ∧ zs = []) ∨
  ∃ x, a = some x ∧ len ≤ cap ∧ cap ≤ maxLen ∧ zs.length = cap ∧ (∀ i, i < zs.length → w.cell? (x.add i) = some (.int k (zs.getD i 0))) ∧ ∀ n ∈ zs, (Lit.int k n).wf = true

/-! ### STEP 1: THE WALK: the Go text returns true, AND WRITES NOTHING THAT WAS THERE: 'Below w.heap.size w w'' (Derived/Below.lean: '.refl', '.alloc', '.drew', '.setCell' at a new block, '.trans'). Open each 'IsRow' by 'rcases' AHEAD of 'go_enter'; part every test ahead of the walk. -/
theorem walk (a0 : Option Addr) (len0 cap0 : Nat) (z0 : List Int) (a1 : Option Addr) (len1 cap1 : Nat) (z1 : List Int) (a2 : Option Addr) (len2 cap2 : Nat) (z2 : List Int) (w : World) (w0 : IsRow .u8 w a0 len0 cap0 z0) (w1 : IsRow .u8 w a1 len1 cap1 z1) (w2 : IsRow .u8 w a2 len2 cap2 z2) :
    Calls Try.prog 7 #[.slice a0 len0 cap0, .slice a1 len1 cap1, .slice a2 len2 cap2] w fun e w' => e = .returned (.bool true) ∧ Below w.heap.size w w' := by
  have hr0 := part_of w0
  have hr1 := part_of w1
  have hr2 := part_of w2
  clear w0 w1 w2
  have hmin : ∃ n, n = min (min (min len0 len1) len2) 16384 := ⟨_, rfl⟩
  obtain ⟨n, hn⟩ := hmin
  have hn0 : n ≤ len0 := by omega
  have hn1 : n ≤ len1 := by omega
  have hn2 : n ≤ len2 := by omega
  have hn3 : n ≤ 16384 := by omega
  have kmin : ∀ w : World, (Builtin.min_ #[3, 3, 3, 3] 3 #[.int .i64 (len0 : Int), .int .i64 (len1 : Int), .int .i64 (len2 : Int), .int .i64 16384]).run Try.prog w = .ok (.int .i64 (n : Int)) w := by
    intro w
    have e : (if (16384 : Int) < (if (len2 : Int) < (if (len1 : Int) < (len0 : Int) then (len1 : Int) else (len0 : Int)) then (len2 : Int) else (if (len1 : Int) < (len0 : Int) then (len1 : Int) else (len0 : Int))) then (16384 : Int) else (if (len2 : Int) < (if (len1 : Int) < (len0 : Int) then (len1 : Int) else (len0 : Int)) then (len2 : Int) else (if (len1 : Int) < (len0 : Int) then (len1 : Int) else (len0 : Int)))) = (n : Int) := by
      subst hn
      repeat' split
      all_goals omega
    rw [← e]
    simp [Builtin.min_, Builtin.min2]
  clear hn
  have Hr0 := Lib.hid hr0
  have Hr1 := Lib.hid hr1
  have Hr2 := Lib.hid hr2
  clear hr0 hr1 hr2
  go_enter Try.func7, Try.ntmps7
  go_wp2_with (first
        | (go_at_call 11
           refine (awake_any _).mono ?_
           rintro e w1 ⟨rfl, hb⟩
           have hs1 := hb.size
           have Hown := Lib.hid (own_empty w1 w.heap.size hs1)
           have Hb1 := Lib.hid (hb.alloc hs1 (.cells #[] 5))
           clear hb))
  clear kmin
  have hlim : (n : Int) ≤ 16384 := by omega
  generalize z0.take len0 = x at *
  generalize z1.take len1 = y at *
  generalize z2.take len2 = z at *
  go_loopw [8, 9] (fun d i wr => ∃ (k : Nat) (a : Option Addr) (cap : Nat), k ≤ n ∧ i = .int .i64 k ∧ d = .slice a k cap ∧ Below w.heap.size w wr ∧ Own wr w.heap.size a k cap ((List.range k).map (three x y z))) (fun _ i _ => n - (intOf i).toNat)
  case atStart => exact ⟨0, _, 0, by omega, rfl, rfl, Hb1.out, Hown.out⟩
  case round =>
    obtain ⟨k, a, cap, hk, rfl, rfl, hbw, hown⟩ := hrel
    by_cases hlt : k < n
    · obtain ⟨x1, x2, x3, x4⟩ := Hr0.out
      obtain ⟨y1, y2, y3, y4⟩ := Hr1.out
      obtain ⟨z1, z2, z3, z4⟩ := Hr2.out
      rcases x4 with x4 | ⟨b0, o0, rfl, x5, x6⟩
      · omega
      rcases y4 with y4 | ⟨b1, o1, rfl, y5, y6⟩
      · omega
      rcases z4 with z4 | ⟨b2, o2, rfl, z5, z6⟩
      · omega
      have hx : wr.cell? ⟨b0, o0 + k, none⟩ = some (.int .u8 (x.getD k 0)) := by rw [hbw.cell (p := ⟨b0, o0 + k, none⟩) x5]; exact x6 k (by omega)
      have hy : wr.cell? ⟨b1, o1 + k, none⟩ = some (.int .u8 (y.getD k 0)) := by rw [hbw.cell (p := ⟨b1, o1 + k, none⟩) y5]; exact y6 k (by omega)
      have hz : wr.cell? ⟨b2, o2 + k, none⟩ = some (.int .u8 (z.getD k 0)) := by rw [hbw.cell (p := ⟨b2, o2 + k, none⟩) z5]; exact z6 k (by omega)
      have hv := three_range x y z k x3 y3 z3 (by omega) (by omega) (by omega)
      have Hnext := Lib.hid (range_next x y z k)
      have Hv := Lib.hid hv
      clear hv x1 x3 x6 y1 y3 y6 z1 z3 z6
      have Hbw := Lib.hid hbw
      have Hown' := Lib.hid hown
      clear hbw hown
      have hkI : (k : Int) < (n : Int) := by omega
      have hk0 : (k : Int) < (len0 : Int) := by omega
      have hk1 : (k : Int) < (len1 : Int) := by omega
      have hk2 : (k : Int) < (len2 : Int) := by omega
      have hk3 : (0 : Int) ≤ (k : Int) := by omega
      go_wp2_with fail
      go_region_law ((refine step_append_bytes _ rfl (.tmp 25) (.tmp 40) rfl w.heap.size a k cap _ rfl (own_drew (own_alloc Hown'.out _)) _ 1 1 _ rfl (row_drew (row_one wr _ Hv.out)) (k + 1) rfl _ Hnext.out (by omega) (by have := Hbw.out.size; simp; omega) ?_; intro a' cap' w' hown' hb'))
      all_goals
        have Hb' := Lib.hid (((Hbw.out.alloc Hbw.out.size (.cells #[.int .u8 (bits .xor .u8 (bits .xor .u8 (x[k]?.getD 0) (y[k]?.getD 0)) (z[k]?.getD 0))] 5)).drew).trans hb')
        have Ho' := Lib.hid hown'
        clear hown' hb'
        go_wp2_with fail
        go_roundw
        case rel => exact ⟨k + 1, a', cap', by omega, by go_num, rfl, Hb'.out, Ho'.out⟩
        case measure => simp [intOf]; omega
    · obtain rfl : k = n := by omega
      have hc0 : (k : Int) ≤ (cap0 : Int) := by have := Hr0.out.2.1; omega
      have hc1 : (k : Int) ≤ (cap1 : Int) := by have := Hr1.out.2.1; omega
      have hc2 : (k : Int) ≤ (cap2 : Int) := by have := Hr2.out.2.1; omega
      have hk3 : (0 : Int) ≤ (k : Int) := by omega
      have Hx := Lib.hid (row_below (part_row Hr0.out hn0 (by omega)) (Nat.le_refl _) hbw)
      have Hy := Lib.hid (row_below (part_row Hr1.out hn1 (by omega)) (Nat.le_refl _) hbw)
      have Hz := Lib.hid (row_below (part_row Hr2.out hn2 (by omega)) (Nat.le_refl _) hbw)
      have Hd := Lib.hid (own_row hown)
      have Hm := Lib.hid (more_rows x y z k (by have := Hr0.out.1; omega) (by have := Hr1.out.1; omega) (by have := Hr2.out.1; omega) Hr0.out.2.2.1 Hr1.out.2.2.1 Hr2.out.2.2.1)
      have Hbw := Lib.hid hbw
      clear hbw hown
      go_wp2_with fail
      go_quiet ((first
        | (go_at_call 12; with_reducible exact sum_quiet Hd.out)
        | (go_at_call 12; with_reducible exact sum_quiet Hx.out)
        | (go_at_call 12; with_reducible exact sum_quiet Hy.out)
        | (go_at_call 12; with_reducible exact sum_quiet Hz.out)))
      go_wp2
      go_ret
      exact ⟨ret_true (by simp only [xor_u32, ofInt_toNat]; rw [Hm.out]; simp), Hbw.out.trans ⟨rfl, rfl, rfl, Nat.le_refl _, fun _ _ => rfl⟩⟩

/-! ### THE ROW's STEP: WRITTEN OUT: LEAVE IT -/
set_option maxRecDepth 100000 in
theorem lifted (os : Os) (started : os.Started) (H : Type) (enc : TypeId × Value → H) :
    ReturnsInHanded {} Try.checked os 7 .any (Rows.crcRowsSpec.pre6 enc Try.prog Try.f7 Rows.crcRowsRow.domain false) (Rows.crcRowsSpec.post enc Try.prog Try.f7 false true false false) := by
  refine returnsInHanded_of_change (C := Try.checked) own started (by kernel_rfl) Try.func7
    (ChangeSpec.witness6 (enc := enc) (C := Try.checked) false ⟨#[], #[.slice none 0 0, .slice none 0 0, .slice none 0 0], []⟩ 8 (by kernel_rfl) (by kernel_rfl) (by kernel_rfl) (by kernel_rfl)) ?_
  intro W base args ds gs before hval0 hW hcnd _
  have hval : ∀ (j : Nat) t v, Try.f7.params[j]? = some t → args[j]? = some v → Value.okWide Try.prog W .any base t v := hval0
  have hW' := hW
  obtain ⟨p, q, hA0, hV, rfl, hfz, hnd⟩ := hW
  have hA : DataW.TrodAll enc Try.prog W 0 (fun _ => true) true Try.f7.params.toList args.toList ds p := hA0
  rw [Try.params7] at hA hval
  obtain ⟨v0, vs0, d0, ds0, p0, q0, hargs, rfl, rfl, h0, r0⟩ := trodAll_cons hA
  obtain ⟨v1, vs1, d1, ds1, p1, q1, rfl, rfl, rfl, h1, r1⟩ := trodAll_cons r0
  obtain ⟨v2, vs2, d2, ds2, p2, q2, rfl, rfl, rfl, h2, r2⟩ := trodAll_cons r1
  obtain ⟨rfl, rfl, rfl⟩ := trodAll_nil r2
  obtain rfl : args = #[v0, v1, v2] := by cases args; simp_all
  obtain ⟨rfl, rfl⟩ := trodVars_none hV
  obtain ⟨a0, len0, cap0, rfl⟩ := okWide_slice Try.underlying22 (hval 0 22 v0 rfl rfl)
  have k0 := h0
  have lt0 : ∀ x ∈ p0, x.block < W.heap.size := by obtain ⟨m, hm⟩ := k0; exact DataW.trod_lt m _ _ _ hm
  obtain ⟨z0, w0⟩ : ∃ zs, IsRow .u8 W a0 len0 cap0 zs := by
    obtain ⟨fuel, hf⟩ := h0
    rcases open_ints Try.underlying22 Try.underlying5 (by kernel_rfl) hf with ⟨hcs, _⟩ | ⟨x, l, c, zs, hcs, _, hl, hm, hz, _, hcell, hwz⟩
    · simp [Value.cells] at hcs
      obtain ⟨rfl, rfl, rfl⟩ := hcs
      exact ⟨[], .inl ⟨rfl, rfl, rfl, rfl⟩⟩
    · simp [Value.cells] at hcs
      obtain ⟨rfl, rfl, rfl⟩ := hcs
      exact ⟨zs, .inr ⟨_, rfl, hl, hm, by simpa using hz, hcell, hwz⟩⟩
  obtain ⟨a1, len1, cap1, rfl⟩ := okWide_slice Try.underlying22 (hval 1 22 v1 rfl rfl)
  have k1 := h1
  have lt1 : ∀ x ∈ p1, x.block < W.heap.size := by obtain ⟨m, hm⟩ := k1; exact DataW.trod_lt m _ _ _ hm
  obtain ⟨z1, w1⟩ : ∃ zs, IsRow .u8 W a1 len1 cap1 zs := by
    obtain ⟨fuel, hf⟩ := h1
    rcases open_ints Try.underlying22 Try.underlying5 (by kernel_rfl) hf with ⟨hcs, _⟩ | ⟨x, l, c, zs, hcs, _, hl, hm, hz, _, hcell, hwz⟩
    · simp [Value.cells] at hcs
      obtain ⟨rfl, rfl, rfl⟩ := hcs
      exact ⟨[], .inl ⟨rfl, rfl, rfl, rfl⟩⟩
    · simp [Value.cells] at hcs
      obtain ⟨rfl, rfl, rfl⟩ := hcs
      exact ⟨zs, .inr ⟨_, rfl, hl, hm, by simpa using hz, hcell, hwz⟩⟩
  obtain ⟨a2, len2, cap2, rfl⟩ := okWide_slice Try.underlying22 (hval 2 22 v2 rfl rfl)
  have k2 := h2
  have lt2 : ∀ x ∈ p2, x.block < W.heap.size := by obtain ⟨m, hm⟩ := k2; exact DataW.trod_lt m _ _ _ hm
  obtain ⟨z2, w2⟩ : ∃ zs, IsRow .u8 W a2 len2 cap2 zs := by
    obtain ⟨fuel, hf⟩ := h2
    rcases open_ints Try.underlying22 Try.underlying5 (by kernel_rfl) hf with ⟨hcs, _⟩ | ⟨x, l, c, zs, hcs, _, hl, hm, hz, _, hcell, hwz⟩
    · simp [Value.cells] at hcs
      obtain ⟨rfl, rfl, rfl⟩ := hcs
      exact ⟨[], .inl ⟨rfl, rfl, rfl, rfl⟩⟩
    · simp [Value.cells] at hcs
      obtain ⟨rfl, rfl, rfl⟩ := hcs
      exact ⟨zs, .inr ⟨_, rfl, hl, hm, by simpa using hz, hcell, hwz⟩⟩
  clear hA0 hval0
  refine (walk a0 len0 cap0 z0 a1 len1 cap1 z1 a2 len2 cap2 z2 W w0 w1 w2).mono fun e W' ⟨he, bel⟩ => ?_
  subst he
  exact ⟨_, rfl, _, _, _, [], _, [], hW', trodAll_mk1 (shut_bool Try.underlying4 _), (trodAll_cons_mk (Below.trod laidOut (by kernel_rfl) (of_decide_eq_true (by kernel_rfl)) k0 bel lt0) (trodAll_cons_mk (Below.trod laidOut (by kernel_rfl) (of_decide_eq_true (by kernel_rfl)) k1 bel lt1) (trodAll_cons_mk (Below.trod laidOut (by kernel_rfl) (of_decide_eq_true (by kernel_rfl)) k2 bel lt2) trodAll_mk0))), rfl, bel.frame _, fun h => by cases h⟩

theorem over : Rows.crcRowsRow.holds Try.pinned (OpenSpec.ofChange Rows.crcRowsSpec) :=
  OpenClaim.holds_of_wide 7 Try.f7 rfl rfl rfl rfl rfl rfl rfl ⟨rfl, rfl, rfl, rfl, rfl⟩ rfl rfl rfl rfl rfl (by kernel_rfl) Try.func7 (by kernel_rfl)
    (of_decide_eq_true (by kernel_rfl)) (by unfold Func.isWrapper; first | (rw [if_pos (by decide +kernel)]; kernel_rfl) | (rw [if_neg (by decide +kernel)]; exact ⟨rfl, rfl⟩))
    (fun os started H enc _ => lifted os started H enc)

/-- ████ THE STATEMENT ████ -/
theorem proved : Rows.CrcRowsSaid := over
#print axioms proved
end Go.Proofs.Ytoaebaglahhpbaa.crcRows
