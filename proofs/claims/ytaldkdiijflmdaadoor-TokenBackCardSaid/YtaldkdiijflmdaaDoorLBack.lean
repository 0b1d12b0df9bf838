/-
  Two texts, quoted and parted by blanks, are read as just these two words. CONDITIONS: the listed variables of Go's library read as its text lays them (tied to it).
-/
import Derived.Test.YtaldkdiijflmdaaDoorLain
import Derived.Test.YtaldkdiijflmdaaDoorTie
import Derived.Test.YtaldkdiijflmdaaDoorCards
import Derived.ProofKit
import Derived.OpenShut
import Derived.ShutString
import Derived.Lay
import Derived.SevenTiedAt
import Derived.SizedLaws
namespace Go.Proofs.YtaldkdiijflmdaaDoor.tokenBack
open Go.ChangeShapes Go.WideShapes Go.ChangeAt Go.RowKit
open Go.ChangeMaps (open_string shut_string)
set_option linter.unusedVariables false
set_option linter.unusedSimpArgs false
set_option maxRecDepth 20000

theorem walk (a0 : ByteArray) (w0 : a0.size ≤ 140737488351232) (a1 : ByteArray) (w1 : a1.size ≤ 140737488351232) (w : World) (hL : Lain w) :
    Calls Tryd.prog 3 #[.string a0, .string a1] w fun e w' => e = .returned (.bool true) ∧ Below w.heap.size w w' := by
  have HA := Lib.hid (awake_any w hL)
  have HL := Lib.hid hL
  clear hL
  by_cases hb0 : 2048 < a0.size
  · have hI : (2048 : Int) < (a0.size : Int) := by omega
    clear hb0
    go_enter Tryd.func3, Tryd.ntmps3
    go_wp2_with (go_at_call 11; refine HA.out.mono ?_; rintro e w2 ⟨rfl, hb⟩; have HB1 := Lib.hid hb; clear hb)
    go_ret
    exact ⟨rfl, HB1.out⟩
  by_cases hb1 : 2048 < a1.size
  · have hI : ¬ ((2048 : Int) < (a0.size : Int)) := by omega
    have hI1 : (2048 : Int) < (a1.size : Int) := by omega
    clear hb0 hb1
    go_enter Tryd.func3, Tryd.ntmps3
    go_wp2_with (go_at_call 11; refine HA.out.mono ?_; rintro e w2 ⟨rfl, hb⟩; have HB1 := Lib.hid hb; clear hb)
    go_ret
    exact ⟨rfl, HB1.out⟩
  have hI : ¬ ((2048 : Int) < (a0.size : Int)) := by omega
  have hI1 : ¬ ((2048 : Int) < (a1.size : Int)) := by omega
  have HS0 : Hid (a0.size ≤ 20000) := by show a0.size ≤ 20000; omega
  have HS1 : Hid (a1.size ≤ 20000) := by show a1.size ≤ 20000; omega
  clear hb0 hb1 w0 w1
  obtain ⟨Q0, hQ0⟩ : ∃ Q, str (M.quote a0.data.toList) = Q := ⟨_, rfl⟩
  obtain ⟨Q1, hQ1⟩ : ∃ Q, str (M.quote a1.data.toList) = Q := ⟨_, rfl⟩
  have HQ0 := Lib.hid (fun (w1 : World) (hb : Below w.heap.size w w1) => quote_lit a0 Q0 w1 (HL.out.below hb (Nat.le_refl _)).tabs HS0.out hQ0)
  have HQ1 := Lib.hid (fun (w1 : World) (hb : Below w.heap.size w w1) => quote_lit a1 Q1 w1 (HL.out.below hb (Nat.le_refl _)).tabs HS1.out hQ1)
  have hl0 : Q0.data.toList = M.quote a0.data.toList := by rw [← hQ0]; simp [str]
  have hl1 : Q1.data.toList = M.quote a1.data.toList := by rw [← hQ1]; simp [str]
  have z0 : Q0.size ≤ 400000 := by
    have := M.quote_len a0.data.toList
    rw [← hl0, ← Lib.size_eq, ← Lib.size_eq] at this
    have := HS0.out
    omega
  have z1 : Q1.size ≤ 400000 := by
    have := M.quote_len a1.data.toList
    rw [← hl1, ← Lib.size_eq, ← Lib.size_eq] at this
    have := HS1.out
    omega
  have hTl : (Q0 ++ ⟨#[32, 9]⟩ ++ Q1).data.toList = M.quote a0.data.toList ++ 32 :: 9 :: M.quote a1.data.toList := by
    rw [← hl0, ← hl1]
    simp
  have hTs : (Q0 ++ ⟨#[32, 9]⟩ ++ Q1).size = Q0.size + 2 + Q1.size := by simp [ByteArray.size_append]; rfl
  have HTl := Lib.hid hTl
  have HTs := Lib.hid hTs
  have HZ : Hid (Q0.size ≤ 400000 ∧ Q1.size ≤ 400000) := ⟨z0, z1⟩
  have i0 : (Q0.size : Int) ≤ 400000 := by omega
  have i1 : (Q1.size : Int) ≤ 400000 := by omega
  clear hTl hTs hl0 hl1 hQ0 hQ1 z0 z1
  by_cases hlen : Q0.size + 2 + Q1.size ≤ 400
  · have hlI : ¬ ((400 : Int) < (Q0.size : Int) + 2 + (Q1.size : Int)) := by omega
    have HW := Lib.hid (fun w1 => words_ok (Q0 ++ ⟨#[32, 9]⟩ ++ Q1) w1 [a0.data.toList, a1.data.toList] (by
      rw [HTl.out]
      exact M.words_two _ _ (by rw [← HTl.out, ← Lib.size_eq, HTs.out]; exact hlen)))
    clear hlen
    go_enter Tryd.func3, Tryd.ntmps3
    go_wp2_with fail
    refine HA.out.mono ?_
    rintro e w2 ⟨rfl, hb⟩
    have HB1 := Lib.hid hb
    clear hb
    go_wp2_with fail
    refine (HQ0.out _ HB1.out).mono ?_
    rintro e w3 ⟨rfl, hb⟩
    have HB2 : Hid (Below w.heap.size w w3) := HB1.out.trans (hb.mono HB1.out.size)
    clear hb
    go_wp2_with fail
    refine (HQ1.out _ HB2.out).mono ?_
    rintro e w4 ⟨rfl, hb⟩
    have HB3 : Hid (Below w.heap.size w w4) := HB2.out.trans (hb.mono HB2.out.size)
    clear hb
    go_wp2_with fail
    refine (HW.out _).mono ?_
    rintro e w5 ⟨a, c, rfl, ho, hb⟩
    have HB4 : Hid (Below w.heap.size w w5) := HB3.out.trans (hb.mono HB3.out.size)
    obtain ⟨b, off, t, rfl, hbT, ht, hcT⟩ := row_str (own_row ho).1 0 (by simp)
    obtain ⟨b', off', t', he', hbT', ht', hcT'⟩ := row_str (own_row ho).1 1 (by simp)
    injection he' with he'
    injection he' with e1 e2 e3
    subst e1 e2
    obtain rfl : str a0.data.toList = t := by injection ht
    obtain rfl : str a1.data.toList = t' := by injection ht'
    rw [str_data, Nat.add_zero] at hcT
    rw [str_data] at hcT'
    have hlen2 : ((([a0.data.toList, a1.data.toList] : List (List UInt8)).length : Nat) : Int) = 2 := rfl
    have heq0 : (a0.toList == a0.toList) = true := by simp
    have heq1 : (a1.toList == a1.toList) = true := by simp
    clear hb ho ht ht' hbT hbT'
    go_wp2_with fail
    go_ret
    exact ⟨rfl, HB4.out⟩
  · have hlI : (400 : Int) < (Q0.size : Int) + 2 + (Q1.size : Int) := by omega
    clear hlen
    go_enter Tryd.func3, Tryd.ntmps3
    go_wp2_with fail
    refine HA.out.mono ?_
    rintro e w2 ⟨rfl, hb⟩
    have HB1 := Lib.hid hb
    clear hb
    go_wp2_with fail
    refine (HQ0.out _ HB1.out).mono ?_
    rintro e w3 ⟨rfl, hb⟩
    have HB2 : Hid (Below w.heap.size w w3) := HB1.out.trans (hb.mono HB1.out.size)
    clear hb
    go_wp2_with fail
    refine (HQ1.out _ HB2.out).mono ?_
    rintro e w4 ⟨rfl, hb⟩
    have HB3 : Hid (Below w.heap.size w w4) := HB2.out.trans (hb.mono HB2.out.size)
    clear hb
    go_wp2_with fail
    go_ret
    exact ⟨rfl, HB3.out⟩


theorem own : ownKnob Tryd.prog.godebug = none := by kernel_rfl

set_option maxRecDepth 100000 in
theorem lifted (os : Os) (started : os.Started) (H : Type) (enc : TypeId × Value → H) :
    ReturnsInHanded {} Tryd.checked os 3 .any (fun w args => (Rows.tokenBackSpec.pre enc Tryd.prog Tryd.f3 [] false w args ∧ laidMetH Tryd.prog laidL w) ∧ sizedMet enc Tryd.prog Tryd.f3 (OpenSpec.ofChange Rows.tokenBackSpec) false w args)
      (Rows.tokenBackSpec.post enc Tryd.prog Tryd.f3 false true false false) := by
  refine returnsInHanded_of_change_and (C := Tryd.checked) (X := fun w _ => laidMetH Tryd.prog laidL w) (fun _ _ _ hh h => h.of_heap hh) own started (by kernel_rfl) Tryd.func3
    (ChangeSpec.witness_shaped (enc := enc) (C := Tryd.checked) (os := os) (X := fun w _ => laidMetH Tryd.prog laidL w) false (World.laidAll Tryd.prog os laidL) #[.string ByteArray.empty, .string ByteArray.empty] 8 (World.laidAll_os _ _ _)
      (World.shaped_of_ZipB (by kernel_rfl) (by kernel_rfl)) (by kernel_rfl) (by kernel_rfl) (by kernel_rfl)
      (by rw [MakeChecks.laidMetH_plain _ _ _ (by kernel_rfl)]; exact laidMet_laidAll _ (by kernel_rfl) (by kernel_rfl))) ?_
  intro W base args ds gs before hval0 hW _ hsz hL _
  have hval : ∀ (j : Nat) t v, Tryd.f3.params[j]? = some t → args[j]? = some v → Value.okWide Tryd.prog W .any base t v := hval0
  have hW' := hW
  obtain ⟨p, q, hA0, hV, rfl, _, _⟩ := hW
  have hA : DataW.TrodAll enc Tryd.prog W 0 (fun _ => true) true Tryd.f3.params.toList args.toList ds p := hA0
  rw [Tryd.params3] at hA hval
  obtain ⟨v0, vs0, d0, ds0, p0, q0, hargs, rfl, rfl, h0, r0⟩ := trodAll_cons hA
  obtain ⟨v1, vs1, d1, ds1, p1, q1, rfl, rfl, rfl, h1, r1⟩ := trodAll_cons r0
  obtain ⟨rfl, rfl, rfl⟩ := trodAll_nil r1
  obtain rfl : args = #[v0, v1] := by cases args; simp_all
  obtain ⟨rfl, rfl⟩ := trodVars_none hV
  obtain ⟨a0, rfl, rfl, rfl, w0⟩ := open_string Tryd.underlying9 (hval 0 9 v0 rfl rfl) h0
  obtain ⟨a1, rfl, rfl, rfl, w1⟩ := open_string Tryd.underlying9 (hval 1 9 v1 rfl rfl) h1
  have z0 : a0.size ≤ 140737488351232 := by
    have := sized_string hsz (j := 0) (t := 9) (by rw [Tryd.params3]; rfl) rfl
    rw [Lib.size_eq]
    exact this
  have z1 : a1.size ≤ 140737488351232 := by
    have := sized_string hsz (j := 1) (t := 9) (by rw [Tryd.params3]; rfl) rfl
    rw [Lib.size_eq]
    exact this
  clear hA0 hval0
  simp only [List.append_nil] at hW'
  refine (walk a0 z0 a1 z1 W (lain_of hL)).mono fun e W' ⟨he, hb⟩ => ?_
  subst he
  exact ⟨_, rfl, _, _, _, [], [], [], hW', (trodAll_cons_mk (shut_bool Tryd.underlying4 _) trodAll_mk0), (trodAll_cons_mk (shut_string Tryd.underlying9 w0) (trodAll_cons_mk (shut_string Tryd.underlying9 w1) trodAll_mk0)), rfl, hb.frame _, fun h => by cases h⟩

theorem over : Rows.TokenBackSaid :=
  OpenClaim.holds_of_wide 3 Tryd.f3 rfl rfl rfl rfl rfl rfl rfl ⟨rfl, rfl, rfl, rfl, rfl⟩ rfl rfl rfl rfl rfl (by kernel_rfl) Tryd.func3 (by kernel_rfl)
    (of_decide_eq_true (by kernel_rfl)) (by unfold Func.isWrapper; first | (rw [if_pos (by decide +kernel)]; kernel_rfl) | (rw [if_neg (by decide +kernel)]; exact ⟨rfl, rfl⟩))
    (fun os started H enc _ => lifted os started H enc)

theorem proved : Rows.TokenBackCardSaid :=
  Claim7.holds_tied_plain_at .later [] [.data, .data, .data, .data, .sentinel, .sentinel, .pinned] true (true, "04bf3c768bf736b8fd82327442cdcf8f6d68ad994148245a372f4f7fa7294dad") true
    over (fun _ h => by cases h) (by kernel_rfl) (fun _ h => by cases h) tokenBack_row_tie rfl ⟨rfl, rfl⟩ (by kernel_rfl) rfl
    (fun f fn hf hfn => by
      obtain rfl : f = 3 := Option.some.inj ((show Tryd.prog.funcNamed "seisin/seisinlaw03.TokenBack" = some 3 by kernel_rfl).symm.trans hf) |>.symm
      obtain rfl : fn = Tryd.f3 := (Option.some.inj (Tryd.func3.symm.trans hfn)).symm
      exact ⟨by kernel_rfl, fun j t ht => by
        rw [Tryd.params3] at ht
        have hm : t ∈ [9, 9] := by simpa using Array.mem_of_getElem? ht
        have hall : ([9, 9].all fun u => !Tryd.prog.wantsStandIn u) = true := by kernel_rfl
        exact (show Tryd.prog.wantsStandIn t = false by simpa using List.all_eq_true.1 hall t hm)⟩)
    (by kernel_rfl)
#print axioms proved
end Go.Proofs.YtaldkdiijflmdaaDoor.tokenBack
