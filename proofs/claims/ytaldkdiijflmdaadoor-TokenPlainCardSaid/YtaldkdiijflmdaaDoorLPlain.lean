/-
  A text that is a plain word is quoted as itself and is a line of one word; another one is quoted between signs, and differs. CONDITIONS: the listed variables of Go's library read as its text lays them (tied to it).
-/
import Derived.Test.YtaldkdiijflmdaaDoorLain
import Derived.Test.YtaldkdiijflmdaaDoorTie
import Derived.Test.YtaldkdiijflmdaaDoorCards
import Derived.ProofKit
import Derived.OpenShut
import Derived.ShutString
import Derived.Lay
import Derived.SevenTiedAt
import Derived.SizedLaws
namespace Go.Proofs.YtaldkdiijflmdaaDoor.tokenPlain
open Go.ChangeShapes Go.WideShapes Go.ChangeAt Go.RowKit
open Go.ChangeMaps (open_string shut_string)
set_option linter.unusedVariables false
set_option linter.unusedSimpArgs false
set_option maxRecDepth 20000

theorem walk (a0 : ByteArray) (w0 : a0.size ≤ 140737488351232) (w : World) (hL : Lain w) :
    Calls Tryd.prog 5 #[.string a0] w fun e w' => e = .returned (.bool true) ∧ Below w.heap.size w w' := by
  have HA := Lib.hid (awake_any w hL)
  have HL := Lib.hid hL
  clear hL
  by_cases hbig : 2048 < a0.size
  · have hI : (2048 : Int) < (a0.size : Int) := by omega
    clear hbig
    go_enter Tryd.func5, Tryd.ntmps5
    go_wp2_with (go_at_call 11; refine HA.out.mono ?_; rintro e w1 ⟨rfl, hb⟩; have HB1 := Lib.hid hb; clear hb)
    go_ret
    exact ⟨rfl, HB1.out⟩
  · have hI : ¬ ((2048 : Int) < (a0.size : Int)) := by omega
    have HS : Hid (a0.size ≤ 20000) := by show a0.size ≤ 20000; omega
    clear hbig w0
    have HL1 := fun (w1 : World) (hb : Below w.heap.size w w1) => HL.out.below hb (Nat.le_refl _)
    have HQ := Lib.hid (fun (w1 : World) (hb : Below w.heap.size w w1) => quote_any a0 w1 (HL1 w1 hb).tabs HS.out)
    clear HL1
    cases hp : M.plainW a0.data.toList with
    | true =>
      have HPl := Lib.hid hp
      have HP := Lib.hid (fun w1 => plain_lit a0 w1 true hp)
      have hq : str (M.quote a0.data.toList) = a0 := by
        have : M.quote a0.data.toList = a0.data.toList := by unfold M.quote; rw [hp]; rfl
        rw [this]; exact str_data a0
      have HQ2 : Hid (∀ (w1 : World), Below w.heap.size w w1 → Calls Tryd.prog 12 #[.string a0] w1 fun e w' => e = .returned (.string a0) ∧ Below w1.heap.size w1 w') := by
        have := HQ.out
        unfold QPost at this
        rw [hq] at this
        exact Lib.hid this
      clear HQ
      have heq : (a0.toList == a0.toList) = true := by simp
      have HW : Hid (a0.size ≤ 400 → M.words a0.data.toList = .ok [a0.data.toList]) := by
        intro h400
        have e : M.quote a0.data.toList = a0.data.toList := by unfold M.quote; rw [hp]; rfl
        have := M.words_one a0.data.toList (by rw [e, ← Lib.size_eq]; exact h400)
        rwa [e] at this
      clear hp hq
      by_cases h400 : a0.size ≤ 400
      · have h4 : ¬ ((400 : Int) < (a0.size : Int)) := by omega
        have HWo := Lib.hid (fun w1 => words_ok a0 w1 _ (HW.out h400))
        clear h400 HW
        go_enter Tryd.func5, Tryd.ntmps5
        go_wp2_with fail
        refine HA.out.mono ?_
        rintro e w1 ⟨rfl, hb⟩
        have HB1 := Lib.hid hb
        clear hb
        go_wp2_with fail
        refine (HQ2.out _ HB1.out).mono ?_
        rintro e w2 ⟨rfl, hb⟩
        have HB2 := Lib.hid hb
        clear hb
        go_wp2_with fail
        refine (HP.out _).mono ?_
        rintro e w3 ⟨rfl, hb⟩
        have HB3 := Lib.hid hb
        clear hb
        go_wp2_with fail
        refine (HWo.out _).mono ?_
        rintro e w4 ⟨a, c, rfl, ho, hb⟩
        have HB4 := Lib.hid hb
        obtain ⟨b, off, t, rfl, hbT, ht, hcT⟩ := row_str (own_row ho).1 0 (by simp)
        obtain rfl : str a0.data.toList = t := by injection ht
        rw [str_data, Nat.add_zero] at hcT
        have hlen1 : ((([a0.data.toList] : List (List UInt8)).length : Nat) : Int) = 1 := rfl
        clear hb ho ht hbT
        go_wp2_with fail
        go_ret
        have s1 := HB1.out.size
        have s2 := HB2.out.size
        have s3 := HB3.out.size
        exact ⟨rfl, ((HB1.out.trans (HB2.out.mono s1)).trans (HB3.out.mono (by omega))).trans (HB4.out.mono (by omega))⟩
      · have h4 : (400 : Int) < (a0.size : Int) := by omega
        have HWn := Lib.hid (fun w1 => words_no a0 w1 5 (by unfold M.words; rw [if_pos (by rw [← Lib.size_eq]; omega)]; rfl))
        clear h400 HW
        go_enter Tryd.func5, Tryd.ntmps5
        go_wp2_with fail
        refine HA.out.mono ?_
        rintro e w1 ⟨rfl, hb⟩
        have HB1 := Lib.hid hb
        clear hb
        go_wp2_with fail
        refine (HQ2.out _ HB1.out).mono ?_
        rintro e w2 ⟨rfl, hb⟩
        have HB2 := Lib.hid hb
        clear hb
        go_wp2_with fail
        refine (HP.out _).mono ?_
        rintro e w3 ⟨rfl, hb⟩
        have HB3 := Lib.hid hb
        clear hb
        go_wp2_with fail
        refine (HWn.out _).mono ?_
        rintro e w4 ⟨rfl, hb⟩
        have HB4 := Lib.hid hb
        clear hb
        go_wp2_with fail
        go_ret
        have s1 := HB1.out.size
        have s2 := HB2.out.size
        have s3 := HB3.out.size
        exact ⟨rfl, ((HB1.out.trans (HB2.out.mono s1)).trans (HB3.out.mono (by omega))).trans (HB4.out.mono (by omega))⟩
    | false =>
      have HP := Lib.hid (fun w1 => plain_lit a0 w1 false hp)
      obtain ⟨q1, q2, q3⟩ := M.quote_big a0.data.toList hp
      obtain ⟨Q, hQ⟩ : ∃ Q, str (M.quote a0.data.toList) = Q := ⟨_, rfl⟩
      have hQl : Q.data.toList = M.quote a0.data.toList := by rw [← hQ]; simp [str]
      rw [← hQl] at q1 q2 q3
      have hsz : Q.size = Q.data.toList.length := Lib.size_eq Q
      rw [← hsz] at q1 q3
      have q4 : 2 ≤ Q.size := by omega
      obtain ⟨n, hn⟩ : ∃ n, Q.size = n + 1 := ⟨Q.size - 1, by omega⟩
      have hne : (Q.toList == a0.toList) = false := str_ne (fun e => by rw [e] at q1; rw [Lib.size_eq] at q1; omega)
      have hn0 : 0 < Q.size := by omega
      have h0 : Q[0]'hn0 = 34 := by
        rw [List.getD_eq_getElem?_getD, List.getElem?_eq_getElem (by rw [← hsz]; omega)] at q2
        exact q2
      have hn2 : n < Q.size := by omega
      have h1 : Q[n]'hn2 = 34 := by
        rw [hn, Nat.add_sub_cancel, List.getD_eq_getElem?_getD, List.getElem?_eq_getElem (by rw [← hsz]; omega)] at q3
        exact q3
      have i1 : (Q.size : Int) - 1 = (n : Int) := by omega
      have i2 : (0 : Int) ≤ (n : Int) := by omega
      have i3 : (n : Int) < (Q.size : Int) := by omega
      have i4 : (2 : Int) ≤ (Q.size : Int) := by omega
      have i5 : (0 : Int) < (Q.size : Int) := by omega
      have i6 : (Q.size : Int) ≤ 1000000 := by
        have := M.quote_len a0.data.toList
        rw [← hQl, ← hsz, ← Lib.size_eq] at this
        have := HS.out
        omega
      have HQ2 : Hid (∀ (w1 : World), Below w.heap.size w w1 → Calls Tryd.prog 12 #[.string a0] w1 fun e w' => e = .returned (.string Q) ∧ Below w1.heap.size w1 w') := by
        have := HQ.out
        unfold QPost at this
        rw [hQ] at this
        exact Lib.hid this
      clear HQ hp q1 q2 q3 hQ hQl hsz q4 hn
      go_enter Tryd.func5, Tryd.ntmps5
      go_wp2_with fail
      refine HA.out.mono ?_
      rintro e w1 ⟨rfl, hb⟩
      have HB1 := Lib.hid hb
      clear hb
      go_wp2_with fail
      refine (HQ2.out _ HB1.out).mono ?_
      rintro e w2 ⟨rfl, hb⟩
      have HB2 := Lib.hid hb
      clear hb
      go_wp2_with fail
      refine (HP.out _).mono ?_
      rintro e w3 ⟨rfl, hb⟩
      have HB3 := Lib.hid hb
      clear hb
      go_wp2_with fail
      go_ret
      have s1 := HB1.out.size
      have s2 := HB2.out.size
      exact ⟨rfl, (HB1.out.trans (HB2.out.mono s1)).trans (HB3.out.mono (by omega))⟩


theorem own : ownKnob Tryd.prog.godebug = none := by kernel_rfl

set_option maxRecDepth 100000 in
theorem lifted (os : Os) (started : os.Started) (H : Type) (enc : TypeId × Value → H) :
    ReturnsInHanded {} Tryd.checked os 5 .any (fun w args => (Rows.tokenPlainSpec.pre enc Tryd.prog Tryd.f5 [] false w args ∧ laidMetH Tryd.prog laidL w) ∧ sizedMet enc Tryd.prog Tryd.f5 (OpenSpec.ofChange Rows.tokenPlainSpec) false w args)
      (Rows.tokenPlainSpec.post enc Tryd.prog Tryd.f5 false true false false) := by
  refine returnsInHanded_of_change_and (C := Tryd.checked) (X := fun w _ => laidMetH Tryd.prog laidL w) (fun _ _ _ hh h => h.of_heap hh) own started (by kernel_rfl) Tryd.func5
    (ChangeSpec.witness_shaped (enc := enc) (C := Tryd.checked) (os := os) (X := fun w _ => laidMetH Tryd.prog laidL w) false (World.laidAll Tryd.prog os laidL) #[.string ByteArray.empty] 8 (World.laidAll_os _ _ _)
      (World.shaped_of_ZipB (by kernel_rfl) (by kernel_rfl)) (by kernel_rfl) (by kernel_rfl) (by kernel_rfl)
      (by rw [MakeChecks.laidMetH_plain _ _ _ (by kernel_rfl)]; exact laidMet_laidAll _ (by kernel_rfl) (by kernel_rfl))) ?_
  intro W base args ds gs before hval0 hW _ hsz hL _
  have hval : ∀ (j : Nat) t v, Tryd.f5.params[j]? = some t → args[j]? = some v → Value.okWide Tryd.prog W .any base t v := hval0
  have hW' := hW
  obtain ⟨p, q, hA0, hV, rfl, _, _⟩ := hW
  have hA : DataW.TrodAll enc Tryd.prog W 0 (fun _ => true) true Tryd.f5.params.toList args.toList ds p := hA0
  rw [Tryd.params5] at hA hval
  obtain ⟨v0, vs0, d0, ds0, p0, q0, hargs, rfl, rfl, h0, r0⟩ := trodAll_cons hA
  obtain ⟨rfl, rfl, rfl⟩ := trodAll_nil r0
  obtain rfl : args = #[v0] := by cases args; simp_all
  obtain ⟨rfl, rfl⟩ := trodVars_none hV
  obtain ⟨a0, rfl, rfl, rfl, w0⟩ := open_string Tryd.underlying9 (hval 0 9 v0 rfl rfl) h0
  have z0 : a0.size ≤ 140737488351232 := by
    have := sized_string hsz (j := 0) (t := 9) (by rw [Tryd.params5]; rfl) rfl
    rw [Lib.size_eq]
    exact this
  clear hA0 hval0
  simp only [List.append_nil] at hW'
  refine (walk a0 z0 W (lain_of hL)).mono fun e W' ⟨he, hb⟩ => ?_
  subst he
  exact ⟨_, rfl, _, _, _, [], [], [], hW', (trodAll_cons_mk (shut_bool Tryd.underlying4 _) trodAll_mk0), (trodAll_cons_mk (shut_string Tryd.underlying9 w0) trodAll_mk0), rfl, hb.frame _, fun h => by cases h⟩

theorem over : Rows.TokenPlainSaid :=
  OpenClaim.holds_of_wide 5 Tryd.f5 rfl rfl rfl rfl rfl rfl rfl ⟨rfl, rfl, rfl, rfl, rfl⟩ rfl rfl rfl rfl rfl (by kernel_rfl) Tryd.func5 (by kernel_rfl)
    (of_decide_eq_true (by kernel_rfl)) (by unfold Func.isWrapper; first | (rw [if_pos (by decide +kernel)]; kernel_rfl) | (rw [if_neg (by decide +kernel)]; exact ⟨rfl, rfl⟩))
    (fun os started H enc _ => lifted os started H enc)

theorem proved : Rows.TokenPlainCardSaid :=
  Claim7.holds_tied_plain_at .later [] [.data, .data, .data, .data, .sentinel, .sentinel, .pinned] true (true, "04bf3c768bf736b8fd82327442cdcf8f6d68ad994148245a372f4f7fa7294dad") true
    over (fun _ h => by cases h) (by kernel_rfl) (fun _ h => by cases h) tokenPlain_row_tie rfl ⟨rfl, rfl⟩ (by kernel_rfl) rfl
    (fun f fn hf hfn => by
      obtain rfl : f = 5 := Option.some.inj ((show Tryd.prog.funcNamed "seisin/seisinlaw03.TokenPlain" = some 5 by kernel_rfl).symm.trans hf) |>.symm
      obtain rfl : fn = Tryd.f5 := (Option.some.inj (Tryd.func5.symm.trans hfn)).symm
      exact ⟨by kernel_rfl, fun j t ht => by
        rw [Tryd.params5] at ht
        have hm : t ∈ [9] := by simpa using Array.mem_of_getElem? ht
        have hall : ([9].all fun u => !Tryd.prog.wantsStandIn u) = true := by kernel_rfl
        exact (show Tryd.prog.wantsStandIn t = false by simpa using List.all_eq_true.1 hall t hm)⟩)
    (by kernel_rfl)
#print axioms proved
end Go.Proofs.YtaldkdiijflmdaaDoor.tokenPlain
