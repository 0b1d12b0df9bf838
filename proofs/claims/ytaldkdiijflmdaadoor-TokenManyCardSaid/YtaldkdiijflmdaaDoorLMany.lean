/-
  Up to twelve words are words, thirteen are too many, and so is a line of more than 400 bytes. CONDITIONS: the listed variables of Go's library read as its text lays them (tied to it).
-/
import Derived.Test.YtaldkdiijflmdaaDoorLain
import Derived.Test.YtaldkdiijflmdaaDoorTie
import Derived.Test.YtaldkdiijflmdaaDoorCards
import Derived.ProofKit
import Derived.OpenShut
import Derived.ShutString
import Derived.Lay
import Derived.SevenTiedAt
import Derived.SizedLaws
namespace Go.Proofs.YtaldkdiijflmdaaDoor.tokenMany
open Go.ChangeShapes Go.WideShapes Go.ChangeAt Go.RowKit
open Go.ChangeMaps (open_string shut_string)
set_option linter.unusedVariables false
set_option linter.unusedSimpArgs false
set_option maxRecDepth 20000

theorem words_long (s : ByteArray) (h : 400 < s.size) : M.words s.data.toList = .error 5 := by
  unfold M.words
  rw [if_pos (by rw [← Lib.size_eq]; exact h)]
  rfl

theorem many_len (k : Nat) (l : List UInt8) : (M.many k l).length = k * ((M.quote l).length + 1) := by
  unfold M.many
  rw [List.length_flatten, List.map_replicate, List.sum_replicate_nat, List.length_append]
  rfl

theorem walk (a0 : Int) (w0 : (Lit.int .u8 a0).wf = true) (a1 : ByteArray) (w1 : a1.size ≤ 140737488351232) (w : World) (hL : Lain w) :
    Calls Tryd.prog 10 #[.int .u8 a0, .string a1] w fun e w' => e = .returned (.bool true) ∧ Below w.heap.size w w' := by
  have HA := Lib.hid (awake_any w hL)
  have HL := Lib.hid hL
  clear hL
  have r1 : 0 ≤ a0 ∧ a0 ≤ 255 := by simpa [Lit.wf, IntKind.min, IntKind.max, IntKind.signed, IntKind.bits] using w0
  clear w0
  by_cases hbig : 2048 < a1.size
  · have hI : (2048 : Int) < (a1.size : Int) := by omega
    clear hbig
    go_enter Tryd.func10, Tryd.ntmps10
    go_wp2_with (go_at_call 11; refine HA.out.mono ?_; rintro e w1 ⟨rfl, hb⟩; have HB1 := Lib.hid hb; clear hb)
    go_ret
    exact ⟨rfl, HB1.out⟩
  · have hI : ¬ ((2048 : Int) < (a1.size : Int)) := by omega
    have HS : Hid (a1.size ≤ 20000) := by show a1.size ≤ 20000; omega
    obtain ⟨p, hp⟩ : ∃ p : Nat, a0 % 20 = (p : Int) := ⟨(a0 % 20).toNat, by omega⟩
    have p20 : (p : Int) < 20 := by omega
    have tp : a0.tmod 20 = (p : Int) := by rw [Int.tmod_eq_emod_of_nonneg (by omega)]; exact hp
    obtain ⟨r10, r11⟩ := r1
    obtain ⟨Q, hQ⟩ : ∃ Q, str (M.quote a1.data.toList) = Q := ⟨_, rfl⟩
    have HQ := Lib.hid (fun (w1 : World) (hb : Below w.heap.size w w1) => quote_lit a1 Q w1 (HL.out.below hb (Nat.le_refl _)).tabs HS.out hQ)
    have hQl : Q.data.toList = M.quote a1.data.toList := by rw [← hQ]; simp [str]
    have hlen := M.quote_len a1.data.toList
    rw [← hQl, ← Lib.size_eq, ← Lib.size_eq] at hlen
    have hqs : (Q.size : Int) ≤ 40000 := by omega
    have HQs : Hid (Q.size ≤ 40000) := by show Q.size ≤ 40000; omega
    have HQl := Lib.hid hQl
    have Hp20 : Hid (p < 20) := by show p < 20; omega
    clear hbig w1 hp hQ hQl hlen
    go_enter Tryd.func10, Tryd.ntmps10
    go_wp2_with fail
    refine HA.out.mono ?_
    rintro e w2 ⟨rfl, hb⟩
    have HB1 := Lib.hid hb
    clear hb
    go_wp2_with fail
    go_loopw [6, 7] (fun t i wr => ∃ (T : ByteArray) (k : Nat), k ≤ p ∧ i = .int .i64 (k : Int) ∧ t = .string T ∧ T.data.toList = M.many k a1.data.toList ∧ Below w.heap.size w wr) (fun _ i _ => p - (intOf i).toNat)
    case atStart => exact ⟨⟨#[]⟩, 0, by omega, rfl, rfl, rfl, HB1.out⟩
    case round =>
      obtain ⟨T, k, hk, rfl, rfl, hT, hb⟩ := hrel
      have HT := Lib.hid hT
      have HB2 := Lib.hid hb
      have hTs : T.size ≤ 900000 := by
        have h1 := many_len k a1.data.toList
        rw [← HT.out, ← Lib.size_eq, ← HQl.out, ← Lib.size_eq] at h1
        have h2 : k * (Q.size + 1) ≤ 20 * 40001 := Nat.mul_le_mul (by have := Hp20.out; omega) (by have := HQs.out; omega)
        omega
      have hTI : (T.size : Int) ≤ 900000 := by omega
      clear hT hb
      by_cases hlt : k < p
      · have hltI : (k : Int) < (p : Int) := by omega
        clear hTs
        go_wp2_with fail
        refine (HQ.out _ HB2.out).mono ?_
        rintro e w3 ⟨rfl, hb⟩
        have HB3 : Hid (Below w.heap.size w w3) := HB2.out.trans (hb.mono HB2.out.size)
        clear hb
        go_wp2_with fail
        go_roundw
        case rel =>
          refine ⟨_, k + 1, by omega, by go_num, rfl, ?_, HB3.out⟩
          rw [M.many_succ, ← HT.out, ← HQl.out]
          simp
        case measure => simp [intOf]; omega
      · obtain rfl : k = p := by omega
        have hge : ¬ ((k : Int) < (k : Int)) := by omega
        by_cases h400 : 400 < T.size
        · have h4 : (400 : Int) < (T.size : Int) := by omega
          have HW := Lib.hid (fun w1 => words_no T w1 5 (words_long T h400))
          clear h400 hTs
          go_wp2_with fail
          refine (HW.out _).mono ?_
          rintro e w3 ⟨rfl, hb⟩
          have HB3 : Hid (Below w.heap.size w w3) := HB2.out.trans (hb.mono HB2.out.size)
          clear hb
          go_wp2_with fail
          go_ret
          exact ⟨rfl, HB3.out⟩
        · have h4 : ¬ ((400 : Int) < (T.size : Int)) := by omega
          have hmw := M.words_many k a1.data.toList (by rw [← HT.out, ← Lib.size_eq]; omega)
          rw [← HT.out] at hmw
          by_cases h12 : 12 < k
          · rw [if_pos h12] at hmw
            have h12I : (12 : Int) < (k : Int) := by omega
            have HW := Lib.hid (fun w1 => words_no T w1 5 hmw)
            clear h400 hTs h12 hmw
            go_wp2_with fail
            refine (HW.out _).mono ?_
            rintro e w3 ⟨rfl, hb⟩
            have HB3 : Hid (Below w.heap.size w w3) := HB2.out.trans (hb.mono HB2.out.size)
            clear hb
            go_wp2_with fail
            go_ret
            exact ⟨rfl, HB3.out⟩
          · rw [if_neg h12] at hmw
            have h12I : ¬ ((12 : Int) < (k : Int)) := by omega
            have hW := fun w1 => words_ok T w1 _ hmw
            rw [List.length_replicate] at hW
            have HW := Lib.hid hW
            have hkk : ((k : Int) != (k : Int)) = false := by simp
            clear h400 hTs h12 hmw hW
            go_wp2_with fail
            refine (HW.out _).mono ?_
            rintro e w3 ⟨a, c, rfl, ho, hb⟩
            have HB3 : Hid (Below w.heap.size w w3) := HB2.out.trans (hb.mono HB2.out.size)
            have HO := Lib.hid (own_row ho).1
            clear hb ho
            go_wp2_with fail
            go_loopw [58] (fun i wr => ∃ j : Nat, j ≤ k ∧ i = .int .i64 (j : Int) ∧ wr = w3) (fun i _ => k - (intOf i).toNat)
            case atStart => exact ⟨0, by omega, rfl, rfl⟩
            case round =>
              obtain ⟨j, hj, rfl, rfl⟩ := hrel
              by_cases hjk : j < k
              · have hj0 : (0 : Int) ≤ (j : Int) := by omega
                have hjI : (j : Int) < (k : Int) := by omega
                obtain ⟨b, off, t, rfl, hbT, ht, hcT⟩ := row_str HO.out j hjk
                obtain rfl : t = a1 := by
                  rw [List.map_replicate, List.getElem?_replicate, if_pos hjk] at ht
                  injection ht with ht
                  rw [← ht, str_data]
                have heq : (t.toList == t.toList) = true := by simp
                clear ht hbT
                go_wp2_with fail
                go_roundw
                case rel => exact ⟨j + 1, by omega, by go_num, by trivial⟩
                case measure => simp [intOf]; omega
              · obtain rfl : j = k := by omega
                go_wp2_with fail
                go_ret
                exact ⟨rfl, HB3.out⟩


theorem own : ownKnob Tryd.prog.godebug = none := by kernel_rfl

set_option maxRecDepth 100000 in
theorem lifted (os : Os) (started : os.Started) (H : Type) (enc : TypeId × Value → H) :
    ReturnsInHanded {} Tryd.checked os 10 .any (fun w args => (Rows.tokenManySpec.pre enc Tryd.prog Tryd.f10 [] false w args ∧ laidMetH Tryd.prog laidL w) ∧ sizedMet enc Tryd.prog Tryd.f10 (OpenSpec.ofChange Rows.tokenManySpec) false w args)
      (Rows.tokenManySpec.post enc Tryd.prog Tryd.f10 false true false false) := by
  refine returnsInHanded_of_change_and (C := Tryd.checked) (X := fun w _ => laidMetH Tryd.prog laidL w) (fun _ _ _ hh h => h.of_heap hh) own started (by kernel_rfl) Tryd.func10
    (ChangeSpec.witness_shaped (enc := enc) (C := Tryd.checked) (os := os) (X := fun w _ => laidMetH Tryd.prog laidL w) false (World.laidAll Tryd.prog os laidL) #[.int .u8 0, .string ByteArray.empty] 8 (World.laidAll_os _ _ _)
      (World.shaped_of_ZipB (by kernel_rfl) (by kernel_rfl)) (by kernel_rfl) (by kernel_rfl) (by kernel_rfl)
      (by rw [MakeChecks.laidMetH_plain _ _ _ (by kernel_rfl)]; exact laidMet_laidAll _ (by kernel_rfl) (by kernel_rfl))) ?_
  intro W base args ds gs before hval0 hW _ hsz hL _
  have hval : ∀ (j : Nat) t v, Tryd.f10.params[j]? = some t → args[j]? = some v → Value.okWide Tryd.prog W .any base t v := hval0
  have hW' := hW
  obtain ⟨p, q, hA0, hV, rfl, _, _⟩ := hW
  have hA : DataW.TrodAll enc Tryd.prog W 0 (fun _ => true) true Tryd.f10.params.toList args.toList ds p := hA0
  rw [Tryd.params10] at hA hval
  obtain ⟨v0, vs0, d0, ds0, p0, q0, hargs, rfl, rfl, h0, r0⟩ := trodAll_cons hA
  obtain ⟨v1, vs1, d1, ds1, p1, q1, rfl, rfl, rfl, h1, r1⟩ := trodAll_cons r0
  obtain ⟨rfl, rfl, rfl⟩ := trodAll_nil r1
  obtain rfl : args = #[v0, v1] := by cases args; simp_all
  obtain ⟨rfl, rfl⟩ := trodVars_none hV
  obtain ⟨a0, rfl, rfl, rfl, w0⟩ := open_int Tryd.underlying5 (hval 0 5 v0 rfl rfl) h0
  obtain ⟨a1, rfl, rfl, rfl, w1⟩ := open_string Tryd.underlying9 (hval 1 9 v1 rfl rfl) h1
  have z1 : a1.size ≤ 140737488351232 := by
    have := sized_string hsz (j := 1) (t := 9) (by rw [Tryd.params10]; rfl) rfl
    rw [Lib.size_eq]
    exact this
  clear hA0 hval0
  simp only [List.append_nil] at hW'
  refine (walk a0 w0 a1 z1 W (lain_of hL)).mono fun e W' ⟨he, hb⟩ => ?_
  subst he
  exact ⟨_, rfl, _, _, _, [], [], [], hW', (trodAll_cons_mk (shut_bool Tryd.underlying4 _) trodAll_mk0), (trodAll_cons_mk (shut_int Tryd.underlying5 w0) (trodAll_cons_mk (shut_string Tryd.underlying9 w1) trodAll_mk0)), rfl, hb.frame _, fun h => by cases h⟩

theorem over : Rows.TokenManySaid :=
  OpenClaim.holds_of_wide 10 Tryd.f10 rfl rfl rfl rfl rfl rfl rfl ⟨rfl, rfl, rfl, rfl, rfl⟩ rfl rfl rfl rfl rfl (by kernel_rfl) Tryd.func10 (by kernel_rfl)
    (of_decide_eq_true (by kernel_rfl)) (by unfold Func.isWrapper; first | (rw [if_pos (by decide +kernel)]; kernel_rfl) | (rw [if_neg (by decide +kernel)]; exact ⟨rfl, rfl⟩))
    (fun os started H enc _ => lifted os started H enc)

theorem proved : Rows.TokenManyCardSaid :=
  Claim7.holds_tied_plain_at .later [] [.data, .data, .data, .data, .sentinel, .sentinel, .pinned] true (true, "04bf3c768bf736b8fd82327442cdcf8f6d68ad994148245a372f4f7fa7294dad") true
    over (fun _ h => by cases h) (by kernel_rfl) (fun _ h => by cases h) tokenMany_row_tie rfl ⟨rfl, rfl⟩ (by kernel_rfl) rfl
    (fun f fn hf hfn => by
      obtain rfl : f = 10 := Option.some.inj ((show Tryd.prog.funcNamed "seisin/seisinlaw03.TokenMany" = some 10 by kernel_rfl).symm.trans hf) |>.symm
      obtain rfl : fn = Tryd.f10 := (Option.some.inj (Tryd.func10.symm.trans hfn)).symm
      exact ⟨by kernel_rfl, fun j t ht => by
        rw [Tryd.params10] at ht
        have hm : t ∈ [5, 9] := by simpa using Array.mem_of_getElem? ht
        have hall : ([5, 9].all fun u => !Tryd.prog.wantsStandIn u) = true := by kernel_rfl
        exact (show Tryd.prog.wantsStandIn t = false by simpa using List.all_eq_true.1 hall t hm)⟩)
    (by kernel_rfl)
#print axioms proved
end Go.Proofs.YtaldkdiijflmdaaDoor.tokenMany
