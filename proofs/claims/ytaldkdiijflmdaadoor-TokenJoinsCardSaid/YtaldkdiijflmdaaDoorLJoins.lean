/-
  Words that were read, quoted and parted by blanks, are read as the same words. CONDITIONS: the listed variables of Go's library read as its text lays them (tied to it).
-/
import Derived.Test.YtaldkdiijflmdaaDoorLain
import Derived.Test.YtaldkdiijflmdaaDoorTie
import Derived.Test.YtaldkdiijflmdaaDoorCards
import Derived.ProofKit
import Derived.OpenShut
import Derived.ShutString
import Derived.Lay
import Derived.SevenTiedAt
import Derived.SizedLaws
namespace Go.Proofs.YtaldkdiijflmdaaDoor.tokenJoins
open Go.ChangeShapes Go.WideShapes Go.ChangeAt Go.RowKit
open Go.ChangeMaps (open_string shut_string)
set_option linter.unusedVariables false
set_option linter.unusedSimpArgs false
set_option maxRecDepth 20000

theorem step_words {r : Nat} {s s' : M.St} (h : M.step r s = .ok s') : s'.ws = s.ws ∨ s'.ws = s.ws ++ [s.wd] := by
  unfold M.step at h
  have hE : M.endS r s = .ok s' → s'.ws = s.ws ∨ s'.ws = s.ws ++ [s.wd] := by
    intro h; unfold M.endS at h; split at h
    · injection h with h; subst h; exact .inr rfl
    · cases h
  split at h
  · unfold M.beginS at h
    split at h
    · injection h with h; subst h; exact .inl rfl
    · split at h
      · cases h
      · split at h
        · cases h
        · split at h <;> (injection h with h; subst h; exact .inl rfl)
  · split at h
    · unfold M.plainS at h
      split at h
      · injection h with h; subst h; exact .inl rfl
      · exact hE h
    · split at h
      · unfold M.quotedS at h
        split at h
        · injection h with h; subst h; exact .inl rfl
        · split at h
          · injection h with h; subst h; exact .inl rfl
          · split at h
            · injection h with h; subst h; exact .inl rfl
            · cases h
      · split at h
        · unfold M.escapedS at h
          split at h
          · injection h with h; subst h; exact .inl rfl
          · split at h
            · injection h with h; subst h; exact .inl rfl
            · cases h
        · split at h
          · unfold M.digitS at h
            split at h
            · cases h
            · split at h <;> (injection h with h; subst h; exact .inl rfl)
          · exact hE h

theorem go_bound : ∀ (a : List Nat) (s s' : M.St) (B : Nat), M.Ok s → s.wd.length ≤ B → (∀ x ∈ s.ws, x.length ≤ B) → M.go a s = .ok s' → M.Ok s' ∧ s'.wd.length ≤ B + 4 * a.length ∧ ∀ x ∈ s'.ws, x.length ≤ B + 4 * a.length := by
  intro a
  induction a with
  | nil =>
    intro s s' B h h1 h2 hs
    injection hs with hs
    subst hs
    exact ⟨h, by simpa using h1, by simpa using h2⟩
  | cons r a ih =>
    intro s s' B h h1 h2 hs
    simp only [M.go] at hs
    split at hs
    · injection hs with hs
      subst hs
      exact ⟨h, by simp only [List.length_cons]; omega, fun x hx => by have := h2 x hx; simp only [List.length_cons]; omega⟩
    · cases hst : M.step r s with
      | error c => rw [hst] at hs; cases hs
      | ok s1 =>
        rw [hst] at hs
        obtain ⟨g1, g2⟩ := M.step_ok h hst
        obtain ⟨k1, k2, k3⟩ := ih s1 s' (B + 4) g1 (by omega) (by
          intro x hx
          rcases step_words hst with e | e
          · rw [e] at hx; have := h2 x hx; omega
          · rw [e] at hx
            rcases List.mem_append.1 hx with hx | hx
            · have := h2 x hx; omega
            · simp at hx; subst hx; omega) hs
        refine ⟨k1, by simp only [List.length_cons]; omega, fun x hx => by have := k3 x hx; simp only [List.length_cons]; omega⟩

theorem words_short {l : List UInt8} {ws : List (List UInt8)} (h : M.words l = .ok ws) : ∀ x ∈ ws, x.length ≤ 1604 := by
  unfold M.words at h
  split at h
  · cases h
  · rename_i hl
    cases hg : M.go (M.runes l) M.st0 with
    | error c => rw [hg] at h; cases h
    | ok s =>
      rw [hg] at h
      obtain ⟨h1, h2, h3⟩ := go_bound _ _ _ 0 M.ok0 (by simp [M.st0]) (by simp [M.st0]) hg
      have hr := M.runes_length l
      unfold M.fin at h
      simp only at h
      cases hst : M.step 32 s with
      | error c => rw [hst] at h; cases h
      | ok s1 =>
        rw [hst] at h
        simp only at h
        split at h
        · injection h with h
          subst h
          intro x hx
          rcases step_words hst with e | e
          · rw [e] at hx; have := h3 x hx; omega
          · rw [e] at hx
            rcases List.mem_append.1 hx with hx | hx
            · have := h3 x hx; omega
            · simp at hx; subst hx; omega
        · cases h

theorem joined_len (ls : List (List UInt8)) (h : ∀ x ∈ ls, x.length ≤ 1604) : (M.joined ls).length ≤ 25667 * ls.length := by
  induction ls with
  | nil => simp [M.joined]
  | cons l ls ih =>
    have h1 := ih (fun x hx => h x (List.mem_cons_of_mem _ hx))
    have h2 := M.quote_len l
    have h3 := h l List.mem_cons_self
    simp only [M.joined, List.flatMap_cons, List.length_append, List.length_cons] at h1 ⊢
    omega

theorem joined_next (ls : List (List UInt8)) (k : Nat) (x : List UInt8) (h : ls[k]? = some x) : M.joined (ls.take (k + 1)) = M.joined (ls.take k) ++ 32 :: M.quote x := by
  rw [List.take_add_one, h]
  simp [M.joined]

theorem words_code {l : List UInt8} {k : Int} (h : M.words l = .error k) : k = 4 ∨ k = 5 := by
  unfold M.words at h
  split at h
  · injection h with h; exact .inr h.symm
  · have hg : ∀ (a : List Nat) (s : M.St) k, M.go a s = .error k → k = 4 ∨ k = 5 := by
      intro a
      induction a with
      | nil => intro s k h; cases h
      | cons r a ih =>
        intro s k h
        simp only [M.go] at h
        split at h
        · cases h
        · cases hst : M.step r s with
          | error c => rw [hst] at h; injection h with h; subst h; exact step_err hst
          | ok s' => rw [hst] at h; exact ih s' k h
    cases hgo : M.go (M.runes l) M.st0 with
    | error c => rw [hgo] at h; injection h with h; subst h; exact hg _ _ _ hgo
    | ok s =>
      rw [hgo] at h
      unfold M.fin at h
      simp only at h
      split at h
      · injection h with h; exact .inl h.symm
      · split at h
        · cases h
        · injection h with h; exact .inl h.symm

theorem walk (a0 : ByteArray) (w0 : a0.size ≤ 140737488351232) (w : World) (hL : Lain w) :
    Calls Tryd.prog 7 #[.string a0] w fun e w' => e = .returned (.bool true) ∧ Below w.heap.size w w' := by
  have HA := Lib.hid (awake_any w hL)
  have HL := Lib.hid hL
  clear hL
  by_cases hbig : 2048 < a0.size
  · have hI : (2048 : Int) < (a0.size : Int) := by omega
    clear hbig
    go_enter Tryd.func7, Tryd.ntmps7
    go_wp2_with (go_at_call 11; refine HA.out.mono ?_; rintro e w1 ⟨rfl, hb⟩; have HB1 := Lib.hid hb; clear hb)
    go_ret
    exact ⟨rfl, HB1.out⟩
  · have hI : ¬ ((2048 : Int) < (a0.size : Int)) := by omega
    clear hbig w0
    cases hws : M.words a0.data.toList with
    | error k =>
      have hk := words_code hws
      have HW0 := Lib.hid (fun w1 => words_no a0 w1 k hws)
      have hk0 : ((k : Int) != 0) = true := by rcases hk with rfl | rfl <;> rfl
      clear hk hws
      go_enter Tryd.func7, Tryd.ntmps7
      go_wp2_with fail
      refine HA.out.mono ?_
      rintro e w2 ⟨rfl, hb⟩
      have HB1 := Lib.hid hb
      clear hb
      go_wp2_with fail
      refine (HW0.out _).mono ?_
      rintro e w3 ⟨rfl, hb⟩
      have HB2 : Hid (Below w.heap.size w w3) := HB1.out.trans (hb.mono HB1.out.size)
      clear hb
      go_wp2_with fail
      go_ret
      exact ⟨rfl, HB2.out⟩
    | ok ws =>
      have HW0 := Lib.hid (fun w1 => words_ok a0 w1 ws hws)
      have HLe := Lib.hid (M.words_le hws)
      have HSh := Lib.hid (words_short hws)
      obtain ⟨n, hn⟩ : ∃ n, ws.length = n := ⟨_, rfl⟩
      rw [hn] at HW0
      have hnI : (n : Int) ≤ 12 := by have := HLe.out; omega
      have HN := Lib.hid hn
      clear hws hn
      go_enter Tryd.func7, Tryd.ntmps7
      go_wp2_with fail
      refine HA.out.mono ?_
      rintro e w2 ⟨rfl, hb⟩
      have HB1 := Lib.hid hb
      clear hb
      go_wp2_with fail
      refine (HW0.out _).mono ?_
      rintro e w3 ⟨a, c, rfl, ho, hb⟩
      have HB2 : Hid (Below w.heap.size w w3) := HB1.out.trans (hb.mono HB1.out.size)
      have HO := Lib.hid (own_row ho).1
      clear hb ho
      go_wp2_with fail
      go_loopw [5, 26] (fun t i wr => ∃ (T : ByteArray) (k : Nat), k ≤ n ∧ i = .int .i64 (k : Int) ∧ t = .string T ∧ T.data.toList = M.joined (ws.take k) ∧ Below w3.heap.size w3 wr) (fun _ i _ => n - (intOf i).toNat)
      case atStart => exact ⟨⟨#[]⟩, 0, by omega, rfl, rfl, rfl, Below.refl _ _⟩
      case round =>
        obtain ⟨T, k, hk, rfl, rfl, hT, hb⟩ := hrel
        have HT := Lib.hid hT
        have Hb := Lib.hid hb
        have hTs : T.size ≤ 400000 := by
          have h1 := joined_len (ws.take k) (fun x hx => HSh.out x (List.mem_of_mem_take hx))
          rw [← HT.out, ← Lib.size_eq, List.length_take, HN.out] at h1
          have h2 := HLe.out
          rw [HN.out] at h2
          omega
        have hTI : (T.size : Int) ≤ 400000 := by omega
        have HTs := Lib.hid hTs
        clear hT hb hTs
        by_cases hlt : k < n
        · have hk0 : (0 : Int) ≤ (k : Int) := by omega
          have hltI : (k : Int) < (n : Int) := by omega
          obtain ⟨b, off, t, rfl, hbT, ht, hcT⟩ := row_str HO.out k hlt
          have f1 : wr.cell? ⟨b, off + k, none⟩ = some (.string t) := by rw [Hb.out.cell (p := ⟨b, off + k, none⟩) hbT]; exact hcT
          obtain ⟨x, hx, hxt⟩ : ∃ x, ws[k]? = some x ∧ str x = t := by
            rw [List.getElem?_map] at ht
            cases hx : ws[k]? with
            | none => rw [hx] at ht; cases ht
            | some x => rw [hx] at ht; injection ht with ht; exact ⟨x, rfl, ht⟩
          have htl : t.data.toList = x := by rw [← hxt]; simp [str]
          have hxs := HSh.out x (List.mem_of_getElem? hx)
          have hts : t.size ≤ 20000 := by rw [Lib.size_eq, htl]; omega
          obtain ⟨Q, hQ⟩ : ∃ Q, str (M.quote t.data.toList) = Q := ⟨_, rfl⟩
          have HQ := Lib.hid (fun (w1 : World) (hb : Below w.heap.size w w1) => quote_lit t Q w1 (HL.out.below hb (Nat.le_refl _)).tabs hts hQ)
          have hQl : Q.data.toList = M.quote x := by rw [← hQ, htl]; simp [str]
          have hql := M.quote_len x
          have hqs : (Q.size : Int) ≤ 40000 := by rw [Lib.size_eq, hQl]; omega
          have HQl := Lib.hid hQl
          have Hx := Lib.hid hx
          have HB3 : Hid (Below w.heap.size w wr) := HB2.out.trans (Hb.out.mono HB2.out.size)
          clear hbT ht hcT hx hxt htl hxs hts hQ hQl hql
          go_wp2_with fail
          refine (HQ.out _ HB3.out).mono ?_
          rintro e w4 ⟨rfl, hb⟩
          have HB4 : Hid (Below w3.heap.size w3 w4) := Hb.out.trans (hb.mono Hb.out.size)
          clear hb
          go_wp2_with fail
          go_roundw
          case rel =>
            refine ⟨_, k + 1, by omega, by go_num, rfl, ?_, HB4.out⟩
            rw [joined_next ws k x Hx.out, ← HT.out, ← HQl.out]
            simp
          case measure => simp [intOf]; omega
        · obtain rfl : k = n := by omega
          have hge : ¬ ((k : Int) < (k : Int)) := by omega
          have HTl : Hid (T.data.toList = M.joined ws) := by
            have := HT.out
            rw [List.take_of_length_le (by rw [HN.out]; exact Nat.le_refl _)] at this
            exact Lib.hid this
          have HB3 : Hid (Below w.heap.size w wr) := HB2.out.trans (Hb.out.mono HB2.out.size)
          by_cases h400 : 400 < T.size
          · have h4 : (400 : Int) < (T.size : Int) := by omega
            clear h400
            go_wp2_with fail
            go_ret
            exact ⟨rfl, HB3.out⟩
          · have h4 : ¬ ((400 : Int) < (T.size : Int)) := by omega
            have hW := fun w1 => words_ok T w1 ws (by rw [HTl.out]; exact M.words_joined ws HLe.out (by rw [← HTl.out, ← Lib.size_eq]; omega))
            rw [HN.out] at hW
            have HW := Lib.hid hW
            clear h400 hW
            go_wp2_with fail
            refine (HW.out _).mono ?_
            rintro e w4 ⟨a', c', rfl, ho, hb⟩
            have HB4 : Hid (Below w.heap.size w w4) := HB3.out.trans (hb.mono HB3.out.size)
            have HS := Lib.hid (same_yes w4 _ a k c a' k c' (row_below (row_below HO.out Hb.out (Nat.le_refl _)) hb (Nat.le_refl _)) (own_row ho).1 (by omega))
            clear hb ho
            go_wp2_with fail
            refine HS.out.mono ?_
            rintro e w5 ⟨rfl, hb⟩
            have HB5 : Hid (Below w.heap.size w w5) := HB4.out.trans (hb.mono HB4.out.size)
            clear hb
            go_wp2_with fail
            go_ret
            exact ⟨rfl, HB5.out⟩


theorem own : ownKnob Tryd.prog.godebug = none := by kernel_rfl

set_option maxRecDepth 100000 in
theorem lifted (os : Os) (started : os.Started) (H : Type) (enc : TypeId × Value → H) :
    ReturnsInHanded {} Tryd.checked os 7 .any (fun w args => (Rows.tokenJoinsSpec.pre enc Tryd.prog Tryd.f7 [] false w args ∧ laidMetH Tryd.prog laidL w) ∧ sizedMet enc Tryd.prog Tryd.f7 (OpenSpec.ofChange Rows.tokenJoinsSpec) false w args)
      (Rows.tokenJoinsSpec.post enc Tryd.prog Tryd.f7 false true false false) := by
  refine returnsInHanded_of_change_and (C := Tryd.checked) (X := fun w _ => laidMetH Tryd.prog laidL w) (fun _ _ _ hh h => h.of_heap hh) own started (by kernel_rfl) Tryd.func7
    (ChangeSpec.witness_shaped (enc := enc) (C := Tryd.checked) (os := os) (X := fun w _ => laidMetH Tryd.prog laidL w) false (World.laidAll Tryd.prog os laidL) #[.string ByteArray.empty] 8 (World.laidAll_os _ _ _)
      (World.shaped_of_ZipB (by kernel_rfl) (by kernel_rfl)) (by kernel_rfl) (by kernel_rfl) (by kernel_rfl)
      (by rw [MakeChecks.laidMetH_plain _ _ _ (by kernel_rfl)]; exact laidMet_laidAll _ (by kernel_rfl) (by kernel_rfl))) ?_
  intro W base args ds gs before hval0 hW _ hsz hL _
  have hval : ∀ (j : Nat) t v, Tryd.f7.params[j]? = some t → args[j]? = some v → Value.okWide Tryd.prog W .any base t v := hval0
  have hW' := hW
  obtain ⟨p, q, hA0, hV, rfl, _, _⟩ := hW
  have hA : DataW.TrodAll enc Tryd.prog W 0 (fun _ => true) true Tryd.f7.params.toList args.toList ds p := hA0
  rw [Tryd.params7] at hA hval
  obtain ⟨v0, vs0, d0, ds0, p0, q0, hargs, rfl, rfl, h0, r0⟩ := trodAll_cons hA
  obtain ⟨rfl, rfl, rfl⟩ := trodAll_nil r0
  obtain rfl : args = #[v0] := by cases args; simp_all
  obtain ⟨rfl, rfl⟩ := trodVars_none hV
  obtain ⟨a0, rfl, rfl, rfl, w0⟩ := open_string Tryd.underlying9 (hval 0 9 v0 rfl rfl) h0
  have z0 : a0.size ≤ 140737488351232 := by
    have := sized_string hsz (j := 0) (t := 9) (by rw [Tryd.params7]; rfl) rfl
    rw [Lib.size_eq]
    exact this
  clear hA0 hval0
  simp only [List.append_nil] at hW'
  refine (walk a0 z0 W (lain_of hL)).mono fun e W' ⟨he, hb⟩ => ?_
  subst he
  exact ⟨_, rfl, _, _, _, [], [], [], hW', (trodAll_cons_mk (shut_bool Tryd.underlying4 _) trodAll_mk0), (trodAll_cons_mk (shut_string Tryd.underlying9 w0) trodAll_mk0), rfl, hb.frame _, fun h => by cases h⟩

theorem over : Rows.TokenJoinsSaid :=
  OpenClaim.holds_of_wide 7 Tryd.f7 rfl rfl rfl rfl rfl rfl rfl ⟨rfl, rfl, rfl, rfl, rfl⟩ rfl rfl rfl rfl rfl (by kernel_rfl) Tryd.func7 (by kernel_rfl)
    (of_decide_eq_true (by kernel_rfl)) (by unfold Func.isWrapper; first | (rw [if_pos (by decide +kernel)]; kernel_rfl) | (rw [if_neg (by decide +kernel)]; exact ⟨rfl, rfl⟩))
    (fun os started H enc _ => lifted os started H enc)

theorem proved : Rows.TokenJoinsCardSaid :=
  Claim7.holds_tied_plain_at .later [] [.data, .data, .data, .data, .sentinel, .sentinel, .pinned] true (true, "04bf3c768bf736b8fd82327442cdcf8f6d68ad994148245a372f4f7fa7294dad") true
    over (fun _ h => by cases h) (by kernel_rfl) (fun _ h => by cases h) tokenJoins_row_tie rfl ⟨rfl, rfl⟩ (by kernel_rfl) rfl
    (fun f fn hf hfn => by
      obtain rfl : f = 7 := Option.some.inj ((show Tryd.prog.funcNamed "seisin/seisinlaw03.TokenJoins" = some 7 by kernel_rfl).symm.trans hf) |>.symm
      obtain rfl : fn = Tryd.f7 := (Option.some.inj (Tryd.func7.symm.trans hfn)).symm
      exact ⟨by kernel_rfl, fun j t ht => by
        rw [Tryd.params7] at ht
        have hm : t ∈ [9] := by simpa using Array.mem_of_getElem? ht
        have hall : ([9].all fun u => !Tryd.prog.wantsStandIn u) = true := by kernel_rfl
        exact (show Tryd.prog.wantsStandIn t = false by simpa using List.all_eq_true.1 hall t hm)⟩)
    (by kernel_rfl)
#print axioms proved
end Go.Proofs.YtaldkdiijflmdaaDoor.tokenJoins
