/-
  What stands behind a sign that passes all over changes nothing of what a line says. CONDITIONS: the listed variables of Go's library read as its text lays them (tied to it).
-/
import Derived.Test.YtaldkdiijflmdaaDoorLain
import Derived.Test.YtaldkdiijflmdaaDoorTie
import Derived.Test.YtaldkdiijflmdaaDoorCards
import Derived.ProofKit
import Derived.OpenShut
import Derived.ShutString
import Derived.Lay
import Derived.SevenTiedAt
import Derived.SizedLaws
namespace Go.Proofs.YtaldkdiijflmdaaDoor.tokenBehind
open Go.ChangeShapes Go.WideShapes Go.ChangeAt Go.RowKit
open Go.ChangeMaps (open_string shut_string)
set_option linter.unusedVariables false
set_option linter.unusedSimpArgs false
set_option maxRecDepth 20000

theorem words_over2 {l t : List UInt8} {ws : List (List UInt8)} (hlen : (l ++ 32 :: 35 :: t).length ≤ 400) (h : M.words l = .ok ws) : M.words (l ++ 32 :: 35 :: t) = .ok ws := by
  simp only [List.length_append, List.length_cons] at hlen
  unfold M.words at h ⊢
  rw [if_neg (by simp only [List.length_append, List.length_cons]; omega)]
  rw [if_neg (by omega)] at h
  rw [M.runes_cut _ _ _ (by decide), M.runes_ascii _ _ (by decide)]
  have : ∀ (a : List Nat) (s : M.St) ws, M.Ok s → M.fin (M.go a s) = .ok ws → M.fin (M.go (a ++ 32 :: 35 :: M.runes t) s) = .ok ws := by
    intro a
    induction a with
    | nil =>
      intro s ws hs hf
      simp only [List.nil_append, M.go] at hf ⊢
      unfold M.fin at hf
      simp only at hf
      rw [if_neg (by simp)]
      cases hst : M.step 32 s with
      | error e => rw [hst] at hf; cases hf
      | ok s' =>
        rw [hst] at hf
        simp only at hf ⊢
        split at hf
        · rename_i h0
          rw [if_pos (by simp [h0])]
          unfold M.fin
          simp only
          rw [M.step_blank0 32 s' h0 M.blank_32]
          simp only
          rw [if_pos h0]
          exact hf
        · cases hf
    | cons r a ih =>
      intro s ws hs hf
      simp only [List.cons_append, M.go] at hf ⊢
      split
      · rename_i h0; rw [if_pos h0] at hf; exact hf
      · rename_i h0
        rw [if_neg h0] at hf
        cases hst : M.step r s with
        | error e => rw [hst] at hf; cases hf
        | ok s' => rw [hst] at hf; exact ih s' ws (M.step_ok hs hst).1 hf
  exact this _ _ ws M.ok0 h

theorem words_some (s : ByteArray) (w : World) :
    Calls Tryd.prog 13 #[.string s] w fun e w' => ∃ (a : Option Addr) (n c : Nat) (k : Int), e = .returned (.tuple #[.slice a n c, .int .i64 k]) ∧ Below w.heap.size w w' := by
  refine (words_any s w).mono ?_
  intro e w' hp
  unfold WPost at hp
  cases h : M.words s.data.toList with
  | ok ws => rw [h] at hp; obtain ⟨a, n, c, rfl, _, hb⟩ := hp; exact ⟨a, n, c, 0, rfl, hb⟩
  | error k => rw [h] at hp; obtain ⟨rfl, hb⟩ := hp; exact ⟨none, 0, 0, k, rfl, hb⟩

theorem words_code {l : List UInt8} {k : Int} (h : M.words l = .error k) : k = 4 ∨ k = 5 := by
  unfold M.words at h
  split at h
  · injection h with h; exact .inr h.symm
  · have hg : ∀ (a : List Nat) (s : M.St) k, M.go a s = .error k → k = 4 ∨ k = 5 := by
      intro a
      induction a with
      | nil => intro s k h; cases h
      | cons r a ih =>
        intro s k h
        simp only [M.go] at h
        split at h
        · cases h
        · cases hst : M.step r s with
          | error c => rw [hst] at h; injection h with h; subst h; exact step_err hst
          | ok s' => rw [hst] at h; exact ih s' k h
    cases hgo : M.go (M.runes l) M.st0 with
    | error c => rw [hgo] at h; injection h with h; subst h; exact hg _ _ _ hgo
    | ok s =>
      rw [hgo] at h
      unfold M.fin at h
      simp only at h
      split at h
      · injection h with h; exact .inl h.symm
      · split at h
        · cases h
        · injection h with h; exact .inl h.symm

theorem walk (a0 : ByteArray) (w0 : a0.size ≤ 140737488351232) (a1 : ByteArray) (w1 : a1.size ≤ 140737488351232) (w : World) (hL : Lain w) :
    Calls Tryd.prog 8 #[.string a0, .string a1] w fun e w' => e = .returned (.bool true) ∧ Below w.heap.size w w' := by
  have HA := Lib.hid (awake_any w hL)
  clear hL
  have m0 : (a0.size : Int) ≤ 140737488351232 := by omega
  have m1 : (a1.size : Int) ≤ 140737488351232 := by omega
  by_cases hb0 : 390 < a0.size + a1.size
  · have hI : (390 : Int) < (a0.size : Int) + (a1.size : Int) := by omega
    clear hb0 w0 w1
    go_enter Tryd.func8, Tryd.ntmps8
    go_wp2_with (go_at_call 11; refine HA.out.mono ?_; rintro e w2 ⟨rfl, hb⟩; have HB1 := Lib.hid hb; clear hb)
    go_ret
    exact ⟨rfl, HB1.out⟩
  · have hI : ¬ ((390 : Int) < (a0.size : Int) + (a1.size : Int)) := by omega
    have HZ : Hid (a0.size + a1.size ≤ 390) := by show a0.size + a1.size ≤ 390; omega
    have hz0 : (a0.size : Int) ≤ 390 := by omega
    have hz1 : (a1.size : Int) ≤ 390 := by omega
    clear hb0 w0 w1
    have e1 : (a0 ++ ⟨#[32, 35]⟩ : ByteArray).data.toList = a0.data.toList ++ 32 :: 35 :: [] := by simp
    have e2 : (a0 ++ ⟨#[32, 35]⟩ ++ a1 : ByteArray).data.toList = a0.data.toList ++ 32 :: 35 :: a1.data.toList := by simp
    cases hws : M.words a0.data.toList with
    | error k =>
      have hk := words_code hws
      have HW0 := Lib.hid (fun w1 => words_no a0 w1 k hws)
      have HW1 := Lib.hid (fun w1 => words_some (a0 ++ ⟨#[32, 35]⟩) w1)
      have HW2 := Lib.hid (fun w1 => words_some (a0 ++ ⟨#[32, 35]⟩ ++ a1) w1)
      have hk0 : ((k : Int) != 0) = true := by rcases hk with rfl | rfl <;> rfl
      clear hk hws e1 e2
      go_enter Tryd.func8, Tryd.ntmps8
      go_wp2_with fail
      refine HA.out.mono ?_
      rintro e w2 ⟨rfl, hb⟩
      have HB1 := Lib.hid hb
      clear hb
      go_wp2_with fail
      refine (HW1.out _).mono ?_
      rintro e w3 ⟨a, n, c, k1, rfl, hb⟩
      have HB2 : Hid (Below w.heap.size w w3) := HB1.out.trans (hb.mono HB1.out.size)
      clear hb
      go_wp2_with fail
      refine (HW2.out _).mono ?_
      rintro e w4 ⟨a', n', c', k2, rfl, hb⟩
      have HB3 : Hid (Below w.heap.size w w4) := HB2.out.trans (hb.mono HB2.out.size)
      clear hb
      go_wp2_with fail
      refine (HW0.out _).mono ?_
      rintro e w5 ⟨rfl, hb⟩
      have HB4 : Hid (Below w.heap.size w w5) := HB3.out.trans (hb.mono HB3.out.size)
      clear hb
      go_wp2_with fail
      go_ret
      exact ⟨rfl, HB4.out⟩
    | ok ws =>
      have HW0 := Lib.hid (fun w1 => words_ok a0 w1 ws hws)
      have HW1 := Lib.hid (fun w1 => words_ok (a0 ++ ⟨#[32, 35]⟩) w1 ws (by rw [e1]; exact words_over2 (by simp only [List.length_append, List.length_cons, List.length_nil]; rw [← Lib.size_eq]; have := HZ.out; omega) hws))
      have HW2 := Lib.hid (fun w1 => words_ok (a0 ++ ⟨#[32, 35]⟩ ++ a1) w1 ws (by rw [e2]; exact words_over2 (by simp only [List.length_append, List.length_cons]; rw [← Lib.size_eq, ← Lib.size_eq]; have := HZ.out; omega) hws))
      have hle := M.words_le hws
      have HLe : Hid (ws.length ≤ 1000000) := by show ws.length ≤ 1000000; omega
      generalize hn : ws.length = n at *
      clear hws e1 e2 hle hn
      go_enter Tryd.func8, Tryd.ntmps8
      go_wp2_with fail
      refine HA.out.mono ?_
      rintro e w2 ⟨rfl, hb⟩
      have HB1 := Lib.hid hb
      clear hb
      go_wp2_with fail
      refine (HW1.out _).mono ?_
      rintro e w3 ⟨a, c, rfl, ho, hb⟩
      have HB2 : Hid (Below w.heap.size w w3) := HB1.out.trans (hb.mono HB1.out.size)
      have HO1 := Lib.hid (own_row ho).1
      clear hb ho
      go_wp2_with fail
      refine (HW2.out _).mono ?_
      rintro e w4 ⟨a', c', rfl, ho, hb⟩
      have HB3 : Hid (Below w.heap.size w w4) := HB2.out.trans (hb.mono HB2.out.size)
      have HO2 := Lib.hid (own_row ho).1
      have HO1b := Lib.hid (row_below HO1.out hb (Nat.le_refl _))
      clear hb ho
      go_wp2_with fail
      refine (HW0.out _).mono ?_
      rintro e w5 ⟨a2, c2, rfl, ho, hb⟩
      have HB4 : Hid (Below w.heap.size w w5) := HB3.out.trans (hb.mono HB3.out.size)
      have HS := Lib.hid (same_yes w5 _ a n c a' n c' (row_below HO1b.out hb (Nat.le_refl _)) (row_below HO2.out hb (Nat.le_refl _)) HLe.out)
      clear hb ho
      go_wp2_with fail
      refine HS.out.mono ?_
      rintro e w6 ⟨rfl, hb⟩
      have HB5 : Hid (Below w.heap.size w w6) := HB4.out.trans (hb.mono HB4.out.size)
      clear hb
      go_wp2_with fail
      go_ret
      exact ⟨rfl, HB5.out⟩


theorem own : ownKnob Tryd.prog.godebug = none := by kernel_rfl

set_option maxRecDepth 100000 in
theorem lifted (os : Os) (started : os.Started) (H : Type) (enc : TypeId × Value → H) :
    ReturnsInHanded {} Tryd.checked os 8 .any (fun w args => (Rows.tokenBehindSpec.pre enc Tryd.prog Tryd.f8 [] false w args ∧ laidMetH Tryd.prog laidL w) ∧ sizedMet enc Tryd.prog Tryd.f8 (OpenSpec.ofChange Rows.tokenBehindSpec) false w args)
      (Rows.tokenBehindSpec.post enc Tryd.prog Tryd.f8 false true false false) := by
  refine returnsInHanded_of_change_and (C := Tryd.checked) (X := fun w _ => laidMetH Tryd.prog laidL w) (fun _ _ _ hh h => h.of_heap hh) own started (by kernel_rfl) Tryd.func8
    (ChangeSpec.witness_shaped (enc := enc) (C := Tryd.checked) (os := os) (X := fun w _ => laidMetH Tryd.prog laidL w) false (World.laidAll Tryd.prog os laidL) #[.string ByteArray.empty, .string ByteArray.empty] 8 (World.laidAll_os _ _ _)
      (World.shaped_of_ZipB (by kernel_rfl) (by kernel_rfl)) (by kernel_rfl) (by kernel_rfl) (by kernel_rfl)
      (by rw [MakeChecks.laidMetH_plain _ _ _ (by kernel_rfl)]; exact laidMet_laidAll _ (by kernel_rfl) (by kernel_rfl))) ?_
  intro W base args ds gs before hval0 hW _ hsz hL _
  have hval : ∀ (j : Nat) t v, Tryd.f8.params[j]? = some t → args[j]? = some v → Value.okWide Tryd.prog W .any base t v := hval0
  have hW' := hW
  obtain ⟨p, q, hA0, hV, rfl, _, _⟩ := hW
  have hA : DataW.TrodAll enc Tryd.prog W 0 (fun _ => true) true Tryd.f8.params.toList args.toList ds p := hA0
  rw [Tryd.params8] at hA hval
  obtain ⟨v0, vs0, d0, ds0, p0, q0, hargs, rfl, rfl, h0, r0⟩ := trodAll_cons hA
  obtain ⟨v1, vs1, d1, ds1, p1, q1, rfl, rfl, rfl, h1, r1⟩ := trodAll_cons r0
  obtain ⟨rfl, rfl, rfl⟩ := trodAll_nil r1
  obtain rfl : args = #[v0, v1] := by cases args; simp_all
  obtain ⟨rfl, rfl⟩ := trodVars_none hV
  obtain ⟨a0, rfl, rfl, rfl, w0⟩ := open_string Tryd.underlying9 (hval 0 9 v0 rfl rfl) h0
  obtain ⟨a1, rfl, rfl, rfl, w1⟩ := open_string Tryd.underlying9 (hval 1 9 v1 rfl rfl) h1
  have z0 : a0.size ≤ 140737488351232 := by
    have := sized_string hsz (j := 0) (t := 9) (by rw [Tryd.params8]; rfl) rfl
    rw [Lib.size_eq]
    exact this
  have z1 : a1.size ≤ 140737488351232 := by
    have := sized_string hsz (j := 1) (t := 9) (by rw [Tryd.params8]; rfl) rfl
    rw [Lib.size_eq]
    exact this
  clear hA0 hval0
  simp only [List.append_nil] at hW'
  refine (walk a0 z0 a1 z1 W (lain_of hL)).mono fun e W' ⟨he, hb⟩ => ?_
  subst he
  exact ⟨_, rfl, _, _, _, [], [], [], hW', (trodAll_cons_mk (shut_bool Tryd.underlying4 _) trodAll_mk0), (trodAll_cons_mk (shut_string Tryd.underlying9 w0) (trodAll_cons_mk (shut_string Tryd.underlying9 w1) trodAll_mk0)), rfl, hb.frame _, fun h => by cases h⟩

theorem over : Rows.TokenBehindSaid :=
  OpenClaim.holds_of_wide 8 Tryd.f8 rfl rfl rfl rfl rfl rfl rfl ⟨rfl, rfl, rfl, rfl, rfl⟩ rfl rfl rfl rfl rfl (by kernel_rfl) Tryd.func8 (by kernel_rfl)
    (of_decide_eq_true (by kernel_rfl)) (by unfold Func.isWrapper; first | (rw [if_pos (by decide +kernel)]; kernel_rfl) | (rw [if_neg (by decide +kernel)]; exact ⟨rfl, rfl⟩))
    (fun os started H enc _ => lifted os started H enc)

theorem proved : Rows.TokenBehindCardSaid :=
  Claim7.holds_tied_plain_at .later [] [.data, .data, .data, .data, .sentinel, .sentinel, .pinned] true (true, "04bf3c768bf736b8fd82327442cdcf8f6d68ad994148245a372f4f7fa7294dad") true
    over (fun _ h => by cases h) (by kernel_rfl) (fun _ h => by cases h) tokenBehind_row_tie rfl ⟨rfl, rfl⟩ (by kernel_rfl) rfl
    (fun f fn hf hfn => by
      obtain rfl : f = 8 := Option.some.inj ((show Tryd.prog.funcNamed "seisin/seisinlaw03.TokenBehind" = some 8 by kernel_rfl).symm.trans hf) |>.symm
      obtain rfl : fn = Tryd.f8 := (Option.some.inj (Tryd.func8.symm.trans hfn)).symm
      exact ⟨by kernel_rfl, fun j t ht => by
        rw [Tryd.params8] at ht
        have hm : t ∈ [9, 9] := by simpa using Array.mem_of_getElem? ht
        have hall : ([9, 9].all fun u => !Tryd.prog.wantsStandIn u) = true := by kernel_rfl
        exact (show Tryd.prog.wantsStandIn t = false by simpa using List.all_eq_true.1 hall t hm)⟩)
    (by kernel_rfl)
#print axioms proved
end Go.Proofs.YtaldkdiijflmdaaDoor.tokenBehind
