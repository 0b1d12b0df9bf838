/-
  Blanks ahead and behind, and a sign that passes over the rest, change nothing of what a line says. CONDITIONS: the listed variables of Go's library read as its text lays them (tied to it).
-/
import Derived.Test.YtaldkdiijflmdaaDoorLain
import Derived.Test.YtaldkdiijflmdaaDoorTie
import Derived.Test.YtaldkdiijflmdaaDoorCards
import Derived.ProofKit
import Derived.OpenShut
import Derived.ShutString
import Derived.Lay
import Derived.SevenTiedAt
import Derived.SizedLaws
namespace Go.Proofs.YtaldkdiijflmdaaDoor.tokenBlanks
open Go.ChangeShapes Go.WideShapes Go.ChangeAt Go.RowKit
open Go.ChangeMaps (open_string shut_string)
set_option linter.unusedVariables false
set_option linter.unusedSimpArgs false
set_option maxRecDepth 20000

theorem blanks_list (x : UInt8) (k : Nat) : ∀ b ∈ List.replicate k x, b = x := fun b hb => (List.mem_replicate.1 hb).2

theorem words_long (s : ByteArray) (h : 400 < s.size) : M.words s.data.toList = .error 5 := by
  unfold M.words
  rw [if_pos (by rw [← Lib.size_eq]; exact h)]
  rfl

theorem wrap_u8 (x : Int) (h : 0 ≤ x) (h2 : x < 256) : IntKind.u8.wrap x = x := by rw [IntKind.wrap_u8]; omega

/-- what the two loops make -/
def Spaced (a0 T : ByteArray) (i j : Nat) : Prop := T.data.toList = List.replicate i 32 ++ a0.data.toList ++ List.replicate j 9

theorem spaced_size {a0 T : ByteArray} {i j : Nat} (h : Spaced a0 T i j) : T.size = i + a0.size + j := by
  rw [Lib.size_eq, h, Lib.size_eq a0]; simp; omega

theorem spaced_front {a0 T : ByteArray} {i : Nat} (h : Spaced a0 T i 0) : Spaced a0 (⟨#[32]⟩ ++ T) (i + 1) 0 := by
  unfold Spaced at h ⊢
  rw [List.replicate_succ]
  simp [h]

theorem spaced_back {a0 T : ByteArray} {i j : Nat} (h : Spaced a0 T i j) : Spaced a0 (T ++ ⟨#[9]⟩) i (j + 1) := by
  unfold Spaced at h ⊢
  rw [List.replicate_succ']
  simp [h]

/-- what a call of Words gives, whatever it is -/
def Gives (s : ByteArray) (w : World) (res : Except Int (List (List UInt8))) (a : Option Addr) (n c : Nat) (k : Int) (w' : World) : Prop :=
  Below w.heap.size w w' ∧ ∃ l : List ByteArray, Row w' a n c (strs l) ∧ n ≤ 1000000 ∧ ((∃ ws, res = .ok ws ∧ l = ws.map str ∧ k = 0) ∨ (res = .error k ∧ l = []))

theorem gives_any (s : ByteArray) (w : World) (res : Except Int (List (List UInt8))) (h : M.words s.data.toList = res) :
    Calls Tryd.prog 13 #[.string s] w fun e w' => ∃ a n c k, e = .returned (.tuple #[.slice a n c, .int .i64 k]) ∧ Gives s w res a n c k w' := by
  refine (words_any s w).mono ?_
  intro e w' hp
  unfold WPost at hp
  rw [h] at hp
  cases res with
  | ok ws =>
    obtain ⟨a, n, c, rfl, ho, hb⟩ := hp
    have hn : n = ws.length := by have := ho.2.1; rw [strs_length, List.length_map] at this; exact this.symm
    have := M.words_le h
    exact ⟨a, n, c, 0, rfl, hb, ws.map str, (own_row ho).1, by omega, .inl ⟨ws, rfl, rfl, rfl⟩⟩
  | error k =>
    obtain ⟨rfl, hb⟩ := hp
    exact ⟨none, 0, 0, k, rfl, hb, [], ⟨rfl, by omega, by simp [maxLen], .inl rfl⟩, by omega, .inr ⟨rfl, rfl⟩⟩

/-- two calls that give the same -/
theorem gives_same {s t : ByteArray} {w w1 : World} {res : Except Int (List (List UInt8))} {a b : Option Addr} {n c m d : Nat} {k j : Int} {w' w'' : World} (h : Gives s w res a n c k w') (h' : Gives t w1 res b m d j w'') :
    k = j ∧ ∃ l : List ByteArray, Row w' a n c (strs l) ∧ Row w'' b m d (strs l) ∧ n ≤ 1000000 := by
  obtain ⟨_, l, h1, h2, h3⟩ := h
  obtain ⟨_, l', h1', h2', h3'⟩ := h'
  rcases h3 with ⟨ws, e1, rfl, rfl⟩ | ⟨e1, rfl⟩
  · rcases h3' with ⟨ws', e2, rfl, rfl⟩ | ⟨e2, rfl⟩
    · rw [e1] at e2
      injection e2 with e2
      subst e2
      exact ⟨rfl, _, h1, h1', h2⟩
    · rw [e1] at e2; cases e2
  · rcases h3' with ⟨ws', e2, rfl, rfl⟩ | ⟨e2, rfl⟩
    · rw [e1] at e2; cases e2
    · rw [e1] at e2
      injection e2 with e2
      exact ⟨e2, [], h1, h1', h2⟩

theorem words_over4 (a0 : ByteArray) (hlen : a0.size + 4 ≤ 400) : M.words (a0 ++ ⟨#[32, 35, 32, 120]⟩ : ByteArray).data.toList = M.words a0.data.toList := by
  have e : (a0 ++ ⟨#[32, 35, 32, 120]⟩ : ByteArray).data.toList = a0.data.toList ++ 32 :: 35 :: [32, 120] := by simp
  rw [e]
  exact M.words_over _ _ (by simp only [List.length_append, List.length_cons, List.length_nil]; rw [← Lib.size_eq]; omega) (fun _ _ => rfl)

theorem walk (a0 : ByteArray) (w0 : a0.size ≤ 140737488351232) (a1 : Int) (w1 : (Lit.int .u8 a1).wf = true) (a2 : Int) (w2 : (Lit.int .u8 a2).wf = true) (w : World) (hL : Lain w) :
    Calls Tryd.prog 4 #[.string a0, .int .u8 a1, .int .u8 a2] w fun e w' => e = .returned (.bool true) ∧ Below w.heap.size w w' := by
  have HA := Lib.hid (awake_any w hL)
  clear hL
  have r1 : 0 ≤ a1 ∧ a1 ≤ 255 := by simpa [Lit.wf, IntKind.min, IntKind.max, IntKind.signed, IntKind.bits] using w1
  have r2 : 0 ≤ a2 ∧ a2 ≤ 255 := by simpa [Lit.wf, IntKind.min, IntKind.max, IntKind.signed, IntKind.bits] using w2
  clear w1 w2
  by_cases hbig : 2048 < a0.size
  · have hI : (2048 : Int) < (a0.size : Int) := by omega
    clear hbig
    go_enter Tryd.func4, Tryd.ntmps4
    go_wp2_with (go_at_call 11; refine HA.out.mono ?_; rintro e w1 ⟨rfl, hb⟩; have HB1 := Lib.hid hb; clear hb)
    go_ret
    exact ⟨rfl, HB1.out⟩
  · have hI : ¬ ((2048 : Int) < (a0.size : Int)) := by omega
    have HS : Hid (a0.size ≤ 2048) := by show a0.size ≤ 2048; omega
    obtain ⟨p, hp⟩ : ∃ p : Nat, a1 % 5 = (p : Int) := ⟨(a1 % 5).toNat, by omega⟩
    obtain ⟨q, hq⟩ : ∃ q : Nat, a2 % 5 = (q : Int) := ⟨(a2 % 5).toNat, by omega⟩
    have p5 : (p : Int) < 5 := by omega
    have q5 : (q : Int) < 5 := by omega
    have tp : a1.tmod 5 = (p : Int) := by rw [Int.tmod_eq_emod_of_nonneg (by omega)]; exact hp
    have tq : a2.tmod 5 = (q : Int) := by rw [Int.tmod_eq_emod_of_nonneg (by omega)]; exact hq
    obtain ⟨r10, r11⟩ := r1
    obtain ⟨r20, r21⟩ := r2
    clear hbig w0
    go_enter Tryd.func4, Tryd.ntmps4
    go_wp2_with fail
    refine HA.out.mono ?_
    rintro e w1 ⟨rfl, hb⟩
    have HB1 := Lib.hid hb
    clear hb
    go_wp2_with fail
    go_loop [7, 8] (fun t i => ∃ (T : ByteArray) (k : Nat), k ≤ p ∧ i = .int .i64 (k : Int) ∧ t = .string T ∧ Spaced a0 T k 0) (fun _ i => p - (intOf i).toNat)
    case atStart => exact ⟨a0, 0, by omega, rfl, rfl, by simp [Spaced]⟩
    case round =>
      obtain ⟨T, k, hk, rfl, rfl, hsp⟩ := hrel
      have HSp := Lib.hid hsp
      clear hsp
      by_cases hlt : k < p
      · have hltI : (k : Int) < (p : Int) := by omega
        have hTs : (T.size : Int) ≤ 2053 := by have := spaced_size HSp.out; have := HS.out; omega
        go_wp2_with fail
        go_round
        case rel => exact ⟨_, k + 1, by omega, by go_num, rfl, spaced_front HSp.out⟩
        case measure => simp [intOf]; omega
      · obtain rfl : k = p := by omega
        have hge : ¬ ((k : Int) < (k : Int)) := by omega
        go_wp2_with fail
        go_loop [7, 9] (fun t i => ∃ (T : ByteArray) (j : Nat), j ≤ q ∧ i = .int .i64 (j : Int) ∧ t = .string T ∧ Spaced a0 T k j) (fun _ i => q - (intOf i).toNat)
        case atStart => exact ⟨T, 0, by omega, rfl, rfl, HSp.out⟩
        case round =>
          clear HSp
          obtain ⟨T, j, hj, rfl, rfl, hsp⟩ := hrel
          have HSp := Lib.hid hsp
          clear hsp
          have hTs : (T.size : Int) ≤ 2060 := by have := spaced_size HSp.out; have := HS.out; omega
          by_cases hlt : j < q
          · have hltI : (j : Int) < (q : Int) := by omega
            go_wp2_with fail
            go_round
            case rel => exact ⟨_, j + 1, by omega, by go_num, rfl, spaced_back HSp.out⟩
            case measure => simp [intOf]; omega
          · obtain rfl : j = q := by omega
            have hge2 : ¬ ((j : Int) < (j : Int)) := by omega
            have HG0 := Lib.hid (fun w1 => gives_any a0 w1 _ rfl)
            by_cases h400 : 400 < T.size
            · have h4 : (400 : Int) < (T.size : Int) := by omega
              have HW := Lib.hid (fun w1 => words_no T w1 5 (words_long T h400))
              clear h400
              go_wp2_with fail
              refine (HG0.out _).mono ?_
              rintro e w2 ⟨a, n, c, kk, rfl, hg⟩
              have HB2 : Hid (Below w.heap.size w w2) := HB1.out.trans (hg.1.mono HB1.out.size)
              clear hg
              go_wp2_with fail
              refine (HW.out _).mono ?_
              rintro e w3 ⟨rfl, hb⟩
              have HB3 : Hid (Below w.heap.size w w3) := HB2.out.trans (hb.mono HB2.out.size)
              clear hb
              go_wp2_with fail
              go_ret
              exact ⟨rfl, HB3.out⟩
            · have h4 : ¬ ((400 : Int) < (T.size : Int)) := by omega
              have hwt : M.words T.data.toList = M.words a0.data.toList := by
                have := HSp.out
                unfold Spaced at this
                rw [this]
                exact M.words_blanks _ _ _ (blanks_list 32 k) (blanks_list 9 j) (by rw [← this, ← Lib.size_eq]; omega)
              have HG1 := Lib.hid (fun w1 => gives_any T w1 _ hwt)
              by_cases h396 : 400 < T.size + 4
              · have h5 : (400 : Int) < (T.size : Int) + 4 := by omega
                have HG2 := Lib.hid (fun w1 => gives_any (T ++ ⟨#[32, 35, 32, 120]⟩) w1 _ rfl)
                clear h400 h396 hwt
                go_wp2_with fail
                refine (HG0.out _).mono ?_
                rintro e w2 ⟨a, n, c, kk, rfl, hg⟩
                have HB2 : Hid (Below w.heap.size w w2) := HB1.out.trans (hg.1.mono HB1.out.size)
                have Hg0 := Lib.hid hg
                clear hg
                go_wp2_with fail
                refine (HG1.out _).mono ?_
                rintro e w3 ⟨a', n', c', kk', rfl, hg⟩
                have HB3 : Hid (Below w.heap.size w w3) := HB2.out.trans (hg.1.mono HB2.out.size)
                have Hb3 := Lib.hid hg.1
                have Hs := Lib.hid (gives_same Hg0.out hg)
                clear hg
                obtain rfl : kk = kk' := Hs.out.1
                go_wp2_with fail
                refine (HG2.out _).mono ?_
                rintro e w4 ⟨a2, n2, c2, k2, rfl, hg⟩
                have HB4 : Hid (Below w.heap.size w w4) := HB3.out.trans (hg.1.mono HB3.out.size)
                have Hb4 := Lib.hid hg.1
                clear hg
                obtain ⟨_, l, g1, g2, g3⟩ := Hs.out
                have HSm := Lib.hid (same_yes w4 l a n c a' n' c' (row_below (row_below g1 Hb3.out (Nat.le_refl _)) Hb4.out (Nat.le_refl _)) (row_below g2 Hb4.out (Nat.le_refl _)) g3)
                have hkk : (kk == kk) = true := by simp
                clear g1 g2 g3
                go_wp2_with fail
                refine HSm.out.mono ?_
                rintro e w5 ⟨rfl, hb⟩
                have HB5 : Hid (Below w.heap.size w w5) := HB4.out.trans (hb.mono HB4.out.size)
                clear hb
                go_wp2_with fail
                go_ret
                exact ⟨rfl, HB5.out⟩
              · have h5 : ¬ ((400 : Int) < (T.size : Int) + 4) := by omega
                have HG2 := Lib.hid (fun w1 => gives_any (T ++ ⟨#[32, 35, 32, 120]⟩) w1 _ ((words_over4 T (by omega)).trans hwt))
                clear h400 h396 hwt
                go_wp2_with fail
                refine (HG0.out _).mono ?_
                rintro e w2 ⟨a, n, c, kk, rfl, hg⟩
                have HB2 : Hid (Below w.heap.size w w2) := HB1.out.trans (hg.1.mono HB1.out.size)
                have Hg0 := Lib.hid hg
                clear hg
                go_wp2_with fail
                refine (HG1.out _).mono ?_
                rintro e w3 ⟨a', n', c', kk', rfl, hg⟩
                have HB3 : Hid (Below w.heap.size w w3) := HB2.out.trans (hg.1.mono HB2.out.size)
                have Hb3 := Lib.hid hg.1
                have Hs := Lib.hid (gives_same Hg0.out hg)
                have Hg1 := Lib.hid hg
                clear hg
                obtain rfl : kk = kk' := Hs.out.1
                go_wp2_with fail
                refine (HG2.out _).mono ?_
                rintro e w4 ⟨a2, n2, c2, k2, rfl, hg⟩
                have HB4 : Hid (Below w.heap.size w w4) := HB3.out.trans (hg.1.mono HB3.out.size)
                have Hb4 := Lib.hid hg.1
                have Hs2 := Lib.hid (gives_same Hg1.out hg)
                clear hg
                obtain rfl : kk = k2 := Hs2.out.1
                obtain ⟨_, l, g1, g2, g3⟩ := Hs.out
                obtain ⟨_, l2, g4, g5, g6⟩ := Hs2.out
                have HSm := Lib.hid (same_yes w4 l a n c a' n' c' (row_below (row_below g1 Hb3.out (Nat.le_refl _)) Hb4.out (Nat.le_refl _)) (row_below g2 Hb4.out (Nat.le_refl _)) g3)
                have HSn : Hid (∀ w5, Below w4.heap.size w4 w5 → Calls Tryd.prog 14 #[.slice a2 n2 c2, .slice a' n' c'] w5 fun e w' => e = .returned (.bool true) ∧ Below w5.heap.size w5 w') :=
                  fun w5 hb => same_yes w5 l2 a2 n2 c2 a' n' c' (row_below g5 hb (Nat.le_refl _)) (row_below (row_below g4 Hb4.out (Nat.le_refl _)) hb (Nat.le_refl _)) (by have h1 := g5.1; have h2 := g4.1; omega)
                have hkk : (kk == kk) = true := by simp
                clear g1 g2 g3 g4 g5 g6
                go_wp2_with fail
                refine HSm.out.mono ?_
                rintro e w5 ⟨rfl, hb⟩
                have HB5 : Hid (Below w.heap.size w w5) := HB4.out.trans (hb.mono HB4.out.size)
                have Hb5 := Lib.hid hb
                clear hb
                go_wp2_with fail
                refine (HSn.out _ Hb5.out).mono ?_
                rintro e w6 ⟨rfl, hb⟩
                have HB6 : Hid (Below w.heap.size w w6) := HB5.out.trans (hb.mono HB5.out.size)
                clear hb
                go_wp2_with fail
                go_ret
                exact ⟨rfl, HB6.out⟩


theorem own : ownKnob Tryd.prog.godebug = none := by kernel_rfl

set_option maxRecDepth 100000 in
theorem lifted (os : Os) (started : os.Started) (H : Type) (enc : TypeId × Value → H) :
    ReturnsInHanded {} Tryd.checked os 4 .any (fun w args => (Rows.tokenBlanksSpec.pre enc Tryd.prog Tryd.f4 [] false w args ∧ laidMetH Tryd.prog laidL w) ∧ sizedMet enc Tryd.prog Tryd.f4 (OpenSpec.ofChange Rows.tokenBlanksSpec) false w args)
      (Rows.tokenBlanksSpec.post enc Tryd.prog Tryd.f4 false true false false) := by
  refine returnsInHanded_of_change_and (C := Tryd.checked) (X := fun w _ => laidMetH Tryd.prog laidL w) (fun _ _ _ hh h => h.of_heap hh) own started (by kernel_rfl) Tryd.func4
    (ChangeSpec.witness_shaped (enc := enc) (C := Tryd.checked) (os := os) (X := fun w _ => laidMetH Tryd.prog laidL w) false (World.laidAll Tryd.prog os laidL) #[.string ByteArray.empty, .int .u8 0, .int .u8 0] 8 (World.laidAll_os _ _ _)
      (World.shaped_of_ZipB (by kernel_rfl) (by kernel_rfl)) (by kernel_rfl) (by kernel_rfl) (by kernel_rfl)
      (by rw [MakeChecks.laidMetH_plain _ _ _ (by kernel_rfl)]; exact laidMet_laidAll _ (by kernel_rfl) (by kernel_rfl))) ?_
  intro W base args ds gs before hval0 hW _ hsz hL _
  have hval : ∀ (j : Nat) t v, Tryd.f4.params[j]? = some t → args[j]? = some v → Value.okWide Tryd.prog W .any base t v := hval0
  have hW' := hW
  obtain ⟨p, q, hA0, hV, rfl, _, _⟩ := hW
  have hA : DataW.TrodAll enc Tryd.prog W 0 (fun _ => true) true Tryd.f4.params.toList args.toList ds p := hA0
  rw [Tryd.params4] at hA hval
  obtain ⟨v0, vs0, d0, ds0, p0, q0, hargs, rfl, rfl, h0, r0⟩ := trodAll_cons hA
  obtain ⟨v1, vs1, d1, ds1, p1, q1, rfl, rfl, rfl, h1, r1⟩ := trodAll_cons r0
  obtain ⟨v2, vs2, d2, ds2, p2, q2, rfl, rfl, rfl, h2, r2⟩ := trodAll_cons r1
  obtain ⟨rfl, rfl, rfl⟩ := trodAll_nil r2
  obtain rfl : args = #[v0, v1, v2] := by cases args; simp_all
  obtain ⟨rfl, rfl⟩ := trodVars_none hV
  obtain ⟨a0, rfl, rfl, rfl, w0⟩ := open_string Tryd.underlying9 (hval 0 9 v0 rfl rfl) h0
  obtain ⟨a1, rfl, rfl, rfl, w1⟩ := open_int Tryd.underlying5 (hval 1 5 v1 rfl rfl) h1
  obtain ⟨a2, rfl, rfl, rfl, w2⟩ := open_int Tryd.underlying5 (hval 2 5 v2 rfl rfl) h2
  have z0 : a0.size ≤ 140737488351232 := by
    have := sized_string hsz (j := 0) (t := 9) (by rw [Tryd.params4]; rfl) rfl
    rw [Lib.size_eq]
    exact this
  clear hA0 hval0
  simp only [List.append_nil] at hW'
  refine (walk a0 z0 a1 w1 a2 w2 W (lain_of hL)).mono fun e W' ⟨he, hb⟩ => ?_
  subst he
  exact ⟨_, rfl, _, _, _, [], [], [], hW', (trodAll_cons_mk (shut_bool Tryd.underlying4 _) trodAll_mk0), (trodAll_cons_mk (shut_string Tryd.underlying9 w0) (trodAll_cons_mk (shut_int Tryd.underlying5 w1) (trodAll_cons_mk (shut_int Tryd.underlying5 w2) trodAll_mk0))), rfl, hb.frame _, fun h => by cases h⟩

theorem over : Rows.TokenBlanksSaid :=
  OpenClaim.holds_of_wide 4 Tryd.f4 rfl rfl rfl rfl rfl rfl rfl ⟨rfl, rfl, rfl, rfl, rfl⟩ rfl rfl rfl rfl rfl (by kernel_rfl) Tryd.func4 (by kernel_rfl)
    (of_decide_eq_true (by kernel_rfl)) (by unfold Func.isWrapper; first | (rw [if_pos (by decide +kernel)]; kernel_rfl) | (rw [if_neg (by decide +kernel)]; exact ⟨rfl, rfl⟩))
    (fun os started H enc _ => lifted os started H enc)

theorem proved : Rows.TokenBlanksCardSaid :=
  Claim7.holds_tied_plain_at .later [] [.data, .data, .data, .data, .sentinel, .sentinel, .pinned] true (true, "04bf3c768bf736b8fd82327442cdcf8f6d68ad994148245a372f4f7fa7294dad") true
    over (fun _ h => by cases h) (by kernel_rfl) (fun _ h => by cases h) tokenBlanks_row_tie rfl ⟨rfl, rfl⟩ (by kernel_rfl) rfl
    (fun f fn hf hfn => by
      obtain rfl : f = 4 := Option.some.inj ((show Tryd.prog.funcNamed "seisin/seisinlaw03.TokenBlanks" = some 4 by kernel_rfl).symm.trans hf) |>.symm
      obtain rfl : fn = Tryd.f4 := (Option.some.inj (Tryd.func4.symm.trans hfn)).symm
      exact ⟨by kernel_rfl, fun j t ht => by
        rw [Tryd.params4] at ht
        have hm : t ∈ [9, 5, 5] := by simpa using Array.mem_of_getElem? ht
        have hall : ([9, 5, 5].all fun u => !Tryd.prog.wantsStandIn u) = true := by kernel_rfl
        exact (show Tryd.prog.wantsStandIn t = false by simpa using List.all_eq_true.1 hall t hm)⟩)
    (by kernel_rfl)
#print axioms proved
end Go.Proofs.YtaldkdiijflmdaaDoor.tokenBlanks
