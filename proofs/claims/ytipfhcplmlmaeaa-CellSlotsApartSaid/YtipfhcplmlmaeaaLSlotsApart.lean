/-
  PROVED: Unlike generations or texts have unlike slots, and no slot is a beginning of another one. CONDITIONS: none (any two generations, any two texts).
-/
import Derived.Test.YtipfhcplmlmaeaaOpens
namespace Go.Proofs.Ytipfhcplmlmaeaa.cellSlotsApart
open Go.ChangeShapes Go.WideShapes Go.ChangeAt Go.RowKit Go.Joins
open Go.ChangeMaps (open_string shut_string)
set_option linter.unusedVariables false
set_option linter.unusedSimpArgs false
set_option maxRecDepth 20000

theorem str_ne {a b : ByteArray} (h : a ≠ b) : (a.toList == b.toList) = false := by
  rw [Bool.eq_false_iff]
  intro he
  have := eq_of_beq he
  rw [ByteArray.toList_eq, ByteArray.toList_eq] at this
  exact h (ByteArray.ext (Array.ext' this))
theorem str_inj {l m : List UInt8} (h : str l = str m) : l = m := by
  have := congrArg (fun b : ByteArray => b.data.toList) h
  simpa [str] using this
theorem conv_mid {w : World} {b n cap lo hi : Nat} {l : List UInt8} (h : Row w (some ⟨b, 0, none⟩) n cap (u8s l)) (h1 : lo ≤ hi) (h2 : hi ≤ n) :
    (convert 23 9 (.slice (some ⟨b, lo, none⟩) (hi - lo) (cap - lo))).run Try.prog w = .ok (.string (str ((l.take hi).drop lo))) w := by
  have := row_mid h h1 h2
  rw [Nat.zero_add] at this
  have e : ((u8s l).take hi).drop lo = u8s ((l.take hi).drop lo) := by simp [u8s]
  rw [e] at this
  exact conv_row this
/-- where a row that is not empty, made by a call, lies -/
theorem own_at0 {w : World} {B : Nat} {a : Option Addr} {n cap : Nat} {l : List UInt8} (h : OwnB w B a n cap l) (hn : 0 < n) : ∃ b, a = some ⟨b, 0, none⟩ := by
  rcases h.row.2.2.2 with h0 | ⟨b, off, rfl, _⟩
  · have := h.len
    have h0' : l = [] := by simpa [u8s] using h0
    subst h0'; simp at this; omega
  · obtain ⟨_, rfl⟩ := h.at b off rfl
    exact ⟨b, rfl⟩
/-- what is asked of two slots -/
theorem apart_facts {g h : Int} {s t : ByteArray} (h1 : M.MayS g s) (h2 : M.MayS h t) (n : Nat) (hn : n = min (M.slot g s).length (M.slot h t).length) :
    ((str ((M.slot g s).drop 4)).toList == (str ((M.slot h t).drop 4)).toList) = decide (g = h ∧ s = t) ∧ (¬ (g = h ∧ s = t) → str ((M.slot g s).take n) ≠ str ((M.slot h t).take n)) ∧ (g = h ∧ s = t → str ((M.slot g s).take n) = str ((M.slot h t).take n)) := by
  refine ⟨?_, ?_, fun ⟨e1, e2⟩ => by rw [e1, e2]⟩
  · by_cases he : g = h ∧ s = t
    · obtain ⟨rfl, rfl⟩ := he
      simp
    · rw [decide_eq_false he]
      exact str_ne fun e => he (M.slot_drop_inj h1 h2 (str_inj e))
  · intro he e
    have e := str_inj e
    apply he
    by_cases hl : (M.slot g s).length ≤ (M.slot h t).length
    · have hn' : n = (M.slot g s).length := by omega
      rw [hn', List.take_length] at e
      exact M.slot_inj h1 h2 (x := (M.slot h t).drop (M.slot g s).length) (y := []) (by rw [List.append_nil]; exact (congrArg (· ++ (M.slot h t).drop (M.slot g s).length) e).trans (List.take_append_drop _ _))
    · have hn' : n = (M.slot h t).length := by omega
      rw [hn', List.take_length] at e
      exact M.slot_inj h1 h2 (x := []) (y := (M.slot g s).drop (M.slot h t).length) (by rw [List.append_nil]; exact ((congrArg (· ++ (M.slot g s).drop (M.slot h t).length) e.symm).trans (List.take_append_drop _ _)).symm)

set_option maxHeartbeats 4000000 in
theorem walk (x0 : Int) (x1 : Int) (s2 : ByteArray) (s3 : ByteArray) (w : World) (w0 : (Lit.int .i64 x0).wf = true) (w1 : (Lit.int .i64 x1).wf = true) (w2 : s2.size ≤ maxLen) (w3 : s3.size ≤ maxLen) :
    Calls Try.prog 7 #[.int .i64 x0, .int .i64 x1, .string s2, .string s3] w fun e w' => e = .returned (.bool true) ∧ Below w.heap.size w w' := by
  have HA := Lib.hid (awake_any w)
  clear w0 w1 w2 w3
  by_cases g2 : 1000 < s2.size
  · have g2I : (1000 : Int) < (s2.size : Int) := by omega
    clear g2
    go_enter Try.func7, Try.ntmps7
    go_wp2_with (go_at_call 8; refine HA.out.mono ?_; rintro e w1 ⟨rfl, hb1⟩; have HB1 := Lib.hid hb1; clear hb1)
    go_ret
    exact ⟨rfl, HB1.out⟩
  · have g2I : (s2.size : Int) ≤ 1000 := by omega
    by_cases g3 : 1000 < s3.size
    · have g3I : (1000 : Int) < (s3.size : Int) := by omega
      clear g2 g3
      go_enter Try.func7, Try.ntmps7
      go_wp2_with (go_at_call 8; refine HA.out.mono ?_; rintro e w1 ⟨rfl, hb1⟩; have HB1 := Lib.hid hb1; clear hb1)
      go_ret
      exact ⟨rfl, HB1.out⟩
    · have g3I : (s3.size : Int) ≤ 1000 := by omega
      clear g2 g3
      by_cases hm2 : M.MayS x0 s2
      · by_cases hm3 : M.MayS x1 s3
        · have HM := Lib.hid (And.intro hm2 hm3)
          have HS2 := Lib.hid (fun w => slot_yes w x0 s2 hm2)
          have HS3 := Lib.hid (fun w => slot_yes w x1 s3 hm3)
          have HL2 := Lib.hid (M.slot_small hm2)
          have HL3 := Lib.hid (M.slot_small hm3)
          obtain ⟨n, hn⟩ : ∃ n, n = min (M.slot x0 s2).length (M.slot x1 s3).length := ⟨_, rfl⟩
          obtain ⟨hf1, hf2, hf3⟩ := apart_facts hm2 hm3 n hn
          have hA0 : (((M.slot x0 s2).length : Int) == 0) = false := by rw [beq_eq_false_iff_ne]; have := HL2.out; omega
          have hB0 : (((M.slot x1 s3).length : Int) == 0) = false := by rw [beq_eq_false_iff_ne]; have := HL3.out; omega
          have hA1 : ((M.slot x0 s2).length : Int) ≤ 144 := by have := HL2.out; omega
          have hA4 : (4 : Int) ≤ ((M.slot x0 s2).length : Int) := by have := HL2.out; omega
          have hB4 : (4 : Int) ≤ ((M.slot x1 s3).length : Int) := by have := HL3.out; omega
          have hmin : min ((M.slot x0 s2).length : Int) ((M.slot x1 s3).length : Int) = (n : Int) := by omega
          have hnA : (n : Int) ≤ ((M.slot x0 s2).length : Int) := by omega
          have hnB : (n : Int) ≤ ((M.slot x1 s3).length : Int) := by omega
          have hn0 : (0 : Int) ≤ (n : Int) := by omega
          have Hn := Lib.hid hn
          have HF1 := Lib.hid hf1
          have HF2 := Lib.hid hf2
          have HF3 := Lib.hid hf3
          clear hm2 hm3 hn hf1 hf2 hf3
          generalize M.slot x0 s2 = la at *
          generalize M.slot x1 s3 = lb at *
          go_enter Try.func7, Try.ntmps7
          go_wp2_with (first
            | (go_at_call 8; refine HA.out.mono ?_; rintro e w1 ⟨rfl, hb1⟩; have HB1 := Lib.hid hb1; clear hb1)
            | (go_at_call 9; with_reducible refine (HS2.out _).mono ?_; rintro e w2 ⟨aA, cA, rfl, ho2, hb2⟩
               have HO2 := Lib.hid ho2
               have HB2 := Lib.hid (HB1.out.trans (hb2.mono HB1.out.size))
               clear ho2 hb2 HS2)
            | (go_at_call 9; with_reducible refine (HS3.out _).mono ?_; rintro e w3 ⟨aB, cB, rfl, ho3, hb3⟩
               have HO3 := Lib.hid ho3
               have HR2 := Lib.hid (row_below HO2.out.row hb3 (Nat.le_refl _))
               have HB3 := Lib.hid (HB2.out.trans (hb3.mono HB2.out.size))
               clear ho3 hb3 HS3))
          obtain ⟨bA, rfl⟩ := own_at0 HO2.out (by have := HL2.out; omega)
          obtain ⟨bB, rfl⟩ := own_at0 HO3.out (by have := HL3.out; omega)
          have hcA := HR2.out.2.1
          have hcB := HO3.out.row.2.1
          have hcA4 : ¬ cA = 4 := by have := HL2.out; omega
          have hcB4 : ¬ cB = 4 := by have := HL3.out; omega
          have k1 : ∀ m, (convert 23 9 (.slice (some ⟨bA, 4, none⟩) (la.length - 4) (cA - 4))).run Try.prog (w3.drewN m) = .ok (.string (str (la.drop 4))) (w3.drewN m) := fun m => by
            have := conv_mid (row_drewN HR2.out m) (show 4 ≤ la.length by have := HL2.out; omega) (Nat.le_refl _)
            rwa [List.take_length] at this
          have k2 : ∀ m, (convert 23 9 (.slice (some ⟨bB, 4, none⟩) (lb.length - 4) (cB - 4))).run Try.prog (w3.drewN m) = .ok (.string (str (lb.drop 4))) (w3.drewN m) := fun m => by
            have := conv_mid (row_drewN HO3.out.row m) (show 4 ≤ lb.length by have := HL3.out; omega) (Nat.le_refl _)
            rwa [List.take_length] at this
          have k3 : ∀ m, (convert 23 9 (.slice (some ⟨bA, 0, none⟩) n cA)).run Try.prog (w3.drewN m) = .ok (.string (str (la.take n))) (w3.drewN m) := fun m => by
            have := conv_mid (row_drewN HR2.out m) (show 0 ≤ n by omega) (by omega)
            simpa using this
          have k4 : ∀ m, (convert 23 9 (.slice (some ⟨bB, 0, none⟩) n cB)).run Try.prog (w3.drewN m) = .ok (.string (str (lb.take n))) (w3.drewN m) := fun m => by
            have := conv_mid (row_drewN HO3.out.row m) (show 0 ≤ n by omega) (by omega)
            simpa using this
          generalize str (la.drop 4) = p1 at *
          generalize str (lb.drop 4) = p2 at *
          generalize str (la.take n) = p3 at *
          generalize str (lb.take n) = p4 at *
          have hcAI : (la.length : Int) ≤ (cA : Int) := by omega
          have hcBI : (lb.length : Int) ≤ (cB : Int) := by omega
          by_cases he : x0 = x1 ∧ s2 = s3
          · obtain ⟨rfl, rfl⟩ := he
            have f1 : (p1.toList == p2.toList) = true := by have := HF1.out; simpa using this
            have f2 : (p3.toList == p4.toList) = true := by rw [HF3.out ⟨rfl, rfl⟩]; simp
            go_quiet (fail)
            go_wp2_with fail
            go_ret
            exact ⟨rfl, HB3.out.trans (below_drewN _ _ _)⟩
          · have f1 : (p1.toList == p2.toList) = false := by have := HF1.out; rw [decide_eq_false he] at this; exact this
            have f2 : (p3.toList == p4.toList) = false := str_ne (HF2.out he)
            by_cases h1 : x0 = x1
            · have h2 : (s2.toList == s3.toList) = false := str_ne fun h => he ⟨h1, h⟩
              subst h1
              clear he
              go_quiet (fail)
              go_wp2_with fail
              go_ret
              exact ⟨rfl, HB3.out.trans (below_drewN _ _ _)⟩
            · have h1' : (x0 == x1) = false := by simpa using h1
              clear he h1
              go_quiet (fail)
              go_wp2_with fail
              go_ret
              exact ⟨rfl, HB3.out.trans (below_drewN _ _ _)⟩
        · have HS2 := Lib.hid (fun w => slot_yes w x0 s2 hm2)
          have HS3 := Lib.hid (fun w => slot_no w x1 s3 hm3)
          have HL2 := Lib.hid (M.slot_small hm2)
          have hne : (((M.slot x0 s2).length : Int) == 0) = false := by rw [beq_eq_false_iff_ne]; have := HL2.out; omega
          clear hm2 hm3
          go_enter Try.func7, Try.ntmps7
          go_wp2_with (first
            | (go_at_call 8; refine HA.out.mono ?_; rintro e w1 ⟨rfl, hb1⟩; have HB1 := Lib.hid hb1; clear hb1)
            | (go_at_call 9; with_reducible refine (HS2.out _).mono ?_; rintro e w2 ⟨aA, cA, rfl, ho2, hb2⟩
               have HB2 := Lib.hid (HB1.out.trans (hb2.mono HB1.out.size))
               clear ho2 hb2 HS2)
            | (go_at_call 9; with_reducible refine (HS3.out _).mono ?_; rintro e w' ⟨rfl, rfl⟩))
          go_ret
          exact ⟨rfl, HB2.out⟩
      · by_cases hm3 : M.MayS x1 s3
        · have HS2 := Lib.hid (fun w => slot_no w x0 s2 hm2)
          have HS3 := Lib.hid (fun w => slot_yes w x1 s3 hm3)
          clear hm2 hm3
          go_enter Try.func7, Try.ntmps7
          go_wp2_with (first
            | (go_at_call 8; refine HA.out.mono ?_; rintro e w1 ⟨rfl, hb1⟩; have HB1 := Lib.hid hb1; clear hb1)
            | (go_at_call 9; with_reducible refine (HS2.out _).mono ?_; rintro e w' ⟨rfl, rfl⟩; clear HS2)
            | (go_at_call 9; with_reducible refine (HS3.out _).mono ?_; rintro e w3 ⟨aB, cB, rfl, ho3, hb3⟩
               have HB3 := Lib.hid (HB1.out.trans (hb3.mono HB1.out.size))
               clear ho3 hb3 HS3))
          go_ret
          exact ⟨rfl, HB3.out⟩
        · have HS2 := Lib.hid (fun w => slot_no w x0 s2 hm2)
          have HS3 := Lib.hid (fun w => slot_no w x1 s3 hm3)
          clear hm2 hm3
          go_enter Try.func7, Try.ntmps7
          go_wp2_with (first
            | (go_at_call 8; refine HA.out.mono ?_; rintro e w1 ⟨rfl, hb1⟩; have HB1 := Lib.hid hb1; clear hb1)
            | (go_at_call 9; with_reducible refine (HS2.out _).mono ?_; rintro e w' ⟨rfl, rfl⟩; clear HS2)
            | (go_at_call 9; with_reducible refine (HS3.out _).mono ?_; rintro e w' ⟨rfl, rfl⟩; clear HS3))
          go_ret
          exact ⟨rfl, HB1.out⟩

set_option maxRecDepth 100000 in
theorem lifted (os : Os) (started : os.Started) (H : Type) (enc : TypeId × Value → H) :
    ReturnsInHanded {} Try.checked os 7 .any (Rows.cellSlotsApartSpec.pre6 enc Try.prog Try.f7 Rows.cellSlotsApartRow.domain false) (Rows.cellSlotsApartSpec.post enc Try.prog Try.f7 false true false false) := by
  refine returnsInHanded_of_change (C := Try.checked) own started (by kernel_rfl) Try.func7
    (ChangeSpec.witness6 (enc := enc) (C := Try.checked) false ⟨#[], #[.int .i64 0, .int .i64 0, .string ⟨#[]⟩, .string ⟨#[]⟩], []⟩ 8 (by kernel_rfl) (by kernel_rfl) (by kernel_rfl) (by kernel_rfl)) ?_
  intro W base args ds gs before hval0 hW hcnd _
  have hval : ∀ (j : Nat) t v, Try.f7.params[j]? = some t → args[j]? = some v → Value.okWide Try.prog W .any base t v := hval0
  have hW' := hW
  obtain ⟨p, q, hA0, hV, rfl, hfz, hnd⟩ := hW
  have hA : DataW.TrodAll enc Try.prog W 0 (fun _ => true) true Try.f7.params.toList args.toList ds p := hA0
  rw [Try.params7] at hA hval
  obtain ⟨v0, vs0, d0, ds0, p0, q0, hargs, rfl, rfl, h0, r0'⟩ := trodAll_cons hA
  obtain ⟨v1, vs1, d1, ds1, p1, q1, rfl, rfl, rfl, h1, r1'⟩ := trodAll_cons r0'
  obtain ⟨v2, vs2, d2, ds2, p2, q2, rfl, rfl, rfl, h2, r2'⟩ := trodAll_cons r1'
  obtain ⟨v3, vs3, d3, ds3, p3, q3, rfl, rfl, rfl, h3, r3'⟩ := trodAll_cons r2'
  obtain ⟨rfl, rfl, rfl⟩ := trodAll_nil r3'
  obtain rfl : args = #[v0, v1, v2, v3] := by cases args; simp_all
  obtain ⟨rfl, rfl⟩ := trodVars_none hV
  obtain ⟨x0, rfl, rfl, rfl, w0⟩ := open_int Try.underlying2 (hval 0 2 v0 rfl rfl) h0
  obtain ⟨x1, rfl, rfl, rfl, w1⟩ := open_int Try.underlying2 (hval 1 2 v1 rfl rfl) h1
  obtain ⟨s2, rfl, rfl, rfl, w2⟩ := open_string Try.underlying9 (hval 2 9 v2 rfl rfl) h2
  obtain ⟨s3, rfl, rfl, rfl, w3⟩ := open_string Try.underlying9 (hval 3 9 v3 rfl rfl) h3
  clear hA0 hval0
  refine (walk x0 x1 s2 s3 W w0 w1 w2 w3).mono fun e W' ⟨he, bel⟩ => ?_
  subst he
  exact ⟨_, rfl, _, _, _, [], _, [], hW', trodAll_mk1 (shut_bool Try.underlying4 _), (trodAll_cons_mk (shut_int Try.underlying2 w0) (trodAll_cons_mk (shut_int Try.underlying2 w1) (trodAll_cons_mk (shut_string Try.underlying9 w2) (trodAll_cons_mk (shut_string Try.underlying9 w3) trodAll_mk0)))), rfl, bel.frame _, fun h => by cases h⟩

theorem over : Rows.cellSlotsApartRow.holds Try.pinned (OpenSpec.ofChange Rows.cellSlotsApartSpec) :=
  OpenClaim.holds_of_wide 7 Try.f7 rfl rfl rfl rfl rfl rfl rfl ⟨rfl, rfl, rfl, rfl, rfl⟩ rfl rfl rfl rfl rfl (by kernel_rfl) Try.func7 (by kernel_rfl)
    (of_decide_eq_true (by kernel_rfl)) (by unfold Func.isWrapper; first | (rw [if_pos (by decide +kernel)]; kernel_rfl) | (rw [if_neg (by decide +kernel)]; exact ⟨rfl, rfl⟩))
    (fun os started H enc _ => lifted os started H enc)

/-- the statement -/
theorem proved : Rows.CellSlotsApartSaid := over
#print axioms proved
end Go.Proofs.Ytipfhcplmlmaeaa.cellSlotsApart
