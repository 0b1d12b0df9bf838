/-
  PROVED: whatever is lost, doubled and turned round, a receiver takes each item once, in order. CONDITIONS: none (any base, any epoch; items, of which up to 60 are added; which of those that are under way comes next, of which up to 400 are gone through).
-/
import Derived.Test.YtcnmkojlledipaaMrOnce
import Derived.BigQuiet
import Derived.Deep.RegionHeld3
import Derived.Deep.DeepCutAuto
import Derived.Deep.CutBlock
namespace Go.Proofs.Ytcnmkojlledipaa.mirrorOnce
open Go.ChangeShapes Go.WideShapes Go.ChangeAt Go.RowKit Go.Joins
open Go.ChangeMaps (open_string shut_string)
set_option linter.unusedVariables false
set_option linter.unusedSimpArgs false
set_option maxRecDepth 20000

open Mr

set_option maxHeartbeats 4000000 in
theorem walk (x0 : Int) (x1 : Int) (a2 : Option Addr) (n2 c2 : Nat) (l2 : List Mr.It) (a3 : Option Addr) (n3 c3 : Nat) (l3 : List Int) (w : World) (w0 : (Lit.int .i64 x0).wf = true) (w1 : (Lit.int .i64 x1).wf = true) (w2 : Mr.AL w a2 n2 c2 l2) (w3 : Mr.NR .u8 w a3 n3 c3 l3) :
    Calls Try.prog 5 #[.int .i64 x0, .int .i64 x1, .slice a2 n2 c2, .slice a3 n3 c3] w fun e w' => e = .returned (.bool true) ∧ Below w.heap.size w w' := by
  have HA := Lib.hid (fun w' => awake_any w')
  have HI2 := Lib.hid w2
  have HR3 := Lib.hid w3
  have hc2 : n2 ≤ 9223372036854775807 := by have := w2.2.1; have := w2.2.2.1; simp only [maxLen] at *; omega
  have hc3 : n3 ≤ 9223372036854775807 := by have := w3.2.1; have := w3.2.2.1; simp only [maxLen] at *; omega
  have hx1 := wf_i64 w1
  clear w0 w1 w2 w3
  by_cases hneg : x0 < 0 ∨ 1099511627776 < x0 ∨ x1 < 1
  · have hways : (x0 < 0) ∨ (¬ x0 < 0 ∧ 1099511627776 < x0) ∨ (¬ x0 < 0 ∧ ¬ 1099511627776 < x0 ∧ x1 < 1) := by omega
    clear hneg
    rcases hways with hn | ⟨hn, hm⟩ | ⟨hn, hm, hk⟩
    case' inl => have hd : decide (x0 < 0) = true := by simpa using hn
    case' inr.inl => have hd : decide (x0 < 0) = false := by simpa using hn
                     have hd2 : decide (1099511627776 < x0) = true := by simpa using hm
    case' inr.inr => have hd : decide (x0 < 0) = false := by simpa using hn
                     have hd2 : decide (1099511627776 < x0) = false := by simpa using hm
                     have hd3 : decide (x1 < 1) = true := by simpa using hk
    all_goals
      go_enter Try.func5, Try.ntmps5
      go_wp2_with (go_at_call 9; with_reducible refine (HA.out _).mono ?_; rintro e wa ⟨rfl, hb⟩
                   have HB := Lib.hid hb
                   clear hb)
      go_ret
      exact ⟨rfl, HB.out⟩
  · have hE : 0 ≤ x0 := by omega
    have hS : x0 ≤ 1099511627776 := by omega
    have hd0 : decide (x0 < 0) = false := by simp; omega
    have hd1 : decide (1099511627776 < x0) = false := by simp; omega
    have hd2 : decide (x1 < 1) = false := by simp; omega
    have HN : Hid (∀ w', Below w.heap.size w w' → Calls Try.prog 10 #[.int .i64 x0] w' fun e w'' => ∃ p, e = .returned (.pointer (some ⟨p, 0, none⟩)) ∧ Rx w w'' p x0 []) := Lib.hid fun w' hb => by
      refine (new_run w w' x0 hb).mono ?_
      rintro e w'' ⟨rfl, h1, _⟩
      rw [base_same hE (by omega)] at h1
      exact ⟨_, rfl, none, h1⟩
    clear hneg
    go_enter Try.func5, Try.ntmps5
    go_wp2_with (first
        | (go_at_call 9; with_reducible refine (HA.out _).mono ?_; rintro e wa ⟨rfl, hb⟩
           have HB := Lib.hid hb
           clear hb)
        | (go_at_call 10; with_reducible refine (HN.out _ HB.out).mono ?_; rintro e wb ⟨p, rfl, hb⟩
           have HX0 := Lib.hid hb
           clear hb))
    have HQ0 : Hid (Q w ((((wb.alloc (.cells #[.int .i64 x1, .int .i64 x0] 44)).alloc (.cells #[] 29)).alloc (.cells #[] 29)).alloc (.cells #[] 29)) p x0 [] (some ⟨wb.heap.size + 1 + 1, 0, none⟩) 0 [] (some ⟨wb.heap.size + 1, 0, none⟩) 0 [] (some ⟨wb.heap.size + 1 + 1 + 1, 0, none⟩) 0 [] wb.heap.size x1 x0 []) := Lib.hid (by
      have b1 := (Below.refl wb.heap.size wb).alloc (Nat.le_refl _) (.cells #[.int .i64 x1, .int .i64 x0] 44)
      have b2 := b1.alloc (by simp) (.cells #[] 29)
      have b3 := b2.alloc (by simp; omega) (.cells #[] 29)
      have b4 := b3.alloc (by simp; omega) (.cells #[] 29)
      refine Q.first HX0.out b4 (Nat.le_refl _) (by omega) (by omega) (by omega) ?_ ?_ ?_ ?_
      · rw [Below.heap_alloc _ _ _ (by simp; omega), Below.heap_alloc _ _ _ (by simp; omega), Below.heap_alloc _ _ _ (by simp)]
        exact heap_alloc_new wb _
      · rw [Below.heap_alloc _ _ _ (by simp), Below.heap_alloc _ _ _ (by simp)]
        have := heap_alloc_new (wb.alloc (.cells #[.int .i64 x1, .int .i64 x0] 44)) (.cells #[] 29)
        simpa using this
      · rw [Below.heap_alloc _ _ _ (by simp)]
        have := heap_alloc_new ((wb.alloc (.cells #[.int .i64 x1, .int .i64 x0] 44)).alloc (.cells #[] 29)) (.cells #[] 29)
        simpa using this
      · have := heap_alloc_new (((wb.alloc (.cells #[.int .i64 x1, .int .i64 x0] 44)).alloc (.cells #[] 29)).alloc (.cells #[] 29)) (.cells #[] 29)
        simpa using this)
    obtain ⟨G, hG⟩ : ∃ G, wb.heap.size = G := ⟨_, rfl⟩
    rw [hG] at HQ0 ⊢
    clear hG HX0 HB HA HN
    go_loopw [11, 12, 13, 14] (fun av tv ov iv wr => ∃ (i D T ac : Nat) (ta : Option Addr) (tc : Nat) (da : Option Addr) (dc : Nat) (oa : Option Addr) (oc : Nat), i ≤ n3 ∧ i ≤ 400 ∧ D ≤ n2 ∧ D ≤ 60 ∧ ac ≤ T ∧ T ≤ D ∧ av = .slice da D dc ∧ tv = .slice ta T tc ∧ ov = .slice oa D oc ∧ iv = .int .i64 (i : Int) ∧ da ≠ none ∧ Q w wr p (x0 + (ac : Int)) (numb (x0 + (ac : Int)) ((l2.take D).drop ac)) ta tc (numb x0 (l2.take T)) da dc (numb x0 (l2.take D)) oa oc (numb x0 (l2.take D)) G x1 (x0 + (T : Int)) []) (fun _ _ _ iv _ => 400 - (intOf iv).toNat)
    case atStart => exact ⟨0, 0, 0, 0, _, _, _, _, _, _, by omega, by omega, by omega, by omega, by omega, by omega, rfl, rfl, rfl, rfl, by simp, by have := HQ0.out; simpa [numb] using this⟩
    case round =>
      clear HQ0
      obtain ⟨i, D, T, ac, ta, tc, da, dc, oa, oc, hi1, hi2, hD1, hD2, hac, hT, rfl, rfl, rfl, rfl, hda, hRx⟩ := hrel
      have HRx := Lib.hid hRx
      clear hRx
      by_cases hlt : i < n3 ∧ i < 400
      · obtain ⟨hi3, hi4⟩ := hlt
        have hi5 : (i : Int) < (n3 : Int) := by omega
        have hi6 : (i : Int) < 400 := by omega
        go_upto_region 13 with fail
        go_cut [63] (fun bv wx => ∃ bb : Bool, bv = .bool bb ∧ (bb = true → D < n2 ∧ D < 60) ∧ wx = wr)
        case first =>
          have hm : (n2 ≤ 60 ∧ D < n2) ∨ (n2 ≤ 60 ∧ ¬ D < n2) ∨ (60 < n2 ∧ D < 60) ∨ (60 < n2 ∧ ¬ D < 60) := by omega
          rcases hm with ⟨h1, h2⟩ | ⟨h1, h2⟩ | ⟨h1, h2⟩ | ⟨h1, h2⟩
          · have t1 : ¬ (60 : Int) < (n2 : Int) := by omega
            have t2 : decide ((D : Int) < (n2 : Int)) = true := by simpa using h2
            have t3 : (D : Int) < (n2 : Int) := by omega
            go_wp2
            go_meet
            exact ⟨_, rfl, fun _ => by omega, rfl⟩
          · have t1 : ¬ (60 : Int) < (n2 : Int) := by omega
            have t2 : decide ((D : Int) < (n2 : Int)) = false := by simpa using h2
            go_wp2
            go_meet
            exact ⟨_, rfl, fun h => by simp at h, rfl⟩
          · have t1 : (60 : Int) < (n2 : Int) := by omega
            have t2 : (D : Int) < 60 := by omega
            go_wp2
            go_meet
            exact ⟨_, rfl, fun _ => by omega, rfl⟩
          · have t1 : (60 : Int) < (n2 : Int) := by omega
            have t2 : decide ((D : Int) < 60) = false := by simp; omega
            go_wp2
            go_meet
            exact ⟨_, rfl, fun h => by simp at h, rfl⟩
        case rest =>
          obtain ⟨bb, rfl, hbb, rfl⟩ := hcut
          go_upto_if 63 with fail
          go_cut [11, 13] (fun av ov wx => ∃ (D' : Nat) (da' : Option Addr) (dc' : Nat) (oa' : Option Addr) (oc' : Nat), D' ≤ n2 ∧ D' ≤ 60 ∧ T ≤ D' ∧ av = .slice da' D' dc' ∧ ov = .slice oa' D' oc' ∧ da' ≠ none ∧ Q w wx p (x0 + (ac : Int)) (numb (x0 + (ac : Int)) ((l2.take D').drop ac)) ta tc (numb x0 (l2.take T)) da' dc' (numb x0 (l2.take D')) oa' oc' (numb x0 (l2.take D')) G x1 (x0 + (T : Int)) [])
          case first =>
            cases bb
            case false =>
              go_wp2
              go_meet
              exact ⟨D, da, dc, oa, oc, hD1, hD2, hT, rfl, rfl, hda, HRx.out⟩
            case true =>
              obtain ⟨hDn, hD60⟩ := hbb rfl
              have hDI : (D : Int) < (n2 : Int) := by omega
              obtain ⟨y, hy⟩ : ∃ y, l2[D]? = some y := ⟨_, List.getElem?_eq_getElem (by have := HI2.out.1.1; omega)⟩
              have hT1 : l2.take (D + 1) = l2.take D ++ [y] := by rw [List.take_add_one, hy]; rfl
              have hTl : (l2.take D).length = D := by rw [List.length_take]; have := HI2.out.1.1; omega
              obtain ⟨ys, yb, yd, yc, yn⟩ := y
              have HE : Hid (numb x0 (l2.take D) ++ [⟨x0 + ((D : Int) + 1), yb, yd, yc, yn⟩] = numb x0 (l2.take (D + 1))) := Lib.hid (by
                rw [hT1, numb_add, hTl, show x0 + (D : Int) + 1 = x0 + ((D : Int) + 1) by omega]; rfl)
              have HDl : Hid ((numb x0 (l2.take D)).length = D) := Lib.hid (by rw [numb_length, hTl])
              have HD1k : Hid (D + 1 ≤ 100000) := Lib.hid (by omega)
              obtain ⟨b1, o1, ha1, hb1, g0, g1, g2, g3, g4⟩ := (HI2.out.1.below HRx.out.beq (Nat.le_refl _)).at hy
              simp only at g0 g1 g2 g3 g4
              subst ha1
              have CA : Hid (∀ W, Q w W p (x0 + (ac : Int)) (numb (x0 + (ac : Int)) ((l2.take D).drop ac)) ta tc (numb x0 (l2.take T)) da dc (numb x0 (l2.take D)) oa oc (numb x0 (l2.take D)) G x1 (x0 + (T : Int)) [(wc.heap.size, (.cells #[.int .i64 ys, .int .i64 yb, .string yd, .int .i64 yc, .int .i64 yn] 29))] → Calls Try.prog 12 #[.pointer (some ⟨p, 0, none⟩), .agg #[.int .i64 ys, .int .i64 yb, .string yd, .int .i64 yc, .int .i64 yn]] W fun e W' => e = .returned (.tuple #[.int .i64 (x0 + ((D : Int) + 1)), .int .i64 0]) ∧ Q w W' p (x0 + (ac : Int)) (numb (x0 + (ac : Int)) ((l2.take (D + 1)).drop ac)) ta tc (numb x0 (l2.take T)) da dc (numb x0 (l2.take D)) oa oc (numb x0 (l2.take D)) G x1 (x0 + (T : Int)) [(wc.heap.size, (.cells #[.int .i64 ys, .int .i64 yb, .string yd, .int .i64 yc, .int .i64 yn] 29))]) := Lib.hid fun W h => by
                have hln : (((l2.take D).drop ac).length : Int) = (D : Int) - (ac : Int) := by rw [List.length_drop, hTl]; omega
                have := h.add ⟨ys, yb, yd, yc, yn⟩ (by rw [numb_length, List.length_drop, hTl]; omega)
                obtain ⟨t1, t2, t3⟩ := add_numb (b := x0 + (ac : Int)) (l := (l2.take D).drop ac) ⟨ys, yb, yd, yc, yn⟩ (by omega)
                rw [t1, t2, t3, ← List.drop_append_of_le_length (by rw [hTl]; omega), ← hT1, show x0 + (ac : Int) + (((l2.take D).drop ac).length : Int) + 1 = x0 + ((D : Int) + 1) by omega] at this
                exact this
              have hw1 : IntKind.i64.wrap (x0 + ((D : Int) + 1)) = x0 + ((D : Int) + 1) := IntWalk.i64_in _ (by omega)
              have HX1 := Lib.hid (HRx.out.hold ((Below.refl wc.heap.size wc).alloc (Nat.le_refl _) (.cells #[.int .i64 ys, .int .i64 yb, .string yd, .int .i64 yc, .int .i64 yn] 29)) (Nat.le_refl _) (heap_alloc_new wc (.cells #[.int .i64 ys, .int .i64 yb, .string yd, .int .i64 yc, .int .i64 yn] 29)))
              clear hy hT1 hTl hbb
              go_upto_region 19 with (
                  go_at_call 12; with_reducible refine (CA.out _ HX1.out).mono ?_; rintro e w5 ⟨rfl, h5⟩
                  have H5 := Lib.hid h5
                  have e5 := h5.held (List.mem_cons_self ..)
                  have f5 : w5.frozen? ⟨wc.heap.size, 0, none⟩ = false := by simp [World.frozen?, e5]
                  have s0 : w5.cell? ⟨wc.heap.size, 0, none⟩ = some (.int .i64 ys) := by simp [World.cell?, e5]
                  have s1 : w5.cell? ⟨wc.heap.size, 1, none⟩ = some (.int .i64 yb) := by simp [World.cell?, e5]
                  have s2 : w5.cell? ⟨wc.heap.size, 2, none⟩ = some (.string yd) := by simp [World.cell?, e5]
                  have s3 : w5.cell? ⟨wc.heap.size, 3, none⟩ = some (.int .i64 yc) := by simp [World.cell?, e5]
                  have s4 : w5.cell? ⟨wc.heap.size, 4, none⟩ = some (.int .i64 yn) := by simp [World.cell?, e5]
                  have HE5 := Lib.hid e5
                  clear h5 e5)
              have H6 := Lib.hid (H5.out.setX 0 (.int .i64 (x0 + ((D : Int) + 1))))
              have e6 := H6.out.held (List.mem_cons_self ..)
              generalize w5.setCell ⟨wc.heap.size, 0, none⟩ (.int .i64 (x0 + ((D : Int) + 1))) = w6 at *
              have k0 : w6.cell? ⟨wc.heap.size, 0, none⟩ = some (.int .i64 (x0 + ((D : Int) + 1))) := by simp [World.cell?, e6]
              have k1 : w6.cell? ⟨wc.heap.size, 1, none⟩ = some (.int .i64 yb) := by simp [World.cell?, e6]
              have k2 : w6.cell? ⟨wc.heap.size, 2, none⟩ = some (.string yd) := by simp [World.cell?, e6]
              have k3 : w6.cell? ⟨wc.heap.size, 3, none⟩ = some (.int .i64 yc) := by simp [World.cell?, e6]
              have k4 : w6.cell? ⟨wc.heap.size, 4, none⟩ = some (.int .i64 yn) := by simp [World.cell?, e6]
              clear e6 s0 s1 s2 s3 s4 f5
              go_upto_region 20 with (
                  at_builtin
                  refine wpList_append_I _ rfl (.tmp 88) (.tmp 90) rfl da D dc (numb x0 (l2.take D)) rfl HDl.out (H6.out.below (w' := w6.alloc (.cells #[.int .i64 (x0 + ((D : Int) + 1)), .int .i64 yb, .string yd, .int .i64 yc, .int .i64 yn] 29)) ((Below.refl _ _).alloc (Nat.le_refl _) (.cells #[.int .i64 (x0 + ((D : Int) + 1)), .int .i64 yb, .string yd, .int .i64 yc, .int .i64 yn] 29))).d _ 1 1 [⟨x0 + ((D : Int) + 1), yb, yd, yc, yn⟩] rfl (rd_one (heap_alloc_new w6 (.cells #[.int .i64 (x0 + ((D : Int) + 1)), .int .i64 yb, .string yd, .int .i64 yc, .int .i64 yn] 29))) HD1k.out ?_
                  intro da' dc' w7 o7 g7 n7
                  have H7 := Lib.hid ((H6.out.below ((Below.refl _ _).alloc (Nat.le_refl _) (.cells #[.int .i64 (x0 + ((D : Int) + 1)), .int .i64 yb, .string yd, .int .i64 yc, .int .i64 yn] 29))).growD o7 g7 n7)
                  have HN7 := Lib.hid n7
                  have e7 := H7.out.held (List.mem_cons_self ..)
                  have t0 : w7.cell? ⟨wc.heap.size, 0, none⟩ = some (.int .i64 (x0 + ((D : Int) + 1))) := by simp [World.cell?, e7]
                  have t1 : w7.cell? ⟨wc.heap.size, 1, none⟩ = some (.int .i64 yb) := by simp [World.cell?, e7]
                  have t2 : w7.cell? ⟨wc.heap.size, 2, none⟩ = some (.string yd) := by simp [World.cell?, e7]
                  have t3 : w7.cell? ⟨wc.heap.size, 3, none⟩ = some (.int .i64 yc) := by simp [World.cell?, e7]
                  have t4 : w7.cell? ⟨wc.heap.size, 4, none⟩ = some (.int .i64 yn) := by simp [World.cell?, e7]
                  clear o7 g7 n7 e7)
              go_wp2_with (
                  at_builtin
                  refine wpList_append_I _ rfl (.tmp 92) (.tmp 94) rfl oa D oc (numb x0 (l2.take D)) rfl HDl.out (H7.out.below (w' := w7.alloc (.cells #[.int .i64 (x0 + ((D : Int) + 1)), .int .i64 yb, .string yd, .int .i64 yc, .int .i64 yn] 29)) ((Below.refl _ _).alloc (Nat.le_refl _) (.cells #[.int .i64 (x0 + ((D : Int) + 1)), .int .i64 yb, .string yd, .int .i64 yc, .int .i64 yn] 29))).o _ 1 1 [⟨x0 + ((D : Int) + 1), yb, yd, yc, yn⟩] rfl (rd_one (heap_alloc_new w7 (.cells #[.int .i64 (x0 + ((D : Int) + 1)), .int .i64 yb, .string yd, .int .i64 yc, .int .i64 yn] 29))) HD1k.out ?_
                  intro oa' oc' w8 o8 g8 n8
                  have H8 := Lib.hid ((H7.out.below ((Below.refl _ _).alloc (Nat.le_refl _) (.cells #[.int .i64 (x0 + ((D : Int) + 1)), .int .i64 yb, .string yd, .int .i64 yc, .int .i64 yn] 29))).growO o8 g8 n8)
                  clear o8 g8 n8)
              go_meet
              refine ⟨D + 1, da', dc', oa', oc', by omega, by omega, by omega, rfl, rfl, ?_, ?_⟩
              · rcases HN7.out with e | ⟨g, e, _⟩
                · rw [e]; exact hda
                · rw [e]; simp
              · have := H8.out.free (H' := []) (by simp)
                rw [HE.out] at this
                exact this
          case rest =>
            clear HRx
            obtain ⟨D, da, dc, oa, oc, hD1, hD2, hT, rfl, rfl, hda, hQ⟩ := hcut
            have HQ1 := Lib.hid hQ
            clear hQ
            obtain ⟨LN, hLN⟩ : ∃ LN, D - ac = LN := ⟨_, rfl⟩
            have HLl : Hid ((numb (x0 + (ac : Int)) ((l2.take D).drop ac)).length = LN ∧ (numb x0 (l2.take D)).length = D ∧ LN + ac = D ∧ D ≤ 60) := Lib.hid (by
              rw [numb_length, numb_length, List.length_drop, List.length_take]; have := HI2.out.1.1; omega)
            have HLf : Hid (∀ W, Q w W p (x0 + (ac : Int)) (numb (x0 + (ac : Int)) ((l2.take D).drop ac)) ta tc (numb x0 (l2.take T)) da dc (numb x0 (l2.take D)) oa oc (numb x0 (l2.take D)) G x1 (x0 + (T : Int)) [] → Calls Try.prog 16 #[.pointer (some ⟨p, 0, none⟩)] W fun e W' => ∃ a' c', e = .returned (.slice a' LN c') ∧ LN ≤ c' ∧ c' ≤ maxLen ∧ OwnI W' a' c' (numb (x0 + (ac : Int)) ((l2.take D).drop ac)) ∧ Below W.heap.size W W') := Lib.hid fun W h => by
              have hl := HLl.out
              refine (h.left (by omega)).mono ?_
              rintro e w'' ⟨a', c', rfl, h2, _, h3⟩
              have hc := h2.cap
              rw [hl.1] at hc ⊢
              exact ⟨a', c', rfl, hc.1, hc.2, h2, h3⟩
            have HQ2 := Lib.hid (HQ1.out.below ((Below.refl _ _).alloc (Nat.le_refl _) (.cells #[] 29)))
            clear hLN
            go_upto_region 22 with (first
              | (
                 go_at_call 16; with_reducible refine (HLf.out _ HQ2.out).mono ?_; rintro e v1 ⟨a6, c6, rfl, h61, h62, ho, hbl⟩
                 have HO6 := Lib.hid ho
                 have HB6 : Hid (Below wc.heap.size wc v1) := Lib.hid (((Below.refl _ _).alloc (Nat.le_refl _) (.cells #[] 29)).trans (hbl.mono (by simp)))
                 have HN6 : Hid (OwnI v1 (some ⟨wc.heap.size, 0, none⟩) 0 []) := Lib.hid ((own_empty wc).below hbl (Nat.le_refl _))
                 have HC6 := Lib.hid (And.intro h61 h62)
                 clear ho hbl h61 h62)
              | (
                 at_builtin
                 refine wpList_append_I _ rfl (.tmp 96) (.tmp 98) rfl (some ⟨wc.heap.size, 0, none⟩) 0 0 [] rfl rfl HN6.out a6 LN c6 _ rfl (show Rd v1 a6 LN (numb (x0 + (ac : Int)) ((l2.take D).drop ac)) by have := HO6.out.rd; rwa [HLl.out.1] at this) (by have := HLl.out; omega) ?_
                 intro a7 c7 w7 o7 g7 n7
                 have HO7 : Hid (OwnI w7 a7 c7 (numb (x0 + (ac : Int)) ((l2.take D).drop ac))) := Lib.hid (by simpa using o7)
                 have HF7 : Hid (Fresh wc.heap.size a7) := Lib.hid (Fresh.anew (a := some ⟨wc.heap.size, 0, none⟩) (fun x hx => by injection hx with hx; subst hx; exact Nat.le_refl _) n7 HB6.out.size)
                 have HB7 : Hid (Below wc.heap.size wc w7) := Lib.hid (HB6.out.grown g7 HB6.out.size (by intro k hk; simp [Value.ownBlock] at hk; omega))
                 clear o7 g7 n7)
              | (
                 at_builtin
                 refine wpList_append_I _ rfl (.tmp 99) (.tmp 100) rfl a7 LN c7 (numb (x0 + (ac : Int)) ((l2.take D).drop ac)) rfl HLl.out.1 HO7.out oa D oc (numb x0 (l2.take D)) rfl (by have := ((HQ1.out.below HB7.out).o).rd; rwa [HLl.out.2.1] at this) (by have := HLl.out; omega) ?_
                 intro a8 c8 w8 o8 g8 n8
                 have HO8 := Lib.hid o8
                 have HB8 : Hid (Below wc.heap.size wc w8) := Lib.hid (HB7.out.grown g8 HB7.out.size (fun k hk => by
                   cases a7 with
                   | none => simp [Value.ownBlock] at hk
                   | some z => simp [Value.ownBlock] at hk; rw [← hk]; exact HF7.out z rfl))
                 have HC8 := Lib.hid o8.cap
                 clear o8 g8 n8))
            have HQ8 := Lib.hid (HQ1.out.below HB8.out)
            obtain ⟨N8, hN8⟩ : ∃ n, LN + D = n := ⟨_, rfl⟩
            rw [hN8]
            have HL8 : Hid (((numb (x0 + (ac : Int)) ((l2.take D).drop ac)) ++ numb x0 (l2.take D)).length = N8 ∧ N8 ≤ 120 ∧ LN + D = N8) := Lib.hid (by rw [List.length_append]; have := HLl.out; omega)
            have hN8b : (N8 : Int) ≤ 120 := by have := HL8.out; omega
            clear hN8
            by_cases h0 : N8 = 0
            · have hz : ((N8 : Int) == 0) = true := by simp [h0]
              clear h0
              go_wp2
              go_roundw
              case rel => exact ⟨i + 1, D, T, ac, ta, tc, da, dc, oa, oc, by omega, by omega, hD1, hD2, hac, hT, rfl, rfl, rfl, by go_num, hda, HQ8.out⟩
              case measure => simp [intOf]; omega
            · have hz : ((N8 : Int) == 0) = false := by simp [h0]
              have hNp : (0 : Int) < (N8 : Int) := by omega
              obtain ⟨z, hzi⟩ : ∃ z, l3[i]? = some z := ⟨_, List.getElem?_eq_getElem (by have := HR3.out.1; omega)⟩
              have hz8 := wf_u8 (HR3.out.2.2.2.1 z (List.mem_of_getElem? hzi))
              obtain ⟨bk, ok, rfl, hbk, gk⟩ := HR3.out.at hzi
              have gk' := (HQ8.out.beq.cell (p := ⟨bk, ok + i, none⟩) hbk).trans gk
              obtain ⟨j0, hj0, hjl⟩ : ∃ j0 : Nat, z.tmod (N8 : Int) = (j0 : Int) ∧ j0 < N8 := by
                have e1 : z.tmod (N8 : Int) = z % (N8 : Int) := Int.tmod_eq_emod_of_nonneg hz8.1
                have e2 := Int.emod_nonneg z (show ((N8 : Nat) : Int) ≠ 0 by omega)
                have e3 := Int.emod_lt_of_pos z hNp
                exact ⟨(z % (N8 : Int)).toNat, by rw [e1]; omega, by omega⟩
              have hjI : (j0 : Int) < (N8 : Int) := by omega
              obtain ⟨x8, hx8⟩ : ∃ x, ((numb (x0 + (ac : Int)) ((l2.take D).drop ac)) ++ numb x0 (l2.take D))[j0]? = some x := ⟨_, List.getElem?_eq_getElem (by have := HL8.out.1; omega)⟩
              obtain ⟨j, y, hy, rfl⟩ := pick hx8
              have hjD : j < D := by have := (List.getElem?_eq_some_iff.1 hy).1; rw [List.length_take] at this; omega
              have hy2 : l2[j]? = some y := by rw [List.getElem?_take, if_pos hjD] at hy; exact hy
              obtain ⟨ys, yb, yd, yc, yn⟩ := y
              obtain ⟨b8, o8, ha8, hb8, g0, g1, g2, g3, g4⟩ := HO8.out.rd.at hx8
              simp only [It.no] at g0 g1 g2 g3 g4
              subst ha8
              have HY := Lib.hid hy2
              have HX9 := Lib.hid (HQ8.out.hold ((Below.refl w8.heap.size w8).alloc (Nat.le_refl _) (.cells #[.int .i64 (x0 + (j : Int) + 1), .int .i64 yb, .string yd, .int .i64 yc, .int .i64 yn] 29)) (Nat.le_refl _) (heap_alloc_new w8 (.cells #[.int .i64 (x0 + (j : Int) + 1), .int .i64 yb, .string yd, .int .i64 yc, .int .i64 yn] 29)))
              clear gk hzi hx8 hy hy2 h0
              obtain ⟨v, hv⟩ : ∃ v, next x1 (x0 + (T : Int)) x1 (x0 + (j : Int) + 1) = v := ⟨_, rfl⟩
              have HV : Hid ((v = 2 ∧ j < T) ∨ (v = 1 ∧ j = T) ∨ (v = 0 ∧ T < j)) := Lib.hid (by
                rw [← hv]
                by_cases t1 : j < T
                · exact .inl ⟨next_had ⟨rfl, by omega⟩, t1⟩
                · by_cases t2 : j = T
                  · exact .inr (.inl ⟨next_take (fun h => by omega) (.inl ⟨rfl, by omega⟩), t2⟩)
                  · exact .inr (.inr ⟨next_no (fun h => by omega) (fun h => by omega), by omega⟩))
              have HNx : Hid (∀ W, Calls Try.prog 22 #[.agg #[.int .i64 x1, .int .i64 (x0 + (T : Int))], .int .i64 x1, .int .i64 (x0 + (j : Int) + 1)] W fun e W' => e = .returned (.int .i64 v) ∧ Below W.heap.size W W') := Lib.hid fun W => by
                have := next_any W x1 (x0 + (T : Int)) x1 (x0 + (j : Int) + 1) (by omega) (by omega)
                rwa [hv] at this
              have HTl : Hid ((numb x0 (l2.take T)).length = T ∧ T + 1 ≤ 100000) := Lib.hid (by rw [numb_length, List.length_take]; have := HI2.out.1.1; omega)
              have HJD := Lib.hid (And.intro hjD (And.intro hT hac))
              have r0 := HX9.out.ver.1
              have r1 := HX9.out.ver.2.1
              clear hv
              go_upto_block 2 with (
                go_at_call 22; with_reducible refine (HNx.out _).mono ?_; rintro e w9 ⟨rfl, hb⟩
                have H9 := Lib.hid (HX9.out.below hb)
                clear hb)
              have e9 := H9.out.held (List.mem_cons_self ..)
              have k0 : w9.cell? ⟨w8.heap.size, 0, none⟩ = some (.int .i64 (x0 + (j : Int) + 1)) := by simp [World.cell?, e9]
              have k1 : w9.cell? ⟨w8.heap.size, 1, none⟩ = some (.int .i64 yb) := by simp [World.cell?, e9]
              have k2 : w9.cell? ⟨w8.heap.size, 2, none⟩ = some (.string yd) := by simp [World.cell?, e9]
              have k3 : w9.cell? ⟨w8.heap.size, 3, none⟩ = some (.int .i64 yc) := by simp [World.cell?, e9]
              have k4 : w9.cell? ⟨w8.heap.size, 4, none⟩ = some (.int .i64 yn) := by simp [World.cell?, e9]
              obtain ⟨q0, q1, q2⟩ := H9.out.ver
              clear e9 g0 g1 g2 g3 g4 r0 r1
              go_cut [12] (fun tv wx => ∃ (T' : Nat) (ta' : Option Addr) (tc' : Nat), T ≤ T' ∧ T' ≤ D ∧ tv = .slice ta' T' tc' ∧ Q w wx p (x0 + (ac : Int)) (numb (x0 + (ac : Int)) ((l2.take D).drop ac)) ta' tc' (numb x0 (l2.take T')) da dc (numb x0 (l2.take D)) oa oc (numb x0 (l2.take D)) G x1 (x0 + (T' : Int)) [])
              case first =>
                rcases HV.out with ⟨rfl, h⟩ | ⟨rfl, h⟩ | ⟨rfl, h⟩
                · have hd : decide (x0 + (T : Int) < x0 + (j : Int) + 1) = false := by simp; omega
                  clear h
                  go_wp2
                  go_meet
                  exact ⟨T, ta, tc, by omega, HJD.out.2.1, rfl, H9.out.free (by simp)⟩
                · have HE : Hid (numb x0 (l2.take T) ++ [⟨x0 + (j : Int) + 1, yb, yd, yc, yn⟩] = numb x0 (l2.take (T + 1))) := Lib.hid (by
                    have hl : (l2.take T).length = T := by have := HTl.out.1; rwa [numb_length] at this
                    rw [List.take_add_one, ← h, HY.out, h, Option.toList_some, numb_add, hl]; rfl)
                  have HJ := Lib.hid h
                  clear h
                  go_wp2_with (
                    at_builtin
                    refine wpList_append_I _ rfl (.tmp 123) (.tmp 125) rfl ta T tc (numb x0 (l2.take T)) rfl HTl.out.1 (H9.out.below (w' := w9.alloc (.cells #[.int .i64 (x0 + (j : Int) + 1), .int .i64 yb, .string yd, .int .i64 yc, .int .i64 yn] 29)) ((Below.refl _ _).alloc (Nat.le_refl _) (.cells #[.int .i64 (x0 + (j : Int) + 1), .int .i64 yb, .string yd, .int .i64 yc, .int .i64 yn] 29))).t _ 1 1 [⟨x0 + (j : Int) + 1, yb, yd, yc, yn⟩] rfl (rd_one (heap_alloc_new w9 (.cells #[.int .i64 (x0 + (j : Int) + 1), .int .i64 yb, .string yd, .int .i64 yc, .int .i64 yn] 29))) HTl.out.2 ?_
                    intro ta' tc' wt ot gt nt
                    have HT := Lib.hid ((H9.out.below ((Below.refl _ _).alloc (Nat.le_refl _) (.cells #[.int .i64 (x0 + (j : Int) + 1), .int .i64 yb, .string yd, .int .i64 yc, .int .i64 yn] 29))).growT ot gt nt)
                    have et := HT.out.held (List.mem_cons_self ..)
                    have et0 : wt.cell? ⟨w8.heap.size, 0, none⟩ = some (.int .i64 (x0 + (j : Int) + 1)) := by simp [World.cell?, et]
                    obtain ⟨p0, p1, p2⟩ := HT.out.ver
                    clear ot gt nt et)
                  go_meet
                  refine ⟨T + 1, ta', tc', by omega, by have := HJD.out.1; have := HJ.out; omega, rfl, ?_⟩
                  have := (HT.out.setG (x0 + (j : Int) + 1)).free (H' := []) (by simp)
                  rw [HE.out] at this
                  rw [show x0 + ((T + 1 : Nat) : Int) = x0 + (j : Int) + 1 by have := HJ.out; omega]
                  exact this
                · clear h
                  go_wp2
                  go_meet
                  exact ⟨T, ta, tc, by omega, HJD.out.2.1, rfl, H9.out.free (by simp)⟩
              case rest =>
                clear k0 k1 k2 k3 k4 q0 q1 q2
                have hT0 := HJD.out
                obtain ⟨T, ta, tc, hTT, hTD, rfl, hQ⟩ := hcut
                have hacT : ac ≤ T := by omega
                have HQ10 := Lib.hid hQ
                clear hQ HQ1 HQ2 HQ8 HX9 H9
                obtain ⟨q0, q1, q2⟩ := HQ10.out.ver
                have hev : (i : Int).tmod 2 = 0 ∨ (i : Int).tmod 2 = 1 := by
                  rw [Int.tmod_eq_emod_of_nonneg (by omega)]; omega
                rcases hev with hev | hev
                · by_cases hat : ac < T
                  · have HAk : Hid (∀ W, Q w W p (x0 + (ac : Int)) (numb (x0 + (ac : Int)) ((l2.take D).drop ac)) ta tc (numb x0 (l2.take T)) da dc (numb x0 (l2.take D)) oa oc (numb x0 (l2.take D)) G x1 (x0 + (T : Int)) [] → Calls Try.prog 14 #[.pointer (some ⟨p, 0, none⟩), .int .i64 (x0 + (T : Int))] W fun e W' => e = .returned (.bool true) ∧ Q w W' p (x0 + (T : Int)) (numb (x0 + (T : Int)) ((l2.take D).drop T)) ta tc (numb x0 (l2.take T)) da dc (numb x0 (l2.take D)) oa oc (numb x0 (l2.take D)) G x1 (x0 + (T : Int)) []) := Lib.hid fun W h => by
                      have := h.ack (x0 + (T : Int))
                      obtain ⟨t1, t2, t3⟩ := ack_numb_yes (b := x0) (l := l2.take D) hat (by rw [List.length_take]; have := HI2.out.1.1; omega)
                      rw [t1, t2, t3] at this
                      exact this
                    go_wp2_with (
                      go_at_call 14; with_reducible refine (HAk.out _ HQ10.out).mono ?_; rintro e wk ⟨rfl, hb⟩
                      have HQ11 := Lib.hid hb
                      clear hb)
                    go_roundw
                    case rel => exact ⟨i + 1, D, T, T, ta, tc, da, dc, oa, oc, by omega, by omega, hD1, hD2, by omega, hTD, rfl, rfl, rfl, by go_num, hda, HQ11.out⟩
                    case measure => simp [intOf]; omega
                  · have HAk : Hid (∀ W, Q w W p (x0 + (ac : Int)) (numb (x0 + (ac : Int)) ((l2.take D).drop ac)) ta tc (numb x0 (l2.take T)) da dc (numb x0 (l2.take D)) oa oc (numb x0 (l2.take D)) G x1 (x0 + (T : Int)) [] → Calls Try.prog 14 #[.pointer (some ⟨p, 0, none⟩), .int .i64 (x0 + (T : Int))] W fun e W' => e = .returned (.bool false) ∧ Q w W' p (x0 + (ac : Int)) (numb (x0 + (ac : Int)) ((l2.take D).drop ac)) ta tc (numb x0 (l2.take T)) da dc (numb x0 (l2.take D)) oa oc (numb x0 (l2.take D)) G x1 (x0 + (T : Int)) []) := Lib.hid fun W h => by
                      have := h.ack (x0 + (T : Int))
                      obtain ⟨t1, t2, t3⟩ := ack_numb_no (b := x0) (q := x0 + (T : Int)) (a := ac) (l := l2.take D) (by rw [List.length_take]; have := HI2.out.1.1; omega) (.inl (by omega))
                      rw [t1, t2, t3] at this
                      exact this
                    go_wp2_with (
                      go_at_call 14; with_reducible refine (HAk.out _ HQ10.out).mono ?_; rintro e wk ⟨rfl, hb⟩
                      have HQ11 := Lib.hid hb
                      clear hb)
                    go_roundw
                    case rel => exact ⟨i + 1, D, T, ac, ta, tc, da, dc, oa, oc, by omega, by omega, hD1, hD2, hacT, hTD, rfl, rfl, rfl, by go_num, hda, HQ11.out⟩
                    case measure => simp [intOf]; omega
                · go_wp2
                  go_roundw
                  case rel => exact ⟨i + 1, D, T, ac, ta, tc, da, dc, oa, oc, by omega, by omega, hD1, hD2, hacT, hTD, rfl, rfl, rfl, by go_num, hda, HQ10.out⟩
                  case measure => simp [intOf]; omega
      · have hnot : (¬ i < n3) ∨ (i < n3 ∧ ¬ i < 400) := by omega
        clear hlt
        rcases hnot with h9 | ⟨h8, h9⟩
        · have g1 : decide ((i : Int) < (n3 : Int)) = false := by simpa using h9
          obtain ⟨gd, od, rfl⟩ : ∃ gd od, da = some ⟨gd, od, none⟩ := by
            rcases HRx.out.d with ⟨h, _⟩ | ⟨g, o, _, h, _⟩
            · exact absurd h hda
            · exact ⟨g, o, h⟩
          have HDl : Hid ((numb x0 (l2.take D)).length = D ∧ (l2.take D).length = D ∧ D ≤ dc ∧ dc ≤ maxLen ∧ (l2.take T).length = T) := Lib.hid (by
            have h2 := HRx.out.d.cap
            have e : (numb x0 (l2.take D)).length = D := by rw [numb_length, List.length_take]; have := HI2.out.1.1; omega
            rw [e] at h2
            exact ⟨e, by rw [numb_length] at e; exact e, h2.1, h2.2, by rw [List.length_take]; have := HI2.out.1.1; omega⟩)
          have hTdc : (T : Int) ≤ (dc : Int) := by have := HDl.out; omega
          have HSm : Hid (Calls Try.prog 17 #[.slice ta T tc, .slice (some ⟨gd, od, none⟩) T dc] wr fun e w' => e = .returned (.bool true) ∧ ∃ q, w' = wr.drewN q) := Lib.hid (by
            have h1 := HRx.out.t.rd
            have h2 := (HRx.out.d.rd).take T (by have := HDl.out.1; omega)
            rw [numb_length, HDl.out.2.2.2.2] at h1
            rw [numb_take, List.take_take, Nat.min_eq_left hT] at h2
            exact same_yes wr _ _ tc dc _ T (by omega) h1 h2)
          go_wp2_with (
            go_at_call 17; with_reducible refine HSm.out.mono ?_; rintro e ws ⟨rfl, ns, hv⟩
            have HQS := Lib.hid (HRx.out.below (w' := ws) (by rw [hv]; exact (Below.refl _ _).drewB ns))
            clear hv)
          clear HSm
          go_loopw [12, 20] (fun tv iv wz => ∃ (i T ac : Nat) (ta : Option Addr) (tc : Nat), i ≤ D + 1 ∧ tv = .slice ta T tc ∧ iv = .int .i64 (i : Int) ∧ ac ≤ T ∧ T ≤ D ∧ (i = 0 ∨ (T = D ∧ ac = D)) ∧ Q w wz p (x0 + (ac : Int)) (numb (x0 + (ac : Int)) ((l2.take D).drop ac)) ta tc (numb x0 (l2.take T)) (some ⟨gd, od, none⟩) dc (numb x0 (l2.take D)) oa oc (numb x0 (l2.take D)) G x1 (x0 + (T : Int)) []) (fun _ iv _ => D + 1 - (intOf iv).toNat)
          case atStart => exact ⟨0, T, ac, ta, tc, by omega, rfl, rfl, hac, hT, .inl rfl, HQS.out⟩
          case round =>
            clear HQS HRx hTdc
            have HDl2 : Hid ((numb x0 (l2.take D)).length = D ∧ (l2.take D).length = D) := Lib.hid ⟨HDl.out.1, HDl.out.2.1⟩
            clear HDl hac hT hi1 hi2
            obtain ⟨i, T, ac, ta, tc, hi1, rfl, rfl, hac, hT, hdone, hQ⟩ := hrel
            have HQ1 := Lib.hid hQ
            clear hQ
            obtain ⟨LN, hLN⟩ : ∃ LN, D - ac = LN := ⟨_, rfl⟩
            have HLl : Hid ((numb (x0 + (ac : Int)) ((l2.take D).drop ac)).length = LN ∧ LN + ac = D ∧ D ≤ 60) := Lib.hid (by
              rw [numb_length, List.length_drop, HDl2.out.2]; omega)
            have HLf : Hid (∀ W, Q w W p (x0 + (ac : Int)) (numb (x0 + (ac : Int)) ((l2.take D).drop ac)) ta tc (numb x0 (l2.take T)) (some ⟨gd, od, none⟩) dc (numb x0 (l2.take D)) oa oc (numb x0 (l2.take D)) G x1 (x0 + (T : Int)) [] → Calls Try.prog 16 #[.pointer (some ⟨p, 0, none⟩)] W fun e W' => ∃ a' c', e = .returned (.slice a' LN c') ∧ LN ≤ c' ∧ c' ≤ maxLen ∧ OwnI W' a' c' (numb (x0 + (ac : Int)) ((l2.take D).drop ac)) ∧ Fresh W.heap.size a' ∧ Below W.heap.size W W') := Lib.hid fun W h => by
              have hl := HLl.out
              refine (h.left (by omega)).mono ?_
              rintro e w'' ⟨a', c', rfl, h2, hf, h3⟩
              have hc := h2.cap
              rw [hl.1] at hc ⊢
              exact ⟨a', c', rfl, hc.1, hc.2, h2, hf, h3⟩
            have HDN := Lib.hid hdone
            have hLNb : (LN : Int) ≤ 60 := by have := HLl.out; omega
            clear hLN hdone
            by_cases hid : i ≤ D
            · have hidI : (i : Int) ≤ (D : Int) := by omega
              go_wp2_with (
                go_at_call 16; with_reducible refine (HLf.out _ HQ1.out).mono ?_; rintro e v1 ⟨a6, c6, rfl, h61, h62, ho, hf, hbl⟩
                obtain ⟨H6, hQ6, hO6⟩ := HQ1.out.keepRow hbl ho hf
                have HQ6 := Lib.hid hQ6
                have HO6 := Lib.hid hO6
                have HC6 := Lib.hid (And.intro h61 h62)
                clear ho hf hbl h61 h62 hQ6 hO6)
              go_loopw [12, 160] (fun tv rv wz => ∃ (r T' : Nat) (ta' : Option Addr) (tc' : Nat), r ≤ LN ∧ tv = .slice ta' T' tc' ∧ rv = .int .i64 (r : Int) ∧ ac + r ≤ T' ∧ T' ≤ D ∧ Q w wz p (x0 + (ac : Int)) (numb (x0 + (ac : Int)) ((l2.take D).drop ac)) ta' tc' (numb x0 (l2.take T')) (some ⟨gd, od, none⟩) dc (numb x0 (l2.take D)) oa oc (numb x0 (l2.take D)) G x1 (x0 + (T' : Int)) H6) (fun _ rv _ => LN - (intOf rv).toNat)
              case atStart => exact ⟨0, T, ta, tc, by omega, rfl, rfl, by omega, hT, HQ6.out⟩
              case round =>
                have hac0 := hac
                clear HQ6 hac hT
                obtain ⟨r, T, ta, tc, hr, rfl, rfl, hacr, hT, hQ⟩ := hrel
                have HQ7 := Lib.hid hQ
                clear hQ
                by_cases hrl : r < LN
                · have hrI : (r : Int) < (LN : Int) := by omega
                  obtain ⟨y, hy⟩ : ∃ y, l2[ac + r]? = some y := ⟨_, List.getElem?_eq_getElem (by have := HLl.out; have := HI2.out.1.1; omega)⟩
                  have hx := numb_get (x0 + (ac : Int)) ((l2.take D).drop ac) r y (by rw [List.getElem?_drop, List.getElem?_take, if_pos (by have := HLl.out; omega)]; exact hy)
                  obtain ⟨ys, yb, yd, yc, yn⟩ := y
                  obtain ⟨b6, o6, ha6, hb6, g0, g1, g2, g3, g4⟩ := (HO6.out wr (HQ7.out.heldAll)).rd.at hx
                  simp only [It.no] at g0 g1 g2 g3 g4
                  subst ha6
                  have HY := Lib.hid hy
                  have HX9 := Lib.hid (HQ7.out.hold ((Below.refl wr.heap.size wr).alloc (Nat.le_refl _) (.cells #[.int .i64 (x0 + (ac : Int) + (r : Int) + 1), .int .i64 yb, .string yd, .int .i64 yc, .int .i64 yn] 29)) (Nat.le_refl _) (heap_alloc_new wr (.cells #[.int .i64 (x0 + (ac : Int) + (r : Int) + 1), .int .i64 yb, .string yd, .int .i64 yc, .int .i64 yn] 29)))
                  obtain ⟨r0, r1, _⟩ := HX9.out.ver
                  have HTl : Hid ((numb x0 (l2.take T)).length = T ∧ T + 1 ≤ 100000) := Lib.hid (by rw [numb_length, List.length_take]; have := HI2.out.1.1; omega)
                  have HJD := Lib.hid (And.intro hT (And.intro hacr HLl.out))
                  clear hx hy
                  obtain ⟨wq, hwq⟩ : ∃ x, x = wr := ⟨_, rfl⟩
                  subst hwq
                  by_cases hjt : ac + r < T
                  · have HNx : Hid (∀ W, Calls Try.prog 22 #[.agg #[.int .i64 x1, .int .i64 (x0 + (T : Int))], .int .i64 x1, .int .i64 (x0 + (ac : Int) + (r : Int) + 1)] W fun e W' => e = .returned (.int .i64 2) ∧ Below W.heap.size W W') := Lib.hid fun W => by
                      have := next_any W x1 (x0 + (T : Int)) x1 (x0 + (ac : Int) + (r : Int) + 1) (by omega) (by omega)
                      rwa [next_had ⟨rfl, by omega⟩] at this
                    go_wp2_with (
                      go_at_call 22; with_reducible refine (HNx.out _).mono ?_; rintro e w9 ⟨rfl, hb⟩
                      have H9 := Lib.hid (HX9.out.below hb)
                      clear hb)
                    go_roundw
                    case rel => exact ⟨r + 1, T, ta, tc, by omega, rfl, by go_num, by omega, hT, H9.out.free (fun e he => List.mem_cons_of_mem _ he)⟩
                    case measure => simp [intOf]; omega
                  · have hTe : T = ac + r := by omega
                    have HNx : Hid (∀ W, Calls Try.prog 22 #[.agg #[.int .i64 x1, .int .i64 (x0 + (T : Int))], .int .i64 x1, .int .i64 (x0 + (ac : Int) + (r : Int) + 1)] W fun e W' => e = .returned (.int .i64 1) ∧ Below W.heap.size W W') := Lib.hid fun W => by
                      have := next_any W x1 (x0 + (T : Int)) x1 (x0 + (ac : Int) + (r : Int) + 1) (by omega) (by omega)
                      rwa [next_take (fun h => by omega) (.inl ⟨rfl, by omega⟩)] at this
                    have HE : Hid (numb x0 (l2.take T) ++ [⟨x0 + (ac : Int) + (r : Int) + 1, yb, yd, yc, yn⟩] = numb x0 (l2.take (T + 1))) := Lib.hid (by
                      have hl : (l2.take T).length = T := by have := HTl.out.1; rwa [numb_length] at this
                      rw [List.take_add_one, hTe, HY.out, ← hTe, Option.toList_some, numb_add, hl, show x0 + (T : Int) + 1 = x0 + (ac : Int) + (r : Int) + 1 by omega]; rfl)
                    have HTE := Lib.hid hTe
                    clear hTe hjt
                    go_wp2_with (first
                      | (
                         go_at_call 22; with_reducible refine (HNx.out _).mono ?_; rintro e w9 ⟨rfl, hb⟩
                         have H9 := Lib.hid (HX9.out.below hb)
                         have e9 := H9.out.held (List.mem_cons_self ..)
                         have k0 : w9.cell? ⟨wq.heap.size, 0, none⟩ = some (.int .i64 (x0 + (ac : Int) + (r : Int) + 1)) := by simp [World.cell?, e9]
                         have k1 : w9.cell? ⟨wq.heap.size, 1, none⟩ = some (.int .i64 yb) := by simp [World.cell?, e9]
                         have k2 : w9.cell? ⟨wq.heap.size, 2, none⟩ = some (.string yd) := by simp [World.cell?, e9]
                         have k3 : w9.cell? ⟨wq.heap.size, 3, none⟩ = some (.int .i64 yc) := by simp [World.cell?, e9]
                         have k4 : w9.cell? ⟨wq.heap.size, 4, none⟩ = some (.int .i64 yn) := by simp [World.cell?, e9]
                         clear hb e9)
                      | (
                         at_builtin
                         refine wpList_append_I _ rfl (.tmp 170) (.tmp 172) rfl ta T tc (numb x0 (l2.take T)) rfl HTl.out.1 (H9.out.below (w' := w9.alloc (.cells #[.int .i64 (x0 + (ac : Int) + (r : Int) + 1), .int .i64 yb, .string yd, .int .i64 yc, .int .i64 yn] 29)) ((Below.refl _ _).alloc (Nat.le_refl _) (.cells #[.int .i64 (x0 + (ac : Int) + (r : Int) + 1), .int .i64 yb, .string yd, .int .i64 yc, .int .i64 yn] 29))).t _ 1 1 [⟨x0 + (ac : Int) + (r : Int) + 1, yb, yd, yc, yn⟩] rfl (rd_one (heap_alloc_new w9 (.cells #[.int .i64 (x0 + (ac : Int) + (r : Int) + 1), .int .i64 yb, .string yd, .int .i64 yc, .int .i64 yn] 29))) HTl.out.2 ?_
                         intro ta' tc' wt ot gt nt
                         have HT := Lib.hid ((H9.out.below ((Below.refl _ _).alloc (Nat.le_refl _) (.cells #[.int .i64 (x0 + (ac : Int) + (r : Int) + 1), .int .i64 yb, .string yd, .int .i64 yc, .int .i64 yn] 29))).growT ot gt nt)
                         have et := HT.out.held (List.mem_cons_self ..)
                         have et0 : wt.cell? ⟨wq.heap.size, 0, none⟩ = some (.int .i64 (x0 + (ac : Int) + (r : Int) + 1)) := by simp [World.cell?, et]
                         obtain ⟨p0, p1, p2⟩ := HT.out.ver
                         clear ot gt nt et))
                    go_roundw
                    case rel =>
                      refine ⟨r + 1, T + 1, ta', tc', by omega, rfl, by go_num, by have := HTE.out; omega, by have := HTE.out; have := HJD.out; omega, ?_⟩
                      have := (HT.out.setG (x0 + (ac : Int) + (r : Int) + 1)).free (H' := H6) (fun e he => List.mem_cons_of_mem _ he)
                      rw [HE.out] at this
                      rw [show x0 + ((T + 1 : Nat) : Int) = x0 + (ac : Int) + (r : Int) + 1 by have := HTE.out; omega]
                      exact this
                    case measure => simp [intOf]; omega
                · have hTD : D = T := by have := HLl.out; omega
                  subst hTD
                  obtain ⟨q0, q1, q2⟩ := HQ7.out.ver
                  by_cases hat : ac < D
                  · have HAk : Hid (∀ W, Q w W p (x0 + (ac : Int)) (numb (x0 + (ac : Int)) ((l2.take D).drop ac)) ta tc (numb x0 (l2.take D)) (some ⟨gd, od, none⟩) dc (numb x0 (l2.take D)) oa oc (numb x0 (l2.take D)) G x1 (x0 + (D : Int)) H6 → Calls Try.prog 14 #[.pointer (some ⟨p, 0, none⟩), .int .i64 (x0 + (D : Int))] W fun e W' => e = .returned (.bool true) ∧ Q w W' p (x0 + (D : Int)) (numb (x0 + (D : Int)) ((l2.take D).drop D)) ta tc (numb x0 (l2.take D)) (some ⟨gd, od, none⟩) dc (numb x0 (l2.take D)) oa oc (numb x0 (l2.take D)) G x1 (x0 + (D : Int)) H6) := Lib.hid fun W h => by
                      have := h.ack (x0 + (D : Int))
                      obtain ⟨t1, t2, t3⟩ := ack_numb_yes (b := x0) (l := l2.take D) hat (by rw [HDl2.out.2]; exact Nat.le_refl _)
                      rw [t1, t2, t3] at this
                      exact this
                    go_wp2_with (
                      go_at_call 14; with_reducible refine (HAk.out _ HQ7.out).mono ?_; rintro e wk ⟨rfl, hb⟩
                      have HQ11 := Lib.hid hb
                      clear hb)
                    go_roundw
                    case rel => exact ⟨i + 1, D, D, ta, tc, by omega, rfl, by go_num, Nat.le_refl _, Nat.le_refl _, .inr ⟨rfl, rfl⟩, HQ11.out.free (by simp)⟩
                    case measure => simp [intOf]; omega
                  · have hae : D = ac := by omega
                    have HAk : Hid (∀ W, Q w W p (x0 + (ac : Int)) (numb (x0 + (ac : Int)) ((l2.take D).drop ac)) ta tc (numb x0 (l2.take D)) (some ⟨gd, od, none⟩) dc (numb x0 (l2.take D)) oa oc (numb x0 (l2.take D)) G x1 (x0 + (D : Int)) H6 → Calls Try.prog 14 #[.pointer (some ⟨p, 0, none⟩), .int .i64 (x0 + (D : Int))] W fun e W' => e = .returned (.bool false) ∧ Q w W' p (x0 + (ac : Int)) (numb (x0 + (ac : Int)) ((l2.take D).drop ac)) ta tc (numb x0 (l2.take D)) (some ⟨gd, od, none⟩) dc (numb x0 (l2.take D)) oa oc (numb x0 (l2.take D)) G x1 (x0 + (D : Int)) H6) := Lib.hid fun W h => by
                      have := h.ack (x0 + (D : Int))
                      obtain ⟨t1, t2, t3⟩ := ack_numb_no (b := x0) (q := x0 + (D : Int)) (a := ac) (l := l2.take D) (by rw [HDl2.out.2]; omega) (.inl (by omega))
                      rw [t1, t2, t3] at this
                      exact this
                    have HAE := Lib.hid hae
                    clear hae hat
                    go_wp2_with (
                      go_at_call 14; with_reducible refine (HAk.out _ HQ7.out).mono ?_; rintro e wk ⟨rfl, hb⟩
                      have HQ11 := Lib.hid hb
                      clear hb)
                    go_roundw
                    case rel => exact ⟨i + 1, D, ac, ta, tc, by omega, rfl, by go_num, by have := HAE.out; omega, Nat.le_refl _, .inr ⟨rfl, by have := HAE.out; omega⟩, HQ11.out.free (by simp)⟩
                    case measure => simp [intOf]; omega
            · have hTD : T = D ∧ ac = D := by rcases HDN.out with h | h; (omega); (exact h)
              obtain ⟨hTD, hacD⟩ := hTD
              have hidI : decide ((i : Int) ≤ (D : Int)) = false := by simp; omega
              have hl0 : LN = 0 := by have := HLl.out; omega
              have hz : ((LN : Int) == 0) = true := by simp [hl0]
              have HSm : Hid (∀ W, Q w W p (x0 + (ac : Int)) (numb (x0 + (ac : Int)) ((l2.take D).drop ac)) ta tc (numb x0 (l2.take T)) (some ⟨gd, od, none⟩) dc (numb x0 (l2.take D)) oa oc (numb x0 (l2.take D)) G x1 (x0 + (T : Int)) [] → Calls Try.prog 17 #[.slice ta T tc, .slice (some ⟨gd, od, none⟩) D dc] W fun e w' => e = .returned (.bool true) ∧ ∃ q, w' = W.drewN q) := Lib.hid fun W h => by
                have h1 := h.t.rd
                have h2 := h.d.rd
                rw [hTD] at h1 ⊢
                rw [HDl2.out.1] at h1 h2
                exact same_yes W _ _ tc dc _ D (by have := HLl.out; omega) h1 h2
              have HAc : Hid (∀ W, Q w W p (x0 + (ac : Int)) (numb (x0 + (ac : Int)) ((l2.take D).drop ac)) ta tc (numb x0 (l2.take T)) (some ⟨gd, od, none⟩) dc (numb x0 (l2.take D)) oa oc (numb x0 (l2.take D)) G x1 (x0 + (T : Int)) [] → Calls Try.prog 21 #[.pointer (some ⟨p, 0, none⟩)] W fun e W' => e = .returned (.int .i64 (x0 + (ac : Int))) ∧ W = W') := Lib.hid fun W h => h.acked
              have HLa : Hid (∀ W, Q w W p (x0 + (ac : Int)) (numb (x0 + (ac : Int)) ((l2.take D).drop ac)) ta tc (numb x0 (l2.take T)) (some ⟨gd, od, none⟩) dc (numb x0 (l2.take D)) oa oc (numb x0 (l2.take D)) G x1 (x0 + (T : Int)) [] → Calls Try.prog 19 #[.pointer (some ⟨p, 0, none⟩)] W fun e W' => e = .returned (.int .i64 (x0 + (ac : Int))) ∧ ∃ n, W' = W.drewN n) := Lib.hid fun W h => by
                have := h.last
                rw [HLl.out.1, hl0, show x0 + (ac : Int) + ((0 : Nat) : Int) = x0 + (ac : Int) by omega] at this
                exact this
              clear hl0 hTD hacD hac hT
              go_wp2_with (first
                | (
                   go_at_call 17; with_reducible refine (HSm.out _ HQ1.out).mono ?_; rintro e z1 ⟨rfl, d1, hv⟩
                   have HQ2 := Lib.hid (HQ1.out.below (w' := z1) (by rw [hv]; exact (Below.refl _ _).drewB d1))
                   clear hv)
                | (
                   go_at_call 16; with_reducible refine (HLf.out _ HQ2.out).mono ?_; rintro e z2 ⟨a6, c6, rfl, h61, h62, ho, hf, hbl⟩
                   have HQ3 := Lib.hid (HQ2.out.below hbl)
                   have HC6 := Lib.hid (And.intro h61 h62)
                   clear ho hf hbl h61 h62)
                | (
                   go_at_call 21; with_reducible refine (HAc.out _ HQ3.out).mono ?_; rintro e z3 ⟨rfl, rfl⟩)
                | (
                   go_at_call 19; with_reducible refine (HLa.out _ HQ3.out).mono ?_; rintro e z4 ⟨rfl, d4, hv⟩
                   have HQ4 := Lib.hid (HQ3.out.below (w' := z4) (by rw [hv]; exact (Below.refl _ _).drewB d4))
                   clear hv))
              go_ret
              exact ⟨by simp, HQ4.out.beq⟩
        · have g1 : (i : Int) < (n3 : Int) := by omega
          have g2 : decide ((i : Int) < 400) = false := by simp; omega
          obtain ⟨gd, od, rfl⟩ : ∃ gd od, da = some ⟨gd, od, none⟩ := by
            rcases HRx.out.d with ⟨h, _⟩ | ⟨g, o, _, h, _⟩
            · exact absurd h hda
            · exact ⟨g, o, h⟩
          have HDl : Hid ((numb x0 (l2.take D)).length = D ∧ (l2.take D).length = D ∧ D ≤ dc ∧ dc ≤ maxLen ∧ (l2.take T).length = T) := Lib.hid (by
            have h2 := HRx.out.d.cap
            have e : (numb x0 (l2.take D)).length = D := by rw [numb_length, List.length_take]; have := HI2.out.1.1; omega
            rw [e] at h2
            exact ⟨e, by rw [numb_length] at e; exact e, h2.1, h2.2, by rw [List.length_take]; have := HI2.out.1.1; omega⟩)
          have hTdc : (T : Int) ≤ (dc : Int) := by have := HDl.out; omega
          have HSm : Hid (Calls Try.prog 17 #[.slice ta T tc, .slice (some ⟨gd, od, none⟩) T dc] wr fun e w' => e = .returned (.bool true) ∧ ∃ q, w' = wr.drewN q) := Lib.hid (by
            have h1 := HRx.out.t.rd
            have h2 := (HRx.out.d.rd).take T (by have := HDl.out.1; omega)
            rw [numb_length, HDl.out.2.2.2.2] at h1
            rw [numb_take, List.take_take, Nat.min_eq_left hT] at h2
            exact same_yes wr _ _ tc dc _ T (by omega) h1 h2)
          go_wp2_with (
            go_at_call 17; with_reducible refine HSm.out.mono ?_; rintro e ws ⟨rfl, ns, hv⟩
            have HQS := Lib.hid (HRx.out.below (w' := ws) (by rw [hv]; exact (Below.refl _ _).drewB ns))
            clear hv)
          clear HSm
          go_loopw [12, 20] (fun tv iv wz => ∃ (i T ac : Nat) (ta : Option Addr) (tc : Nat), i ≤ D + 1 ∧ tv = .slice ta T tc ∧ iv = .int .i64 (i : Int) ∧ ac ≤ T ∧ T ≤ D ∧ (i = 0 ∨ (T = D ∧ ac = D)) ∧ Q w wz p (x0 + (ac : Int)) (numb (x0 + (ac : Int)) ((l2.take D).drop ac)) ta tc (numb x0 (l2.take T)) (some ⟨gd, od, none⟩) dc (numb x0 (l2.take D)) oa oc (numb x0 (l2.take D)) G x1 (x0 + (T : Int)) []) (fun _ iv _ => D + 1 - (intOf iv).toNat)
          case atStart => exact ⟨0, T, ac, ta, tc, by omega, rfl, rfl, hac, hT, .inl rfl, HQS.out⟩
          case round =>
            clear HQS HRx hTdc
            have HDl2 : Hid ((numb x0 (l2.take D)).length = D ∧ (l2.take D).length = D) := Lib.hid ⟨HDl.out.1, HDl.out.2.1⟩
            clear HDl hac hT hi1 hi2
            obtain ⟨i, T, ac, ta, tc, hi1, rfl, rfl, hac, hT, hdone, hQ⟩ := hrel
            have HQ1 := Lib.hid hQ
            clear hQ
            obtain ⟨LN, hLN⟩ : ∃ LN, D - ac = LN := ⟨_, rfl⟩
            have HLl : Hid ((numb (x0 + (ac : Int)) ((l2.take D).drop ac)).length = LN ∧ LN + ac = D ∧ D ≤ 60) := Lib.hid (by
              rw [numb_length, List.length_drop, HDl2.out.2]; omega)
            have HLf : Hid (∀ W, Q w W p (x0 + (ac : Int)) (numb (x0 + (ac : Int)) ((l2.take D).drop ac)) ta tc (numb x0 (l2.take T)) (some ⟨gd, od, none⟩) dc (numb x0 (l2.take D)) oa oc (numb x0 (l2.take D)) G x1 (x0 + (T : Int)) [] → Calls Try.prog 16 #[.pointer (some ⟨p, 0, none⟩)] W fun e W' => ∃ a' c', e = .returned (.slice a' LN c') ∧ LN ≤ c' ∧ c' ≤ maxLen ∧ OwnI W' a' c' (numb (x0 + (ac : Int)) ((l2.take D).drop ac)) ∧ Fresh W.heap.size a' ∧ Below W.heap.size W W') := Lib.hid fun W h => by
              have hl := HLl.out
              refine (h.left (by omega)).mono ?_
              rintro e w'' ⟨a', c', rfl, h2, hf, h3⟩
              have hc := h2.cap
              rw [hl.1] at hc ⊢
              exact ⟨a', c', rfl, hc.1, hc.2, h2, hf, h3⟩
            have HDN := Lib.hid hdone
            have hLNb : (LN : Int) ≤ 60 := by have := HLl.out; omega
            clear hLN hdone
            by_cases hid : i ≤ D
            · have hidI : (i : Int) ≤ (D : Int) := by omega
              go_wp2_with (
                go_at_call 16; with_reducible refine (HLf.out _ HQ1.out).mono ?_; rintro e v1 ⟨a6, c6, rfl, h61, h62, ho, hf, hbl⟩
                obtain ⟨H6, hQ6, hO6⟩ := HQ1.out.keepRow hbl ho hf
                have HQ6 := Lib.hid hQ6
                have HO6 := Lib.hid hO6
                have HC6 := Lib.hid (And.intro h61 h62)
                clear ho hf hbl h61 h62 hQ6 hO6)
              go_loopw [12, 160] (fun tv rv wz => ∃ (r T' : Nat) (ta' : Option Addr) (tc' : Nat), r ≤ LN ∧ tv = .slice ta' T' tc' ∧ rv = .int .i64 (r : Int) ∧ ac + r ≤ T' ∧ T' ≤ D ∧ Q w wz p (x0 + (ac : Int)) (numb (x0 + (ac : Int)) ((l2.take D).drop ac)) ta' tc' (numb x0 (l2.take T')) (some ⟨gd, od, none⟩) dc (numb x0 (l2.take D)) oa oc (numb x0 (l2.take D)) G x1 (x0 + (T' : Int)) H6) (fun _ rv _ => LN - (intOf rv).toNat)
              case atStart => exact ⟨0, T, ta, tc, by omega, rfl, rfl, by omega, hT, HQ6.out⟩
              case round =>
                have hac0 := hac
                clear HQ6 hac hT
                obtain ⟨r, T, ta, tc, hr, rfl, rfl, hacr, hT, hQ⟩ := hrel
                have HQ7 := Lib.hid hQ
                clear hQ
                by_cases hrl : r < LN
                · have hrI : (r : Int) < (LN : Int) := by omega
                  obtain ⟨y, hy⟩ : ∃ y, l2[ac + r]? = some y := ⟨_, List.getElem?_eq_getElem (by have := HLl.out; have := HI2.out.1.1; omega)⟩
                  have hx := numb_get (x0 + (ac : Int)) ((l2.take D).drop ac) r y (by rw [List.getElem?_drop, List.getElem?_take, if_pos (by have := HLl.out; omega)]; exact hy)
                  obtain ⟨ys, yb, yd, yc, yn⟩ := y
                  obtain ⟨b6, o6, ha6, hb6, g0, g1, g2, g3, g4⟩ := (HO6.out wr (HQ7.out.heldAll)).rd.at hx
                  simp only [It.no] at g0 g1 g2 g3 g4
                  subst ha6
                  have HY := Lib.hid hy
                  have HX9 := Lib.hid (HQ7.out.hold ((Below.refl wr.heap.size wr).alloc (Nat.le_refl _) (.cells #[.int .i64 (x0 + (ac : Int) + (r : Int) + 1), .int .i64 yb, .string yd, .int .i64 yc, .int .i64 yn] 29)) (Nat.le_refl _) (heap_alloc_new wr (.cells #[.int .i64 (x0 + (ac : Int) + (r : Int) + 1), .int .i64 yb, .string yd, .int .i64 yc, .int .i64 yn] 29)))
                  obtain ⟨r0, r1, _⟩ := HX9.out.ver
                  have HTl : Hid ((numb x0 (l2.take T)).length = T ∧ T + 1 ≤ 100000) := Lib.hid (by rw [numb_length, List.length_take]; have := HI2.out.1.1; omega)
                  have HJD := Lib.hid (And.intro hT (And.intro hacr HLl.out))
                  clear hx hy
                  obtain ⟨wq, hwq⟩ : ∃ x, x = wr := ⟨_, rfl⟩
                  subst hwq
                  by_cases hjt : ac + r < T
                  · have HNx : Hid (∀ W, Calls Try.prog 22 #[.agg #[.int .i64 x1, .int .i64 (x0 + (T : Int))], .int .i64 x1, .int .i64 (x0 + (ac : Int) + (r : Int) + 1)] W fun e W' => e = .returned (.int .i64 2) ∧ Below W.heap.size W W') := Lib.hid fun W => by
                      have := next_any W x1 (x0 + (T : Int)) x1 (x0 + (ac : Int) + (r : Int) + 1) (by omega) (by omega)
                      rwa [next_had ⟨rfl, by omega⟩] at this
                    go_wp2_with (
                      go_at_call 22; with_reducible refine (HNx.out _).mono ?_; rintro e w9 ⟨rfl, hb⟩
                      have H9 := Lib.hid (HX9.out.below hb)
                      clear hb)
                    go_roundw
                    case rel => exact ⟨r + 1, T, ta, tc, by omega, rfl, by go_num, by omega, hT, H9.out.free (fun e he => List.mem_cons_of_mem _ he)⟩
                    case measure => simp [intOf]; omega
                  · have hTe : T = ac + r := by omega
                    have HNx : Hid (∀ W, Calls Try.prog 22 #[.agg #[.int .i64 x1, .int .i64 (x0 + (T : Int))], .int .i64 x1, .int .i64 (x0 + (ac : Int) + (r : Int) + 1)] W fun e W' => e = .returned (.int .i64 1) ∧ Below W.heap.size W W') := Lib.hid fun W => by
                      have := next_any W x1 (x0 + (T : Int)) x1 (x0 + (ac : Int) + (r : Int) + 1) (by omega) (by omega)
                      rwa [next_take (fun h => by omega) (.inl ⟨rfl, by omega⟩)] at this
                    have HE : Hid (numb x0 (l2.take T) ++ [⟨x0 + (ac : Int) + (r : Int) + 1, yb, yd, yc, yn⟩] = numb x0 (l2.take (T + 1))) := Lib.hid (by
                      have hl : (l2.take T).length = T := by have := HTl.out.1; rwa [numb_length] at this
                      rw [List.take_add_one, hTe, HY.out, ← hTe, Option.toList_some, numb_add, hl, show x0 + (T : Int) + 1 = x0 + (ac : Int) + (r : Int) + 1 by omega]; rfl)
                    have HTE := Lib.hid hTe
                    clear hTe hjt
                    go_wp2_with (first
                      | (
                         go_at_call 22; with_reducible refine (HNx.out _).mono ?_; rintro e w9 ⟨rfl, hb⟩
                         have H9 := Lib.hid (HX9.out.below hb)
                         have e9 := H9.out.held (List.mem_cons_self ..)
                         have k0 : w9.cell? ⟨wq.heap.size, 0, none⟩ = some (.int .i64 (x0 + (ac : Int) + (r : Int) + 1)) := by simp [World.cell?, e9]
                         have k1 : w9.cell? ⟨wq.heap.size, 1, none⟩ = some (.int .i64 yb) := by simp [World.cell?, e9]
                         have k2 : w9.cell? ⟨wq.heap.size, 2, none⟩ = some (.string yd) := by simp [World.cell?, e9]
                         have k3 : w9.cell? ⟨wq.heap.size, 3, none⟩ = some (.int .i64 yc) := by simp [World.cell?, e9]
                         have k4 : w9.cell? ⟨wq.heap.size, 4, none⟩ = some (.int .i64 yn) := by simp [World.cell?, e9]
                         clear hb e9)
                      | (
                         at_builtin
                         refine wpList_append_I _ rfl (.tmp 170) (.tmp 172) rfl ta T tc (numb x0 (l2.take T)) rfl HTl.out.1 (H9.out.below (w' := w9.alloc (.cells #[.int .i64 (x0 + (ac : Int) + (r : Int) + 1), .int .i64 yb, .string yd, .int .i64 yc, .int .i64 yn] 29)) ((Below.refl _ _).alloc (Nat.le_refl _) (.cells #[.int .i64 (x0 + (ac : Int) + (r : Int) + 1), .int .i64 yb, .string yd, .int .i64 yc, .int .i64 yn] 29))).t _ 1 1 [⟨x0 + (ac : Int) + (r : Int) + 1, yb, yd, yc, yn⟩] rfl (rd_one (heap_alloc_new w9 (.cells #[.int .i64 (x0 + (ac : Int) + (r : Int) + 1), .int .i64 yb, .string yd, .int .i64 yc, .int .i64 yn] 29))) HTl.out.2 ?_
                         intro ta' tc' wt ot gt nt
                         have HT := Lib.hid ((H9.out.below ((Below.refl _ _).alloc (Nat.le_refl _) (.cells #[.int .i64 (x0 + (ac : Int) + (r : Int) + 1), .int .i64 yb, .string yd, .int .i64 yc, .int .i64 yn] 29))).growT ot gt nt)
                         have et := HT.out.held (List.mem_cons_self ..)
                         have et0 : wt.cell? ⟨wq.heap.size, 0, none⟩ = some (.int .i64 (x0 + (ac : Int) + (r : Int) + 1)) := by simp [World.cell?, et]
                         obtain ⟨p0, p1, p2⟩ := HT.out.ver
                         clear ot gt nt et))
                    go_roundw
                    case rel =>
                      refine ⟨r + 1, T + 1, ta', tc', by omega, rfl, by go_num, by have := HTE.out; omega, by have := HTE.out; have := HJD.out; omega, ?_⟩
                      have := (HT.out.setG (x0 + (ac : Int) + (r : Int) + 1)).free (H' := H6) (fun e he => List.mem_cons_of_mem _ he)
                      rw [HE.out] at this
                      rw [show x0 + ((T + 1 : Nat) : Int) = x0 + (ac : Int) + (r : Int) + 1 by have := HTE.out; omega]
                      exact this
                    case measure => simp [intOf]; omega
                · have hTD : D = T := by have := HLl.out; omega
                  subst hTD
                  obtain ⟨q0, q1, q2⟩ := HQ7.out.ver
                  by_cases hat : ac < D
                  · have HAk : Hid (∀ W, Q w W p (x0 + (ac : Int)) (numb (x0 + (ac : Int)) ((l2.take D).drop ac)) ta tc (numb x0 (l2.take D)) (some ⟨gd, od, none⟩) dc (numb x0 (l2.take D)) oa oc (numb x0 (l2.take D)) G x1 (x0 + (D : Int)) H6 → Calls Try.prog 14 #[.pointer (some ⟨p, 0, none⟩), .int .i64 (x0 + (D : Int))] W fun e W' => e = .returned (.bool true) ∧ Q w W' p (x0 + (D : Int)) (numb (x0 + (D : Int)) ((l2.take D).drop D)) ta tc (numb x0 (l2.take D)) (some ⟨gd, od, none⟩) dc (numb x0 (l2.take D)) oa oc (numb x0 (l2.take D)) G x1 (x0 + (D : Int)) H6) := Lib.hid fun W h => by
                      have := h.ack (x0 + (D : Int))
                      obtain ⟨t1, t2, t3⟩ := ack_numb_yes (b := x0) (l := l2.take D) hat (by rw [HDl2.out.2]; exact Nat.le_refl _)
                      rw [t1, t2, t3] at this
                      exact this
                    go_wp2_with (
                      go_at_call 14; with_reducible refine (HAk.out _ HQ7.out).mono ?_; rintro e wk ⟨rfl, hb⟩
                      have HQ11 := Lib.hid hb
                      clear hb)
                    go_roundw
                    case rel => exact ⟨i + 1, D, D, ta, tc, by omega, rfl, by go_num, Nat.le_refl _, Nat.le_refl _, .inr ⟨rfl, rfl⟩, HQ11.out.free (by simp)⟩
                    case measure => simp [intOf]; omega
                  · have hae : D = ac := by omega
                    have HAk : Hid (∀ W, Q w W p (x0 + (ac : Int)) (numb (x0 + (ac : Int)) ((l2.take D).drop ac)) ta tc (numb x0 (l2.take D)) (some ⟨gd, od, none⟩) dc (numb x0 (l2.take D)) oa oc (numb x0 (l2.take D)) G x1 (x0 + (D : Int)) H6 → Calls Try.prog 14 #[.pointer (some ⟨p, 0, none⟩), .int .i64 (x0 + (D : Int))] W fun e W' => e = .returned (.bool false) ∧ Q w W' p (x0 + (ac : Int)) (numb (x0 + (ac : Int)) ((l2.take D).drop ac)) ta tc (numb x0 (l2.take D)) (some ⟨gd, od, none⟩) dc (numb x0 (l2.take D)) oa oc (numb x0 (l2.take D)) G x1 (x0 + (D : Int)) H6) := Lib.hid fun W h => by
                      have := h.ack (x0 + (D : Int))
                      obtain ⟨t1, t2, t3⟩ := ack_numb_no (b := x0) (q := x0 + (D : Int)) (a := ac) (l := l2.take D) (by rw [HDl2.out.2]; omega) (.inl (by omega))
                      rw [t1, t2, t3] at this
                      exact this
                    have HAE := Lib.hid hae
                    clear hae hat
                    go_wp2_with (
                      go_at_call 14; with_reducible refine (HAk.out _ HQ7.out).mono ?_; rintro e wk ⟨rfl, hb⟩
                      have HQ11 := Lib.hid hb
                      clear hb)
                    go_roundw
                    case rel => exact ⟨i + 1, D, ac, ta, tc, by omega, rfl, by go_num, by have := HAE.out; omega, Nat.le_refl _, .inr ⟨rfl, by have := HAE.out; omega⟩, HQ11.out.free (by simp)⟩
                    case measure => simp [intOf]; omega
            · have hTD : T = D ∧ ac = D := by rcases HDN.out with h | h; (omega); (exact h)
              obtain ⟨hTD, hacD⟩ := hTD
              have hidI : decide ((i : Int) ≤ (D : Int)) = false := by simp; omega
              have hl0 : LN = 0 := by have := HLl.out; omega
              have hz : ((LN : Int) == 0) = true := by simp [hl0]
              have HSm : Hid (∀ W, Q w W p (x0 + (ac : Int)) (numb (x0 + (ac : Int)) ((l2.take D).drop ac)) ta tc (numb x0 (l2.take T)) (some ⟨gd, od, none⟩) dc (numb x0 (l2.take D)) oa oc (numb x0 (l2.take D)) G x1 (x0 + (T : Int)) [] → Calls Try.prog 17 #[.slice ta T tc, .slice (some ⟨gd, od, none⟩) D dc] W fun e w' => e = .returned (.bool true) ∧ ∃ q, w' = W.drewN q) := Lib.hid fun W h => by
                have h1 := h.t.rd
                have h2 := h.d.rd
                rw [hTD] at h1 ⊢
                rw [HDl2.out.1] at h1 h2
                exact same_yes W _ _ tc dc _ D (by have := HLl.out; omega) h1 h2
              have HAc : Hid (∀ W, Q w W p (x0 + (ac : Int)) (numb (x0 + (ac : Int)) ((l2.take D).drop ac)) ta tc (numb x0 (l2.take T)) (some ⟨gd, od, none⟩) dc (numb x0 (l2.take D)) oa oc (numb x0 (l2.take D)) G x1 (x0 + (T : Int)) [] → Calls Try.prog 21 #[.pointer (some ⟨p, 0, none⟩)] W fun e W' => e = .returned (.int .i64 (x0 + (ac : Int))) ∧ W = W') := Lib.hid fun W h => h.acked
              have HLa : Hid (∀ W, Q w W p (x0 + (ac : Int)) (numb (x0 + (ac : Int)) ((l2.take D).drop ac)) ta tc (numb x0 (l2.take T)) (some ⟨gd, od, none⟩) dc (numb x0 (l2.take D)) oa oc (numb x0 (l2.take D)) G x1 (x0 + (T : Int)) [] → Calls Try.prog 19 #[.pointer (some ⟨p, 0, none⟩)] W fun e W' => e = .returned (.int .i64 (x0 + (ac : Int))) ∧ ∃ n, W' = W.drewN n) := Lib.hid fun W h => by
                have := h.last
                rw [HLl.out.1, hl0, show x0 + (ac : Int) + ((0 : Nat) : Int) = x0 + (ac : Int) by omega] at this
                exact this
              clear hl0 hTD hacD hac hT
              go_wp2_with (first
                | (
                   go_at_call 17; with_reducible refine (HSm.out _ HQ1.out).mono ?_; rintro e z1 ⟨rfl, d1, hv⟩
                   have HQ2 := Lib.hid (HQ1.out.below (w' := z1) (by rw [hv]; exact (Below.refl _ _).drewB d1))
                   clear hv)
                | (
                   go_at_call 16; with_reducible refine (HLf.out _ HQ2.out).mono ?_; rintro e z2 ⟨a6, c6, rfl, h61, h62, ho, hf, hbl⟩
                   have HQ3 := Lib.hid (HQ2.out.below hbl)
                   have HC6 := Lib.hid (And.intro h61 h62)
                   clear ho hf hbl h61 h62)
                | (
                   go_at_call 21; with_reducible refine (HAc.out _ HQ3.out).mono ?_; rintro e z3 ⟨rfl, rfl⟩)
                | (
                   go_at_call 19; with_reducible refine (HLa.out _ HQ3.out).mono ?_; rintro e z4 ⟨rfl, d4, hv⟩
                   have HQ4 := Lib.hid (HQ3.out.below (w' := z4) (by rw [hv]; exact (Below.refl _ _).drewB d4))
                   clear hv))
              go_ret
              exact ⟨by simp, HQ4.out.beq⟩

set_option maxRecDepth 100000 in
theorem lifted (os : Os) (started : os.Started) (H : Type) (enc : TypeId × Value → H) :
    ReturnsInHanded {} Try.checked os 5 .any (Rows.mirrorOnceSpec.pre6 enc Try.prog Try.f5 Rows.mirrorOnceRow.domain false) (Rows.mirrorOnceSpec.post enc Try.prog Try.f5 false true false false) := by
  refine returnsInHanded_of_change (C := Try.checked) own started (by kernel_rfl) Try.func5
    (ChangeSpec.witness6 (enc := enc) (C := Try.checked) false ⟨#[], #[.int .i64 0, .int .i64 0, .slice none 0 0, .slice none 0 0], []⟩ 8 (by kernel_rfl) (by kernel_rfl) (by kernel_rfl) (by kernel_rfl)) ?_
  intro W base args ds gs before hval0 hW hcnd _
  have hval : ∀ (j : Nat) t v, Try.f5.params[j]? = some t → args[j]? = some v → Value.okWide Try.prog W .any base t v := hval0
  have hW' := hW
  obtain ⟨p, q, hA0, hV, rfl, hfz, hnd⟩ := hW
  have hA : DataW.TrodAll enc Try.prog W 0 (fun _ => true) true Try.f5.params.toList args.toList ds p := hA0
  rw [Try.params5] at hA hval
  obtain ⟨v0, vs0, d0, ds0, p0, q0, hargs, rfl, rfl, h0, r0'⟩ := trodAll_cons hA
  obtain ⟨v1, vs1, d1, ds1, p1, q1, rfl, rfl, rfl, h1, r1'⟩ := trodAll_cons r0'
  obtain ⟨v2, vs2, d2, ds2, p2, q2, rfl, rfl, rfl, h2, r2'⟩ := trodAll_cons r1'
  obtain ⟨v3, vs3, d3, ds3, p3, q3, rfl, rfl, rfl, h3, r3'⟩ := trodAll_cons r2'
  obtain ⟨rfl, rfl, rfl⟩ := trodAll_nil r3'
  obtain rfl : args = #[v0, v1, v2, v3] := by cases args; simp_all
  obtain ⟨rfl, rfl⟩ := trodVars_none hV
  obtain ⟨x0, rfl, rfl, rfl, w0⟩ := open_int Try.underlying2 (hval 0 2 v0 rfl rfl) h0
  obtain ⟨x1, rfl, rfl, rfl, w1⟩ := open_int Try.underlying2 (hval 1 2 v1 rfl rfl) h1
  have k2 := h2
  have lt2 : ∀ x ∈ p2, x.block < W.heap.size := by obtain ⟨m, hm⟩ := k2; exact DataW.trod_lt m _ _ _ hm
  obtain ⟨a2, n2, c2, l2, rfl, w2⟩ := Mr.open_items h2 (okWide_slice Try.underlying36 (hval 2 36 v2 rfl rfl))
  have k3 := h3
  have lt3 : ∀ x ∈ p3, x.block < W.heap.size := by obtain ⟨m, hm⟩ := k3; exact DataW.trod_lt m _ _ _ hm
  obtain ⟨a3, n3, c3, l3, rfl, w3⟩ := Mr.open_bytes h3 (okWide_slice Try.underlying47 (hval 3 47 v3 rfl rfl))
  clear hA0 hval0
  refine (walk x0 x1 a2 n2 c2 l2 a3 n3 c3 l3 W w0 w1 w2 w3).mono fun e W' ⟨he, bel⟩ => ?_
  subst he
  exact ⟨_, rfl, _, _, _, [], _, [], hW', trodAll_mk1 (shut_bool Try.underlying4 _), (trodAll_cons_mk (shut_int Try.underlying2 w0) (trodAll_cons_mk (shut_int Try.underlying2 w1) (trodAll_cons_mk (Below.trod laidOut (by kernel_rfl) (of_decide_eq_true (by kernel_rfl)) k2 bel lt2) (trodAll_cons_mk (Below.trod laidOut (by kernel_rfl) (of_decide_eq_true (by kernel_rfl)) k3 bel lt3) trodAll_mk0)))), rfl, bel.frame _, fun h => by cases h⟩

theorem over : Rows.mirrorOnceRow.holds Try.pinned (OpenSpec.ofChange Rows.mirrorOnceSpec) :=
  OpenClaim.holds_of_wide 5 Try.f5 rfl rfl rfl rfl rfl rfl rfl ⟨rfl, rfl, rfl, rfl, rfl⟩ rfl rfl rfl rfl rfl (by kernel_rfl) Try.func5 (by kernel_rfl)
    (of_decide_eq_true (by kernel_rfl)) (by unfold Func.isWrapper; first | (rw [if_pos (by decide +kernel)]; kernel_rfl) | (rw [if_neg (by decide +kernel)]; exact ⟨rfl, rfl⟩))
    (fun os started H enc _ => lifted os started H enc)

/-- the statement -/
theorem proved : Rows.MirrorOnceSaid := over
#print axioms proved
end Go.Proofs.Ytcnmkojlledipaa.mirrorOnce
