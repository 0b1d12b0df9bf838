/-
  PROVED: a sender counts from its base, whatever that is. CONDITIONS: none (any base; acts, of which up to 100 are done).
-/
import Derived.Test.YtcnmkojlledipaaMrTwo
import Derived.BigQuiet
import Derived.Deep.RegionHeld3
import Derived.Deep.DeepCutAuto
import Derived.Deep.CutBlock
namespace Go.Proofs.Ytcnmkojlledipaa.mirrorBase
open Go.ChangeShapes Go.WideShapes Go.ChangeAt Go.RowKit Go.Joins
open Go.ChangeMaps (open_string shut_string)
set_option linter.unusedVariables false
set_option linter.unusedSimpArgs false
set_option maxRecDepth 20000

open Mr

set_option maxHeartbeats 4000000 in
theorem walk (x0 : Int) (a1 : Option Addr) (n1 c1 : Nat) (l1 : List Mr.Ac) (w : World) (w0 : (Lit.int .i64 x0).wf = true) (w1 : Mr.Acts w a1 n1 c1 l1) :
    Calls Try.prog 8 #[.int .i64 x0, .slice a1 n1 c1] w fun e w' => e = .returned (.bool true) ∧ Below w.heap.size w w' := by
  have HA := Lib.hid (fun w' => awake_any w')
  have HR1 := Lib.hid w1
  have hc1 : n1 ≤ 9223372036854775807 := by have := w1.2.1; have := w1.2.2.1; simp only [maxLen] at *; omega
  clear w1
  by_cases hneg : x0 < 0 ∨ 1099511627776 < x0
  · rcases hneg with hn | hn
    case' inl => have hd : decide (x0 < 0) = true := by simpa using hn
    case' inr => have hd : decide (x0 < 0) = false := by simp; omega
    all_goals
      go_enter Try.func8, Try.ntmps8
      go_wp2_with (go_at_call 9; with_reducible refine (HA.out _).mono ?_; rintro e wa ⟨rfl, hb⟩
                   have HB := Lib.hid hb
                   clear hb)
      go_ret
      exact ⟨rfl, HB.out⟩
  · have hE : 0 ≤ x0 := by omega
    have hS : x0 ≤ 1099511627776 := by omega
    have hd0 : decide (x0 < 0) = false := by simp; omega
    have hd1 : decide (1099511627776 < x0) = false := by simp; omega
    have HN : Hid (∀ w', Below w.heap.size w w' → Calls Try.prog 10 #[.int .i64 x0] w' fun e w'' => ∃ p, e = .returned (.pointer (some ⟨p, 0, none⟩)) ∧ Rx w w'' p x0 []) := Lib.hid fun w' hb => by
      refine (new_run w w' x0 hb).mono ?_
      rintro e w'' ⟨rfl, h1, _⟩
      rw [base_same hE (by omega)] at h1
      exact ⟨_, rfl, none, h1⟩
    have HN2 : Hid (∀ w' p, Rx w w' p x0 [] → Calls Try.prog 10 #[.int .i64 0] w' fun e w'' => ∃ q, e = .returned (.pointer (some ⟨q, 0, none⟩)) ∧ X2 w w'' p x0 [] q 0 []) := Lib.hid fun w' p h => new_two h 0
    clear hneg w0
    go_enter Try.func8, Try.ntmps8
    go_wp2_with (first
        | (go_at_call 9; with_reducible refine (HA.out _).mono ?_; rintro e wa ⟨rfl, hb⟩
           have HB := Lib.hid hb
           clear hb)
        | (go_at_call 10; with_reducible refine (HN.out _ HB.out).mono ?_; rintro e wb ⟨p, rfl, hb⟩
           have HX0 := Lib.hid hb
           clear hb)
        | (go_at_call 10; with_reducible refine (HN2.out _ _ HX0.out).mono ?_; rintro e wc ⟨q, rfl, hb⟩
           have HX1 := Lib.hid hb
           clear hb))
    go_loopw [7] (fun iv wr => ∃ (k : Nat) (A : Int) (xs : List It), k ≤ n1 ∧ k ≤ 100 ∧ iv = .int .i64 (k : Int) ∧ 0 ≤ A ∧ A + (xs.length : Int) ≤ (k : Int) ∧ X2 w wr p (A + x0) (numb (A + x0) xs) q A (numb A xs)) (fun iv _ => 100 - (intOf iv).toNat)
    case atStart => exact ⟨0, 0, [], by omega, by omega, rfl, by omega, by simp, by rw [show (0 : Int) + x0 = x0 by omega]; exact HX1.out⟩
    case round =>
      clear HX0 HX1 HB HA HN HN2
      obtain ⟨k, A, xs, hk1, hk2, rfl, hA0, hAk, hRx⟩ := hrel
      have HRx := Lib.hid hRx
      clear hRx
      by_cases hlt : k < n1 ∧ k < 100
      · obtain ⟨hk3, hk4⟩ := hlt
        have hk5 : (k : Int) < (n1 : Int) := by omega
        have hk6 : (k : Int) < 100 := by omega
        obtain ⟨y, hy⟩ : ∃ y, l1[k]? = some y := ⟨_, List.getElem?_eq_getElem (by have := HR1.out.1; omega)⟩
        obtain ⟨b1, o1, rfl, hb1, hcs⟩ := HR1.out.at hy
        have hyw := HR1.out.2.2.2.1 y (List.mem_of_getElem? hy)
        obtain ⟨kd, yi, ys, yb, yd, yc, yn⟩ := y
        have HYW := Lib.hid hyw
        have hc : ∀ i v, [Value.int .i64 kd, .int .i64 yi, .int .i64 ys, .int .i64 yb, .string yd, .int .i64 yc, .int .i64 yn][i]? = some v → wr.cell? ⟨b1, o1 + (k * 7 + i), none⟩ = some v := fun i v hv => by
          rw [HRx.out.be.cell (p := ⟨b1, o1 + (k * 7 + i), none⟩) hb1]; exact hcs i v hv
        have c0 : wr.cell? ⟨b1, o1 + k * 7, none⟩ = some (.int .i64 kd) := hc 0 _ rfl
        have c1' : wr.cell? ⟨b1, o1 + k * 7 + 1, none⟩ = some (.int .i64 yi) := by rw [Nat.add_assoc]; exact hc 1 _ rfl
        have c2 : wr.cell? ⟨b1, o1 + k * 7 + 2, none⟩ = some (.int .i64 ys) := by rw [Nat.add_assoc]; exact hc 2 _ rfl
        have c3 : wr.cell? ⟨b1, o1 + k * 7 + 3, none⟩ = some (.int .i64 yb) := by rw [Nat.add_assoc]; exact hc 3 _ rfl
        have c4 : wr.cell? ⟨b1, o1 + k * 7 + 4, none⟩ = some (.string yd) := by rw [Nat.add_assoc]; exact hc 4 _ rfl
        have c5 : wr.cell? ⟨b1, o1 + k * 7 + 5, none⟩ = some (.int .i64 yc) := by rw [Nat.add_assoc]; exact hc 5 _ rfl
        have c6 : wr.cell? ⟨b1, o1 + k * 7 + 6, none⟩ = some (.int .i64 yn) := by rw [Nat.add_assoc]; exact hc 6 _ rfl
        have hb1r : b1 < wr.heap.size := Nat.lt_of_lt_of_le hb1 HRx.out.be.size
        clear hc hcs hy hyw
        have hyi := HYW.out
        by_cases h0 : kd = 0
        · as_aux_lemma =>
            subst h0

            have HB1 := Lib.hid ((Below.refl wr.heap.size wr).alloc (Nat.le_refl _) (.cells #[.int .i64 0, .int .i64 yi, .int .i64 ys, .int .i64 yb, .string yd, .int .i64 yc, .int .i64 yn] 31))
            have HX3 := Lib.hid (X3.of HRx.out HB1.out (Nat.le_refl _) (heap_alloc_new wr (.cells #[.int .i64 0, .int .i64 yi, .int .i64 ys, .int .i64 yb, .string yd, .int .i64 yc, .int .i64 yn] 31)))
            have HCL : Hid (∀ W l1 m1 A1 B1, X3 w W p A1 l1 q B1 m1 wr.heap.size (.cells #[.int .i64 0, .int .i64 yi, .int .i64 ys, .int .i64 yb, .string yd, .int .i64 yc, .int .i64 yn] 31) → W.cell? ⟨wr.heap.size, 1, none⟩ = some (.int .i64 yi) ∧ W.cell? ⟨wr.heap.size, 2, none⟩ = some (.int .i64 ys) ∧ W.cell? ⟨wr.heap.size, 3, none⟩ = some (.int .i64 yb) ∧ W.cell? ⟨wr.heap.size, 4, none⟩ = some (.string yd) ∧ W.cell? ⟨wr.heap.size, 5, none⟩ = some (.int .i64 yc) ∧ W.cell? ⟨wr.heap.size, 6, none⟩ = some (.int .i64 yn)) := Lib.hid fun W l1 m1 A1 B1 h => by
              have e := h.held
              exact ⟨by simp [World.cell?, e], by simp [World.cell?, e], by simp [World.cell?, e], by simp [World.cell?, e], by simp [World.cell?, e], by simp [World.cell?, e]⟩

            have HAK : Hid (0 ≤ A ∧ A + (((xs ++ [(⟨ys, yb, yd, yc, yn⟩ : It)])).length : Int) ≤ (k : Int) + 1) := Lib.hid ⟨hA0, by rw [List.length_append, List.length_singleton]; omega⟩
            have CA1 : Hid (∀ W, X3 w W p (A + x0) (numb (A + x0) xs) q A (numb A xs) wr.heap.size (.cells #[.int .i64 0, .int .i64 yi, .int .i64 ys, .int .i64 yb, .string yd, .int .i64 yc, .int .i64 yn] 31) → Calls Try.prog 12 #[.pointer (some ⟨p, 0, none⟩), .agg #[.int .i64 ys, .int .i64 yb, .string yd, .int .i64 yc, .int .i64 yn]] W fun e W' => e = .returned (.tuple #[.int .i64 (A + (xs.length : Int) + 1 + x0), .int .i64 0]) ∧ X3 w W' p (A + x0) (numb (A + x0) (xs ++ [(⟨ys, yb, yd, yc, yn⟩ : It)])) q A (numb A xs) wr.heap.size (.cells #[.int .i64 0, .int .i64 yi, .int .i64 ys, .int .i64 yb, .string yd, .int .i64 yc, .int .i64 yn] 31)) := Lib.hid fun W h => by
              have := h.add1 ⟨ys, yb, yd, yc, yn⟩ (by rw [numb_length]; omega)
              obtain ⟨t1, t2, t3⟩ := add_numb (b := A + x0) (l := xs) ⟨ys, yb, yd, yc, yn⟩ (by omega)
              rw [t1, t2, t3, show A + x0 + (xs.length : Int) + 1 = A + (xs.length : Int) + 1 + x0 by omega] at this
              exact this
            have CA2 : Hid (∀ W, X3 w W p (A + x0) (numb (A + x0) (xs ++ [(⟨ys, yb, yd, yc, yn⟩ : It)])) q A (numb A xs) wr.heap.size (.cells #[.int .i64 0, .int .i64 yi, .int .i64 ys, .int .i64 yb, .string yd, .int .i64 yc, .int .i64 yn] 31) → Calls Try.prog 12 #[.pointer (some ⟨q, 0, none⟩), .agg #[.int .i64 ys, .int .i64 yb, .string yd, .int .i64 yc, .int .i64 yn]] W fun e W' => e = .returned (.tuple #[.int .i64 (A + (xs.length : Int) + 1), .int .i64 0]) ∧ X3 w W' p (A + x0) (numb (A + x0) (xs ++ [(⟨ys, yb, yd, yc, yn⟩ : It)])) q A (numb A (xs ++ [(⟨ys, yb, yd, yc, yn⟩ : It)])) wr.heap.size (.cells #[.int .i64 0, .int .i64 yi, .int .i64 ys, .int .i64 yb, .string yd, .int .i64 yc, .int .i64 yn] 31)) := Lib.hid fun W h => by
              have := h.add2 ⟨ys, yb, yd, yc, yn⟩ (by rw [numb_length]; omega)
              obtain ⟨t1, t2, t3⟩ := add_numb (b := A) (l := xs) ⟨ys, yb, yd, yc, yn⟩ (by omega)
              rw [t1, t2, t3] at this
              exact this
            have hwn : IntKind.i64.wrap (A + (xs.length : Int) + 1 + x0) = A + (xs.length : Int) + 1 + x0 := IntWalk.i64_in _ (by omega)

            obtain ⟨m, hm⟩ : ∃ m : Nat, m = ((xs ++ [(⟨ys, yb, yd, yc, yn⟩ : It)])).length := ⟨_, rfl⟩
            have hbd : 0 ≤ A ∧ A + (m : Int) ≤ (k : Int) + 1 := by have := HAK.out; rw [hm]; exact this
            have HLm : Hid (((xs ++ [(⟨ys, yb, yd, yc, yn⟩ : It)])).length = m) := Lib.hid hm.symm
            have HL1 : Hid (∀ W, X2 w W p (A + x0) (numb (A + x0) (xs ++ [(⟨ys, yb, yd, yc, yn⟩ : It)])) q A (numb A (xs ++ [(⟨ys, yb, yd, yc, yn⟩ : It)])) → Calls Try.prog 16 #[.pointer (some ⟨p, 0, none⟩)] W fun e W' => ∃ a' c', e = .returned (.slice a' m c') ∧ m ≤ c' ∧ c' ≤ maxLen ∧ X2 w W' p (A + x0) (numb (A + x0) (xs ++ [(⟨ys, yb, yd, yc, yn⟩ : It)])) q A (numb A (xs ++ [(⟨ys, yb, yd, yc, yn⟩ : It)])) ∧ Rd W' a' m (numb (A + x0) ((xs ++ [(⟨ys, yb, yd, yc, yn⟩ : It)])))) := Lib.hid fun W h => by
              have hl : (numb (A + x0) ((xs ++ [(⟨ys, yb, yd, yc, yn⟩ : It)]))).length = m := by rw [numb_length]; exact HLm.out
              refine (h.x1.left (by rw [hl]; omega)).mono ?_
              rintro e w'' ⟨a', c', rfl, h1, h2, _, h3⟩
              have hc := h2.cap
              have hr := h2.rd
              rw [hl] at hc hr ⊢
              exact ⟨a', c', rfl, hc.1, hc.2, h.below h3, hr⟩
            have HL2 : Hid (∀ W, X2 w W p (A + x0) (numb (A + x0) (xs ++ [(⟨ys, yb, yd, yc, yn⟩ : It)])) q A (numb A (xs ++ [(⟨ys, yb, yd, yc, yn⟩ : It)])) → Calls Try.prog 16 #[.pointer (some ⟨q, 0, none⟩)] W fun e W' => ∃ a' c', e = .returned (.slice a' m c') ∧ m ≤ c' ∧ c' ≤ maxLen ∧ X2 w W' p (A + x0) (numb (A + x0) (xs ++ [(⟨ys, yb, yd, yc, yn⟩ : It)])) q A (numb A (xs ++ [(⟨ys, yb, yd, yc, yn⟩ : It)])) ∧ OwnI W' a' c' (numb A ((xs ++ [(⟨ys, yb, yd, yc, yn⟩ : It)]))) ∧ Fresh W.heap.size a' ∧ Below W.heap.size W W') := Lib.hid fun W h => by
              have hl : (numb A ((xs ++ [(⟨ys, yb, yd, yc, yn⟩ : It)]))).length = m := by rw [numb_length]; exact HLm.out
              refine (h.x2.left (by rw [hl]; omega)).mono ?_
              rintro e w'' ⟨a', c', rfl, h1, h2, h4, h3⟩
              have hc := h2.cap
              rw [hl] at hc ⊢
              exact ⟨a', c', rfl, hc.1, hc.2, h.below h3, h2, h4, h3⟩
            have HLa1 : Hid (∀ W, X2 w W p (A + x0) (numb (A + x0) (xs ++ [(⟨ys, yb, yd, yc, yn⟩ : It)])) q A (numb A (xs ++ [(⟨ys, yb, yd, yc, yn⟩ : It)])) → Calls Try.prog 19 #[.pointer (some ⟨p, 0, none⟩)] W fun e W' => e = .returned (.int .i64 (A + (m : Int) + x0)) ∧ ∃ n, W' = W.drewN n) := Lib.hid fun W h => by
              have := h.x1.last
              rw [numb_length, HLm.out, show A + x0 + (m : Int) = A + (m : Int) + x0 by omega] at this
              exact this
            have HLa2 : Hid (∀ W, X2 w W p (A + x0) (numb (A + x0) (xs ++ [(⟨ys, yb, yd, yc, yn⟩ : It)])) q A (numb A (xs ++ [(⟨ys, yb, yd, yc, yn⟩ : It)])) → Calls Try.prog 19 #[.pointer (some ⟨q, 0, none⟩)] W fun e W' => e = .returned (.int .i64 (A + (m : Int))) ∧ ∃ n, W' = W.drewN n) := Lib.hid fun W h => by
              have := h.x2.last
              rw [numb_length, HLm.out] at this
              exact this
            have HAc1 : Hid (∀ W, X2 w W p (A + x0) (numb (A + x0) (xs ++ [(⟨ys, yb, yd, yc, yn⟩ : It)])) q A (numb A (xs ++ [(⟨ys, yb, yd, yc, yn⟩ : It)])) → Calls Try.prog 21 #[.pointer (some ⟨p, 0, none⟩)] W fun e W' => e = .returned (.int .i64 (A + x0)) ∧ W = W') := Lib.hid fun W h => h.x1.acked
            have HAc2 : Hid (∀ W, X2 w W p (A + x0) (numb (A + x0) (xs ++ [(⟨ys, yb, yd, yc, yn⟩ : It)])) q A (numb A (xs ++ [(⟨ys, yb, yd, yc, yn⟩ : It)])) → Calls Try.prog 21 #[.pointer (some ⟨q, 0, none⟩)] W fun e W' => e = .returned (.int .i64 (A)) ∧ W = W') := Lib.hid fun W h => h.x2.acked
            have hwl : IntKind.i64.wrap (A + (m : Int) + x0) = A + (m : Int) + x0 := IntWalk.i64_in _ (by omega)
            have hwa : IntKind.i64.wrap (A + x0) = A + x0 := IntWalk.i64_in _ (by omega)
            have hmI : (m : Int) ≤ 101 := by omega
            clear hm

            go_wp2_with (first
              | (
                 go_at_call 12; with_reducible refine (CA1.out _ HX3.out).mono ?_; rintro e u1 ⟨rfl, h⟩
                 have HY1 := Lib.hid h
                 have hcc := HCL.out _ _ _ _ _ h
                 clear h)
              | (
                 go_at_call 12; with_reducible refine (CA2.out _ HY1.out).mono ?_; rintro e u2 ⟨rfl, h⟩
                 have HT := Lib.hid h.x2
                 clear h)
              | (
                 go_at_call 16; with_reducible refine (HL1.out _ HT.out).mono ?_; rintro e v1 ⟨a5, c5', rfl, h51, h52, hb, hr⟩
                 have HT1 := Lib.hid hb
                 have HP1 := Lib.hid hr
                 have HC1 := Lib.hid (And.intro h51 h52)
                 clear hb hr h51 h52)
              | (
                 go_at_call 16; with_reducible refine (HL2.out _ HT1.out).mono ?_; rintro e v2 ⟨a6, c6', rfl, h61, h62, hb, ho, hf, hbl⟩
                 have HT2 := Lib.hid hb
                 have HO2 := Lib.hid ho
                 have HF2 := Lib.hid hf
                 have HB2 := Lib.hid hbl
                 have HC2 := Lib.hid (And.intro h61 h62)
                 clear hb ho hf hbl h61 h62)
              | (
                 go_at_call 19; with_reducible refine (HLa1.out _ HT2.out).mono ?_; rintro e v3 ⟨rfl, d1, hv⟩
                 have HT3 := Lib.hid (HT2.out.below (w' := v3) (by rw [hv]; exact (Below.refl _ _).drewB d1))
                 have HO3 := Lib.hid (show OwnI v3 a6 c6' _ by rw [hv]; exact HO2.out)
                 have HB3 : Hid (Below v1.heap.size v1 v3) := Lib.hid (by rw [hv]; exact HB2.out.drewB d1)
                 clear hv)
              | (
                 go_at_call 19; with_reducible refine (HLa2.out _ HT3.out).mono ?_; rintro e v4 ⟨rfl, d2, hv⟩
                 have HT4 := Lib.hid (HT3.out.below (w' := v4) (by rw [hv]; exact (Below.refl _ _).drewB d2))
                 have HO4 := Lib.hid (show OwnI v4 a6 c6' _ by rw [hv]; exact HO3.out)
                 have HB4 : Hid (Below v1.heap.size v1 v4) := Lib.hid (by rw [hv]; exact HB3.out.drewB d2)
                 clear hv)
              | (
                 go_at_call 21; with_reducible refine (HAc1.out _ HT4.out).mono ?_; rintro e v5 ⟨rfl, rfl⟩)
              | (
                 go_at_call 21; with_reducible refine (HAc2.out _ HT4.out).mono ?_; rintro e v6 ⟨rfl, rfl⟩))
            go_loopw [122] (fun iv wz => ∃ (j : Nat) (l' : List It), j ≤ m ∧ iv = .int .i64 (j : Int) ∧ OwnI wz a6 c6' l' ∧ (∀ i, j ≤ i → l'[i]? = (numb A ((xs ++ [(⟨ys, yb, yd, yc, yn⟩ : It)])))[i]?) ∧ Below v1.heap.size v1 wz) (fun iv _ => m - (intOf iv).toNat)
            case atStart => exact ⟨0, _, by omega, rfl, HO4.out, fun _ _ => rfl, HB4.out⟩
            case round =>
              obtain ⟨j, l', hj, rfl, hO, hI, hBz⟩ := hrel
              have HBz := Lib.hid hBz
              have HO := Lib.hid hO
              have HI := Lib.hid hI
              clear hBz hO hI
              by_cases hjl : j < m
              · have hjI : (j : Int) < (m : Int) := by omega
                have hw4 : IntKind.i64.wrap (A + (j : Int) + 1 + x0) = A + (j : Int) + 1 + x0 := IntWalk.i64_in _ (by omega)
                obtain ⟨y, hy⟩ : ∃ y, ((xs ++ [(⟨ys, yb, yd, yc, yn⟩ : It)]))[j]? = some y := ⟨_, List.getElem?_eq_getElem (by have := HLm.out; omega)⟩
                have hp5 := numb_get (A + x0) ((xs ++ [(⟨ys, yb, yd, yc, yn⟩ : It)])) j y hy
                have hq5 := (HI.out j (Nat.le_refl _)).trans (numb_get A ((xs ++ [(⟨ys, yb, yd, yc, yn⟩ : It)])) j y hy)
                rw [show A + x0 + (j : Int) + 1 = A + (j : Int) + 1 + x0 by omega] at hp5
                obtain ⟨us, ub, ud, uc, un⟩ := y
                obtain ⟨g6, f6, ha6, hg6, e0, e1, e2, e3, e4, fz, _⟩ := HO.out.item hq5
                obtain ⟨g5, f5, ha5, hg5, p0, p1, p2, p3, p4⟩ := (HP1.out.below HBz.out (Nat.le_refl _)).at hp5
                simp only [It.no] at e0 e1 e2 e3 e4 p0 p1 p2 p3 p4
                subst ha6 ha5
                have hg6v : v1.heap.size ≤ g6 := HF2.out _ rfl
                have HOs := Lib.hid (HO.out.seq hq5 (A + (j : Int) + 1 + x0))
                have HBs := Lib.hid (HBz.out.setCell (p := ⟨g6, f6 + j * 5, none⟩) hg6v (.int .i64 (A + (j : Int) + 1 + x0)))
                have HQ5 := Lib.hid hq5
                have HP5 := Lib.hid hp5
                have heq := it_guard
                have hhe := it_held
                clear hy hp5 hq5
                go_upto_region 27 with fail
                generalize wr.setCell ⟨g6, f6 + j * 5, none⟩ (.int .i64 (A + (j : Int) + 1 + x0)) = wt at *
                obtain ⟨g7, f7, ha7, hg7, r0, r1, r2, r3, r4, _, _⟩ := HOs.out.item (k := j) (x := ⟨A + (j : Int) + 1 + x0, ub, ud, uc, un⟩) (by rw [List.getElem?_set_self (List.getElem?_eq_some_iff.1 HQ5.out).1]; rfl)
                injection ha7 with ha7
                injection ha7 with ha8 ha9
                subst ha8 ha9
                obtain ⟨g7, f7, ha7, hg8, s0, s1, s2, s3, s4⟩ := (HP1.out.below HBs.out (Nat.le_refl _)).at HP5.out
                injection ha7 with ha7
                injection ha7 with ha8 ha9
                subst ha8 ha9
                simp only [It.no] at s0 s1 s2 s3 s4
                clear e0 e1 e2 e3 e4 p0 p1 p2 p3 p4 fz
                go_quiet (fail)
                go_wp2
                go_roundw
                case rel =>
                  refine ⟨j + 1, _, by omega, by go_num, HOs.out.drew _, fun i hi => ?_, HBs.out.drewB _⟩
                  rw [List.getElem?_set_ne (by omega)]
                  exact HI.out i (by omega)
                case measure => simp [intOf]; omega
              · have hjm : j = m := by omega
                subst hjm
                clear hjl
                go_wp2
                go_roundw
                case rel => exact ⟨k + 1, A, (xs ++ [(⟨ys, yb, yd, yc, yn⟩ : It)]), by omega, by omega, by go_num, by have := HAK.out; omega, by have := HAK.out; push_cast; omega, HT1.out.below HBz.out⟩
                case measure => simp [intOf]; omega
        · have h0' : (kd == 0) = false := by simpa using h0
          by_cases h1 : kd = 1
          · subst h1
            clear h0
            by_cases hg : 1099511627776 < yi
            · as_aux_lemma =>
                have HB1 := Lib.hid ((Below.refl wr.heap.size wr).alloc (Nat.le_refl _) (.cells #[.int .i64 1, .int .i64 yi, .int .i64 ys, .int .i64 yb, .string yd, .int .i64 yc, .int .i64 yn] 31))
                have HX3 := Lib.hid (X3.of HRx.out HB1.out (Nat.le_refl _) (heap_alloc_new wr (.cells #[.int .i64 1, .int .i64 yi, .int .i64 ys, .int .i64 yb, .string yd, .int .i64 yc, .int .i64 yn] 31)))
                have HCL : Hid (∀ W l1 m1 A1 B1, X3 w W p A1 l1 q B1 m1 wr.heap.size (.cells #[.int .i64 1, .int .i64 yi, .int .i64 ys, .int .i64 yb, .string yd, .int .i64 yc, .int .i64 yn] 31) → W.cell? ⟨wr.heap.size, 1, none⟩ = some (.int .i64 yi) ∧ W.cell? ⟨wr.heap.size, 2, none⟩ = some (.int .i64 ys) ∧ W.cell? ⟨wr.heap.size, 3, none⟩ = some (.int .i64 yb) ∧ W.cell? ⟨wr.heap.size, 4, none⟩ = some (.string yd) ∧ W.cell? ⟨wr.heap.size, 5, none⟩ = some (.int .i64 yc) ∧ W.cell? ⟨wr.heap.size, 6, none⟩ = some (.int .i64 yn)) := Lib.hid fun W l1 m1 A1 B1 h => by
                  have e := h.held
                  exact ⟨by simp [World.cell?, e], by simp [World.cell?, e], by simp [World.cell?, e], by simp [World.cell?, e], by simp [World.cell?, e], by simp [World.cell?, e]⟩

                go_wp2
                go_roundw
                case rel => exact ⟨k + 1, A, xs, by omega, by omega, by go_num, hA0, by push_cast; omega, HX3.out.x2⟩
                case measure => simp [intOf]; omega
            · have hg' : decide (1099511627776 < yi) = false := by simpa using hg
              by_cases hl : yi < -1099511627776
              · as_aux_lemma =>
                  have HB1 := Lib.hid ((Below.refl wr.heap.size wr).alloc (Nat.le_refl _) (.cells #[.int .i64 1, .int .i64 yi, .int .i64 ys, .int .i64 yb, .string yd, .int .i64 yc, .int .i64 yn] 31))
                  have HX3 := Lib.hid (X3.of HRx.out HB1.out (Nat.le_refl _) (heap_alloc_new wr (.cells #[.int .i64 1, .int .i64 yi, .int .i64 ys, .int .i64 yb, .string yd, .int .i64 yc, .int .i64 yn] 31)))
                  have HCL : Hid (∀ W l1 m1 A1 B1, X3 w W p A1 l1 q B1 m1 wr.heap.size (.cells #[.int .i64 1, .int .i64 yi, .int .i64 ys, .int .i64 yb, .string yd, .int .i64 yc, .int .i64 yn] 31) → W.cell? ⟨wr.heap.size, 1, none⟩ = some (.int .i64 yi) ∧ W.cell? ⟨wr.heap.size, 2, none⟩ = some (.int .i64 ys) ∧ W.cell? ⟨wr.heap.size, 3, none⟩ = some (.int .i64 yb) ∧ W.cell? ⟨wr.heap.size, 4, none⟩ = some (.string yd) ∧ W.cell? ⟨wr.heap.size, 5, none⟩ = some (.int .i64 yc) ∧ W.cell? ⟨wr.heap.size, 6, none⟩ = some (.int .i64 yn)) := Lib.hid fun W l1 m1 A1 B1 h => by
                    have e := h.held
                    exact ⟨by simp [World.cell?, e], by simp [World.cell?, e], by simp [World.cell?, e], by simp [World.cell?, e], by simp [World.cell?, e], by simp [World.cell?, e]⟩

                  go_wp2
                  go_roundw
                  case rel => exact ⟨k + 1, A, xs, by omega, by omega, by go_num, hA0, by push_cast; omega, HX3.out.x2⟩
                  case measure => simp [intOf]; omega
              · have hl' : decide (yi < -1099511627776) = false := by simpa using hl
                as_aux_lemma =>
                  have HB1 := Lib.hid ((Below.refl wr.heap.size wr).alloc (Nat.le_refl _) (.cells #[.int .i64 1, .int .i64 yi, .int .i64 ys, .int .i64 yb, .string yd, .int .i64 yc, .int .i64 yn] 31))
                  have HX3 := Lib.hid (X3.of HRx.out HB1.out (Nat.le_refl _) (heap_alloc_new wr (.cells #[.int .i64 1, .int .i64 yi, .int .i64 ys, .int .i64 yb, .string yd, .int .i64 yc, .int .i64 yn] 31)))
                  have HCL : Hid (∀ W l1 m1 A1 B1, X3 w W p A1 l1 q B1 m1 wr.heap.size (.cells #[.int .i64 1, .int .i64 yi, .int .i64 ys, .int .i64 yb, .string yd, .int .i64 yc, .int .i64 yn] 31) → W.cell? ⟨wr.heap.size, 1, none⟩ = some (.int .i64 yi) ∧ W.cell? ⟨wr.heap.size, 2, none⟩ = some (.int .i64 ys) ∧ W.cell? ⟨wr.heap.size, 3, none⟩ = some (.int .i64 yb) ∧ W.cell? ⟨wr.heap.size, 4, none⟩ = some (.string yd) ∧ W.cell? ⟨wr.heap.size, 5, none⟩ = some (.int .i64 yc) ∧ W.cell? ⟨wr.heap.size, 6, none⟩ = some (.int .i64 yn)) := Lib.hid fun W l1 m1 A1 B1 h => by
                    have e := h.held
                    exact ⟨by simp [World.cell?, e], by simp [World.cell?, e], by simp [World.cell?, e], by simp [World.cell?, e], by simp [World.cell?, e], by simp [World.cell?, e]⟩

                  obtain ⟨E, hE1⟩ : ∃ E, ackB A (numb A xs) yi = E := ⟨_, rfl⟩
                  have hEE : (E != E) = false := by simp
                  have hkk := ackK_le A xs.length yi
                  obtain ⟨A2, hA2⟩ : ∃ A2, A2 = (A + (ackK A xs.length yi : Int)) := ⟨_, rfl⟩
                  obtain ⟨X, hX⟩ : ∃ X, X = (xs.drop (ackK A xs.length yi)) := ⟨_, rfl⟩
                  have HAK : Hid (0 ≤ A2 ∧ A2 + ((X).length : Int) ≤ (k : Int) + 1) := Lib.hid (by rw [hA2, hX, List.length_drop]; omega)
                  have CK1 : Hid (∀ W, X3 w W p (A + x0) (numb (A + x0) xs) q A (numb A xs) wr.heap.size (.cells #[.int .i64 1, .int .i64 yi, .int .i64 ys, .int .i64 yb, .string yd, .int .i64 yc, .int .i64 yn] 31) → Calls Try.prog 14 #[.pointer (some ⟨p, 0, none⟩), .int .i64 (yi + x0)] W fun e W' => e = .returned (.bool E) ∧ X3 w W' p (A2 + x0) (numb (A2 + x0) X) q A (numb A xs) wr.heap.size (.cells #[.int .i64 1, .int .i64 yi, .int .i64 ys, .int .i64 yb, .string yd, .int .i64 yc, .int .i64 yn] 31)) := Lib.hid fun W h => by
                    have := h.ack1 (yi + x0)
                    obtain ⟨t1, t2, t3⟩ := ack_gen (A + x0) xs (yi + x0)
                    obtain ⟨s1, _, _⟩ := ack_gen A xs yi
                    rw [ackK_add] at t2 t3
                    rw [show A + x0 + (ackK A xs.length yi : Int) = A + (ackK A xs.length yi : Int) + x0 by omega] at t2 t3
                    have hE2 : ackB (A + x0) (numb (A + x0) xs) (yi + x0) = E := by rw [t1, ← hE1, s1]; exact decide_eq_decide.2 (by omega)
                    rw [hE2, t2, t3, ← hA2, ← hX] at this
                    exact this
                  have CK2 : Hid (∀ W, X3 w W p (A2 + x0) (numb (A2 + x0) X) q A (numb A xs) wr.heap.size (.cells #[.int .i64 1, .int .i64 yi, .int .i64 ys, .int .i64 yb, .string yd, .int .i64 yc, .int .i64 yn] 31) → Calls Try.prog 14 #[.pointer (some ⟨q, 0, none⟩), .int .i64 yi] W fun e W' => e = .returned (.bool E) ∧ X3 w W' p (A2 + x0) (numb (A2 + x0) X) q A2 (numb A2 X) wr.heap.size (.cells #[.int .i64 1, .int .i64 yi, .int .i64 ys, .int .i64 yb, .string yd, .int .i64 yc, .int .i64 yn] 31)) := Lib.hid fun W h => by
                    have := h.ack2 yi
                    obtain ⟨t1, t2, t3⟩ := ack_gen A xs yi
                    rw [hE1, t2, t3, ← hA2, ← hX] at this
                    exact this
                  have hwq : IntKind.i64.wrap (yi + x0) = yi + x0 := IntWalk.i64_in _ (by omega)
                  clear hE1 hA2 hX hkk

                  go_upto_region 18 with fail
                  have hD := HX3.out.below ((Below.refl _ _).drewB 1)
                  have HD0 : Hid (X3 w (wr.alloc (.cells #[.int .i64 1, .int .i64 yi, .int .i64 ys, .int .i64 yb, .string yd, .int .i64 yc, .int .i64 yn] 31)).drew p (A + x0) (numb (A + x0) xs) q A (numb A xs) wr.heap.size (.cells #[.int .i64 1, .int .i64 yi, .int .i64 ys, .int .i64 yb, .string yd, .int .i64 yc, .int .i64 yn] 31)) := Lib.hid hD
                  have K0c := (HCL.out _ _ _ _ _ HX3.out).1
                  clear hD
                  go_region_held3 (fun w' => w'.cell? ⟨wr.heap.size, 1, none⟩ = some (.int .i64 yi))
                    (first
                      | exact (HCL.out _ _ _ _ _ HD2.out).1
                      | exact (HCL.out _ _ _ _ _ HD1.out).1
                      | exact (HCL.out _ _ _ _ _ HD0.out).1
                      | (go_keep; done))
                    (first
                      | (go_at_call 14; with_reducible refine (CK1.out _ HD0.out).mono ?_; rintro e u1 ⟨rfl, h⟩
                         have HD1 := Lib.hid h
                         clear h)
                      | (go_at_call 14; with_reducible refine (CK2.out _ HD1.out).mono ?_; rintro e u2 ⟨rfl, h⟩
                         have HD2 := Lib.hid h
                         clear h))
                  have HT := Lib.hid HD2.out.x2

                  obtain ⟨m, hm⟩ : ∃ m : Nat, m = (X).length := ⟨_, rfl⟩
                  have hbd : 0 ≤ A2 ∧ A2 + (m : Int) ≤ (k : Int) + 1 := by have := HAK.out; rw [hm]; exact this
                  have HLm : Hid ((X).length = m) := Lib.hid hm.symm
                  have HL1 : Hid (∀ W, X2 w W p (A2 + x0) (numb (A2 + x0) X) q A2 (numb A2 X) → Calls Try.prog 16 #[.pointer (some ⟨p, 0, none⟩)] W fun e W' => ∃ a' c', e = .returned (.slice a' m c') ∧ m ≤ c' ∧ c' ≤ maxLen ∧ X2 w W' p (A2 + x0) (numb (A2 + x0) X) q A2 (numb A2 X) ∧ Rd W' a' m (numb (A2 + x0) (X))) := Lib.hid fun W h => by
                    have hl : (numb (A2 + x0) (X)).length = m := by rw [numb_length]; exact HLm.out
                    refine (h.x1.left (by rw [hl]; omega)).mono ?_
                    rintro e w'' ⟨a', c', rfl, h1, h2, _, h3⟩
                    have hc := h2.cap
                    have hr := h2.rd
                    rw [hl] at hc hr ⊢
                    exact ⟨a', c', rfl, hc.1, hc.2, h.below h3, hr⟩
                  have HL2 : Hid (∀ W, X2 w W p (A2 + x0) (numb (A2 + x0) X) q A2 (numb A2 X) → Calls Try.prog 16 #[.pointer (some ⟨q, 0, none⟩)] W fun e W' => ∃ a' c', e = .returned (.slice a' m c') ∧ m ≤ c' ∧ c' ≤ maxLen ∧ X2 w W' p (A2 + x0) (numb (A2 + x0) X) q A2 (numb A2 X) ∧ OwnI W' a' c' (numb A2 (X)) ∧ Fresh W.heap.size a' ∧ Below W.heap.size W W') := Lib.hid fun W h => by
                    have hl : (numb A2 (X)).length = m := by rw [numb_length]; exact HLm.out
                    refine (h.x2.left (by rw [hl]; omega)).mono ?_
                    rintro e w'' ⟨a', c', rfl, h1, h2, h4, h3⟩
                    have hc := h2.cap
                    rw [hl] at hc ⊢
                    exact ⟨a', c', rfl, hc.1, hc.2, h.below h3, h2, h4, h3⟩
                  have HLa1 : Hid (∀ W, X2 w W p (A2 + x0) (numb (A2 + x0) X) q A2 (numb A2 X) → Calls Try.prog 19 #[.pointer (some ⟨p, 0, none⟩)] W fun e W' => e = .returned (.int .i64 (A2 + (m : Int) + x0)) ∧ ∃ n, W' = W.drewN n) := Lib.hid fun W h => by
                    have := h.x1.last
                    rw [numb_length, HLm.out, show A2 + x0 + (m : Int) = A2 + (m : Int) + x0 by omega] at this
                    exact this
                  have HLa2 : Hid (∀ W, X2 w W p (A2 + x0) (numb (A2 + x0) X) q A2 (numb A2 X) → Calls Try.prog 19 #[.pointer (some ⟨q, 0, none⟩)] W fun e W' => e = .returned (.int .i64 (A2 + (m : Int))) ∧ ∃ n, W' = W.drewN n) := Lib.hid fun W h => by
                    have := h.x2.last
                    rw [numb_length, HLm.out] at this
                    exact this
                  have HAc1 : Hid (∀ W, X2 w W p (A2 + x0) (numb (A2 + x0) X) q A2 (numb A2 X) → Calls Try.prog 21 #[.pointer (some ⟨p, 0, none⟩)] W fun e W' => e = .returned (.int .i64 (A2 + x0)) ∧ W = W') := Lib.hid fun W h => h.x1.acked
                  have HAc2 : Hid (∀ W, X2 w W p (A2 + x0) (numb (A2 + x0) X) q A2 (numb A2 X) → Calls Try.prog 21 #[.pointer (some ⟨q, 0, none⟩)] W fun e W' => e = .returned (.int .i64 (A2)) ∧ W = W') := Lib.hid fun W h => h.x2.acked
                  have hwl : IntKind.i64.wrap (A2 + (m : Int) + x0) = A2 + (m : Int) + x0 := IntWalk.i64_in _ (by omega)
                  have hwa : IntKind.i64.wrap (A2 + x0) = A2 + x0 := IntWalk.i64_in _ (by omega)
                  have hmI : (m : Int) ≤ 101 := by omega
                  clear hm

                  go_wp2_with (first

                    | (
                       go_at_call 16; with_reducible refine (HL1.out _ HT.out).mono ?_; rintro e v1 ⟨a5, c5', rfl, h51, h52, hb, hr⟩
                       have HT1 := Lib.hid hb
                       have HP1 := Lib.hid hr
                       have HC1 := Lib.hid (And.intro h51 h52)
                       clear hb hr h51 h52)
                    | (
                       go_at_call 16; with_reducible refine (HL2.out _ HT1.out).mono ?_; rintro e v2 ⟨a6, c6', rfl, h61, h62, hb, ho, hf, hbl⟩
                       have HT2 := Lib.hid hb
                       have HO2 := Lib.hid ho
                       have HF2 := Lib.hid hf
                       have HB2 := Lib.hid hbl
                       have HC2 := Lib.hid (And.intro h61 h62)
                       clear hb ho hf hbl h61 h62)
                    | (
                       go_at_call 19; with_reducible refine (HLa1.out _ HT2.out).mono ?_; rintro e v3 ⟨rfl, d1, hv⟩
                       have HT3 := Lib.hid (HT2.out.below (w' := v3) (by rw [hv]; exact (Below.refl _ _).drewB d1))
                       have HO3 := Lib.hid (show OwnI v3 a6 c6' _ by rw [hv]; exact HO2.out)
                       have HB3 : Hid (Below v1.heap.size v1 v3) := Lib.hid (by rw [hv]; exact HB2.out.drewB d1)
                       clear hv)
                    | (
                       go_at_call 19; with_reducible refine (HLa2.out _ HT3.out).mono ?_; rintro e v4 ⟨rfl, d2, hv⟩
                       have HT4 := Lib.hid (HT3.out.below (w' := v4) (by rw [hv]; exact (Below.refl _ _).drewB d2))
                       have HO4 := Lib.hid (show OwnI v4 a6 c6' _ by rw [hv]; exact HO3.out)
                       have HB4 : Hid (Below v1.heap.size v1 v4) := Lib.hid (by rw [hv]; exact HB3.out.drewB d2)
                       clear hv)
                    | (
                       go_at_call 21; with_reducible refine (HAc1.out _ HT4.out).mono ?_; rintro e v5 ⟨rfl, rfl⟩)
                    | (
                       go_at_call 21; with_reducible refine (HAc2.out _ HT4.out).mono ?_; rintro e v6 ⟨rfl, rfl⟩))
                  go_loopw [122] (fun iv wz => ∃ (j : Nat) (l' : List It), j ≤ m ∧ iv = .int .i64 (j : Int) ∧ OwnI wz a6 c6' l' ∧ (∀ i, j ≤ i → l'[i]? = (numb A2 (X))[i]?) ∧ Below v1.heap.size v1 wz) (fun iv _ => m - (intOf iv).toNat)
                  case atStart => exact ⟨0, _, by omega, rfl, HO4.out, fun _ _ => rfl, HB4.out⟩
                  case round =>
                    obtain ⟨j, l', hj, rfl, hO, hI, hBz⟩ := hrel
                    have HBz := Lib.hid hBz
                    have HO := Lib.hid hO
                    have HI := Lib.hid hI
                    clear hBz hO hI
                    by_cases hjl : j < m
                    · have hjI : (j : Int) < (m : Int) := by omega
                      have hw4 : IntKind.i64.wrap (A2 + (j : Int) + 1 + x0) = A2 + (j : Int) + 1 + x0 := IntWalk.i64_in _ (by omega)
                      obtain ⟨y, hy⟩ : ∃ y, (X)[j]? = some y := ⟨_, List.getElem?_eq_getElem (by have := HLm.out; omega)⟩
                      have hp5 := numb_get (A2 + x0) (X) j y hy
                      have hq5 := (HI.out j (Nat.le_refl _)).trans (numb_get A2 (X) j y hy)
                      rw [show A2 + x0 + (j : Int) + 1 = A2 + (j : Int) + 1 + x0 by omega] at hp5
                      obtain ⟨us, ub, ud, uc, un⟩ := y
                      obtain ⟨g6, f6, ha6, hg6, e0, e1, e2, e3, e4, fz, _⟩ := HO.out.item hq5
                      obtain ⟨g5, f5, ha5, hg5, p0, p1, p2, p3, p4⟩ := (HP1.out.below HBz.out (Nat.le_refl _)).at hp5
                      simp only [It.no] at e0 e1 e2 e3 e4 p0 p1 p2 p3 p4
                      subst ha6 ha5
                      have hg6v : v1.heap.size ≤ g6 := HF2.out _ rfl
                      have HOs := Lib.hid (HO.out.seq hq5 (A2 + (j : Int) + 1 + x0))
                      have HBs := Lib.hid (HBz.out.setCell (p := ⟨g6, f6 + j * 5, none⟩) hg6v (.int .i64 (A2 + (j : Int) + 1 + x0)))
                      have HQ5 := Lib.hid hq5
                      have HP5 := Lib.hid hp5
                      have heq := it_guard
                      have hhe := it_held
                      clear hy hp5 hq5
                      go_upto_region 27 with fail
                      generalize wr.setCell ⟨g6, f6 + j * 5, none⟩ (.int .i64 (A2 + (j : Int) + 1 + x0)) = wt at *
                      obtain ⟨g7, f7, ha7, hg7, r0, r1, r2, r3, r4, _, _⟩ := HOs.out.item (k := j) (x := ⟨A2 + (j : Int) + 1 + x0, ub, ud, uc, un⟩) (by rw [List.getElem?_set_self (List.getElem?_eq_some_iff.1 HQ5.out).1]; rfl)
                      injection ha7 with ha7
                      injection ha7 with ha8 ha9
                      subst ha8 ha9
                      obtain ⟨g7, f7, ha7, hg8, s0, s1, s2, s3, s4⟩ := (HP1.out.below HBs.out (Nat.le_refl _)).at HP5.out
                      injection ha7 with ha7
                      injection ha7 with ha8 ha9
                      subst ha8 ha9
                      simp only [It.no] at s0 s1 s2 s3 s4
                      clear e0 e1 e2 e3 e4 p0 p1 p2 p3 p4 fz
                      go_quiet (fail)
                      go_wp2
                      go_roundw
                      case rel =>
                        refine ⟨j + 1, _, by omega, by go_num, HOs.out.drew _, fun i hi => ?_, HBs.out.drewB _⟩
                        rw [List.getElem?_set_ne (by omega)]
                        exact HI.out i (by omega)
                      case measure => simp [intOf]; omega
                    · have hjm : j = m := by omega
                      subst hjm
                      clear hjl
                      go_wp2
                      go_roundw
                      case rel => exact ⟨k + 1, A2, X, by omega, by omega, by go_num, by have := HAK.out; omega, by have := HAK.out; push_cast; omega, HT1.out.below HBz.out⟩
                      case measure => simp [intOf]; omega
          · have h1' : (kd == 1) = false := by simpa using h1
            as_aux_lemma =>
              have HB1 := Lib.hid ((Below.refl wr.heap.size wr).alloc (Nat.le_refl _) (.cells #[.int .i64 kd, .int .i64 yi, .int .i64 ys, .int .i64 yb, .string yd, .int .i64 yc, .int .i64 yn] 31))
              have HX3 := Lib.hid (X3.of HRx.out HB1.out (Nat.le_refl _) (heap_alloc_new wr (.cells #[.int .i64 kd, .int .i64 yi, .int .i64 ys, .int .i64 yb, .string yd, .int .i64 yc, .int .i64 yn] 31)))
              have HCL : Hid (∀ W l1 m1 A1 B1, X3 w W p A1 l1 q B1 m1 wr.heap.size (.cells #[.int .i64 kd, .int .i64 yi, .int .i64 ys, .int .i64 yb, .string yd, .int .i64 yc, .int .i64 yn] 31) → W.cell? ⟨wr.heap.size, 1, none⟩ = some (.int .i64 yi) ∧ W.cell? ⟨wr.heap.size, 2, none⟩ = some (.int .i64 ys) ∧ W.cell? ⟨wr.heap.size, 3, none⟩ = some (.int .i64 yb) ∧ W.cell? ⟨wr.heap.size, 4, none⟩ = some (.string yd) ∧ W.cell? ⟨wr.heap.size, 5, none⟩ = some (.int .i64 yc) ∧ W.cell? ⟨wr.heap.size, 6, none⟩ = some (.int .i64 yn)) := Lib.hid fun W l1 m1 A1 B1 h => by
                have e := h.held
                exact ⟨by simp [World.cell?, e], by simp [World.cell?, e], by simp [World.cell?, e], by simp [World.cell?, e], by simp [World.cell?, e], by simp [World.cell?, e]⟩
              have HAK : Hid (0 ≤ A ∧ A + ((xs).length : Int) ≤ (k : Int) + 1) := Lib.hid ⟨hA0, by omega⟩
              have HT := Lib.hid HX3.out.x2

              obtain ⟨m, hm⟩ : ∃ m : Nat, m = (xs).length := ⟨_, rfl⟩
              have hbd : 0 ≤ A ∧ A + (m : Int) ≤ (k : Int) + 1 := by have := HAK.out; rw [hm]; exact this
              have HLm : Hid ((xs).length = m) := Lib.hid hm.symm
              have HL1 : Hid (∀ W, X2 w W p (A + x0) (numb (A + x0) xs) q A (numb A xs) → Calls Try.prog 16 #[.pointer (some ⟨p, 0, none⟩)] W fun e W' => ∃ a' c', e = .returned (.slice a' m c') ∧ m ≤ c' ∧ c' ≤ maxLen ∧ X2 w W' p (A + x0) (numb (A + x0) xs) q A (numb A xs) ∧ Rd W' a' m (numb (A + x0) (xs))) := Lib.hid fun W h => by
                have hl : (numb (A + x0) (xs)).length = m := by rw [numb_length]; exact HLm.out
                refine (h.x1.left (by rw [hl]; omega)).mono ?_
                rintro e w'' ⟨a', c', rfl, h1, h2, _, h3⟩
                have hc := h2.cap
                have hr := h2.rd
                rw [hl] at hc hr ⊢
                exact ⟨a', c', rfl, hc.1, hc.2, h.below h3, hr⟩
              have HL2 : Hid (∀ W, X2 w W p (A + x0) (numb (A + x0) xs) q A (numb A xs) → Calls Try.prog 16 #[.pointer (some ⟨q, 0, none⟩)] W fun e W' => ∃ a' c', e = .returned (.slice a' m c') ∧ m ≤ c' ∧ c' ≤ maxLen ∧ X2 w W' p (A + x0) (numb (A + x0) xs) q A (numb A xs) ∧ OwnI W' a' c' (numb A (xs)) ∧ Fresh W.heap.size a' ∧ Below W.heap.size W W') := Lib.hid fun W h => by
                have hl : (numb A (xs)).length = m := by rw [numb_length]; exact HLm.out
                refine (h.x2.left (by rw [hl]; omega)).mono ?_
                rintro e w'' ⟨a', c', rfl, h1, h2, h4, h3⟩
                have hc := h2.cap
                rw [hl] at hc ⊢
                exact ⟨a', c', rfl, hc.1, hc.2, h.below h3, h2, h4, h3⟩
              have HLa1 : Hid (∀ W, X2 w W p (A + x0) (numb (A + x0) xs) q A (numb A xs) → Calls Try.prog 19 #[.pointer (some ⟨p, 0, none⟩)] W fun e W' => e = .returned (.int .i64 (A + (m : Int) + x0)) ∧ ∃ n, W' = W.drewN n) := Lib.hid fun W h => by
                have := h.x1.last
                rw [numb_length, HLm.out, show A + x0 + (m : Int) = A + (m : Int) + x0 by omega] at this
                exact this
              have HLa2 : Hid (∀ W, X2 w W p (A + x0) (numb (A + x0) xs) q A (numb A xs) → Calls Try.prog 19 #[.pointer (some ⟨q, 0, none⟩)] W fun e W' => e = .returned (.int .i64 (A + (m : Int))) ∧ ∃ n, W' = W.drewN n) := Lib.hid fun W h => by
                have := h.x2.last
                rw [numb_length, HLm.out] at this
                exact this
              have HAc1 : Hid (∀ W, X2 w W p (A + x0) (numb (A + x0) xs) q A (numb A xs) → Calls Try.prog 21 #[.pointer (some ⟨p, 0, none⟩)] W fun e W' => e = .returned (.int .i64 (A + x0)) ∧ W = W') := Lib.hid fun W h => h.x1.acked
              have HAc2 : Hid (∀ W, X2 w W p (A + x0) (numb (A + x0) xs) q A (numb A xs) → Calls Try.prog 21 #[.pointer (some ⟨q, 0, none⟩)] W fun e W' => e = .returned (.int .i64 (A)) ∧ W = W') := Lib.hid fun W h => h.x2.acked
              have hwl : IntKind.i64.wrap (A + (m : Int) + x0) = A + (m : Int) + x0 := IntWalk.i64_in _ (by omega)
              have hwa : IntKind.i64.wrap (A + x0) = A + x0 := IntWalk.i64_in _ (by omega)
              have hmI : (m : Int) ≤ 101 := by omega
              clear hm

              go_wp2_with (first

                | (
                   go_at_call 16; with_reducible refine (HL1.out _ HT.out).mono ?_; rintro e v1 ⟨a5, c5', rfl, h51, h52, hb, hr⟩
                   have HT1 := Lib.hid hb
                   have HP1 := Lib.hid hr
                   have HC1 := Lib.hid (And.intro h51 h52)
                   clear hb hr h51 h52)
                | (
                   go_at_call 16; with_reducible refine (HL2.out _ HT1.out).mono ?_; rintro e v2 ⟨a6, c6', rfl, h61, h62, hb, ho, hf, hbl⟩
                   have HT2 := Lib.hid hb
                   have HO2 := Lib.hid ho
                   have HF2 := Lib.hid hf
                   have HB2 := Lib.hid hbl
                   have HC2 := Lib.hid (And.intro h61 h62)
                   clear hb ho hf hbl h61 h62)
                | (
                   go_at_call 19; with_reducible refine (HLa1.out _ HT2.out).mono ?_; rintro e v3 ⟨rfl, d1, hv⟩
                   have HT3 := Lib.hid (HT2.out.below (w' := v3) (by rw [hv]; exact (Below.refl _ _).drewB d1))
                   have HO3 := Lib.hid (show OwnI v3 a6 c6' _ by rw [hv]; exact HO2.out)
                   have HB3 : Hid (Below v1.heap.size v1 v3) := Lib.hid (by rw [hv]; exact HB2.out.drewB d1)
                   clear hv)
                | (
                   go_at_call 19; with_reducible refine (HLa2.out _ HT3.out).mono ?_; rintro e v4 ⟨rfl, d2, hv⟩
                   have HT4 := Lib.hid (HT3.out.below (w' := v4) (by rw [hv]; exact (Below.refl _ _).drewB d2))
                   have HO4 := Lib.hid (show OwnI v4 a6 c6' _ by rw [hv]; exact HO3.out)
                   have HB4 : Hid (Below v1.heap.size v1 v4) := Lib.hid (by rw [hv]; exact HB3.out.drewB d2)
                   clear hv)
                | (
                   go_at_call 21; with_reducible refine (HAc1.out _ HT4.out).mono ?_; rintro e v5 ⟨rfl, rfl⟩)
                | (
                   go_at_call 21; with_reducible refine (HAc2.out _ HT4.out).mono ?_; rintro e v6 ⟨rfl, rfl⟩))
              go_loopw [122] (fun iv wz => ∃ (j : Nat) (l' : List It), j ≤ m ∧ iv = .int .i64 (j : Int) ∧ OwnI wz a6 c6' l' ∧ (∀ i, j ≤ i → l'[i]? = (numb A (xs))[i]?) ∧ Below v1.heap.size v1 wz) (fun iv _ => m - (intOf iv).toNat)
              case atStart => exact ⟨0, _, by omega, rfl, HO4.out, fun _ _ => rfl, HB4.out⟩
              case round =>
                obtain ⟨j, l', hj, rfl, hO, hI, hBz⟩ := hrel
                have HBz := Lib.hid hBz
                have HO := Lib.hid hO
                have HI := Lib.hid hI
                clear hBz hO hI
                by_cases hjl : j < m
                · have hjI : (j : Int) < (m : Int) := by omega
                  have hw4 : IntKind.i64.wrap (A + (j : Int) + 1 + x0) = A + (j : Int) + 1 + x0 := IntWalk.i64_in _ (by omega)
                  obtain ⟨y, hy⟩ : ∃ y, (xs)[j]? = some y := ⟨_, List.getElem?_eq_getElem (by have := HLm.out; omega)⟩
                  have hp5 := numb_get (A + x0) (xs) j y hy
                  have hq5 := (HI.out j (Nat.le_refl _)).trans (numb_get A (xs) j y hy)
                  rw [show A + x0 + (j : Int) + 1 = A + (j : Int) + 1 + x0 by omega] at hp5
                  obtain ⟨us, ub, ud, uc, un⟩ := y
                  obtain ⟨g6, f6, ha6, hg6, e0, e1, e2, e3, e4, fz, _⟩ := HO.out.item hq5
                  obtain ⟨g5, f5, ha5, hg5, p0, p1, p2, p3, p4⟩ := (HP1.out.below HBz.out (Nat.le_refl _)).at hp5
                  simp only [It.no] at e0 e1 e2 e3 e4 p0 p1 p2 p3 p4
                  subst ha6 ha5
                  have hg6v : v1.heap.size ≤ g6 := HF2.out _ rfl
                  have HOs := Lib.hid (HO.out.seq hq5 (A + (j : Int) + 1 + x0))
                  have HBs := Lib.hid (HBz.out.setCell (p := ⟨g6, f6 + j * 5, none⟩) hg6v (.int .i64 (A + (j : Int) + 1 + x0)))
                  have HQ5 := Lib.hid hq5
                  have HP5 := Lib.hid hp5
                  have heq := it_guard
                  have hhe := it_held
                  clear hy hp5 hq5
                  go_upto_region 27 with fail
                  generalize wr.setCell ⟨g6, f6 + j * 5, none⟩ (.int .i64 (A + (j : Int) + 1 + x0)) = wt at *
                  obtain ⟨g7, f7, ha7, hg7, r0, r1, r2, r3, r4, _, _⟩ := HOs.out.item (k := j) (x := ⟨A + (j : Int) + 1 + x0, ub, ud, uc, un⟩) (by rw [List.getElem?_set_self (List.getElem?_eq_some_iff.1 HQ5.out).1]; rfl)
                  injection ha7 with ha7
                  injection ha7 with ha8 ha9
                  subst ha8 ha9
                  obtain ⟨g7, f7, ha7, hg8, s0, s1, s2, s3, s4⟩ := (HP1.out.below HBs.out (Nat.le_refl _)).at HP5.out
                  injection ha7 with ha7
                  injection ha7 with ha8 ha9
                  subst ha8 ha9
                  simp only [It.no] at s0 s1 s2 s3 s4
                  clear e0 e1 e2 e3 e4 p0 p1 p2 p3 p4 fz
                  go_quiet (fail)
                  go_wp2
                  go_roundw
                  case rel =>
                    refine ⟨j + 1, _, by omega, by go_num, HOs.out.drew _, fun i hi => ?_, HBs.out.drewB _⟩
                    rw [List.getElem?_set_ne (by omega)]
                    exact HI.out i (by omega)
                  case measure => simp [intOf]; omega
                · have hjm : j = m := by omega
                  subst hjm
                  clear hjl
                  go_wp2
                  go_roundw
                  case rel => exact ⟨k + 1, A, xs, by omega, by omega, by go_num, by have := HAK.out; omega, by have := HAK.out; push_cast; omega, HT1.out.below HBz.out⟩
                  case measure => simp [intOf]; omega
      · have hnot : (¬ k < n1) ∨ (k < n1 ∧ ¬ k < 100) := by omega
        clear hlt
        rcases hnot with h9 | ⟨h8, h9⟩
        · have g1 : decide ((k : Int) < (n1 : Int)) = false := by simpa using h9
          go_wp2
          go_ret
          exact ⟨rfl, HRx.out.be⟩
        · have g1 : (k : Int) < (n1 : Int) := by omega
          have g2 : decide ((k : Int) < 100) = false := by simp; omega
          go_wp2
          go_ret
          exact ⟨rfl, HRx.out.be⟩

set_option maxRecDepth 100000 in
theorem lifted (os : Os) (started : os.Started) (H : Type) (enc : TypeId × Value → H) :
    ReturnsInHanded {} Try.checked os 8 .any (Rows.mirrorBaseSpec.pre6 enc Try.prog Try.f8 Rows.mirrorBaseRow.domain false) (Rows.mirrorBaseSpec.post enc Try.prog Try.f8 false true false false) := by
  refine returnsInHanded_of_change (C := Try.checked) own started (by kernel_rfl) Try.func8
    (ChangeSpec.witness6 (enc := enc) (C := Try.checked) false ⟨#[], #[.int .i64 0, .slice none 0 0], []⟩ 8 (by kernel_rfl) (by kernel_rfl) (by kernel_rfl) (by kernel_rfl)) ?_
  intro W base args ds gs before hval0 hW hcnd _
  have hval : ∀ (j : Nat) t v, Try.f8.params[j]? = some t → args[j]? = some v → Value.okWide Try.prog W .any base t v := hval0
  have hW' := hW
  obtain ⟨p, q, hA0, hV, rfl, hfz, hnd⟩ := hW
  have hA : DataW.TrodAll enc Try.prog W 0 (fun _ => true) true Try.f8.params.toList args.toList ds p := hA0
  rw [Try.params8] at hA hval
  obtain ⟨v0, vs0, d0, ds0, p0, q0, hargs, rfl, rfl, h0, r0'⟩ := trodAll_cons hA
  obtain ⟨v1, vs1, d1, ds1, p1, q1, rfl, rfl, rfl, h1, r1'⟩ := trodAll_cons r0'
  obtain ⟨rfl, rfl, rfl⟩ := trodAll_nil r1'
  obtain rfl : args = #[v0, v1] := by cases args; simp_all
  obtain ⟨rfl, rfl⟩ := trodVars_none hV
  obtain ⟨x0, rfl, rfl, rfl, w0⟩ := open_int Try.underlying2 (hval 0 2 v0 rfl rfl) h0
  have k1 := h1
  have lt1 : ∀ x ∈ p1, x.block < W.heap.size := by obtain ⟨m, hm⟩ := k1; exact DataW.trod_lt m _ _ _ hm
  obtain ⟨a1, n1, c1, l1, rfl, w1⟩ := Mr.open_acts h1 (okWide_slice Try.underlying22 (hval 1 22 v1 rfl rfl))
  clear hA0 hval0
  refine (walk x0 a1 n1 c1 l1 W w0 w1).mono fun e W' ⟨he, bel⟩ => ?_
  subst he
  exact ⟨_, rfl, _, _, _, [], _, [], hW', trodAll_mk1 (shut_bool Try.underlying4 _), (trodAll_cons_mk (shut_int Try.underlying2 w0) (trodAll_cons_mk (Below.trod laidOut (by kernel_rfl) (of_decide_eq_true (by kernel_rfl)) k1 bel lt1) trodAll_mk0)), rfl, bel.frame _, fun h => by cases h⟩

theorem over : Rows.mirrorBaseRow.holds Try.pinned (OpenSpec.ofChange Rows.mirrorBaseSpec) :=
  OpenClaim.holds_of_wide 8 Try.f8 rfl rfl rfl rfl rfl rfl rfl ⟨rfl, rfl, rfl, rfl, rfl⟩ rfl rfl rfl rfl rfl (by kernel_rfl) Try.func8 (by kernel_rfl)
    (of_decide_eq_true (by kernel_rfl)) (by unfold Func.isWrapper; first | (rw [if_pos (by decide +kernel)]; kernel_rfl) | (rw [if_neg (by decide +kernel)]; exact ⟨rfl, rfl⟩))
    (fun os started H enc _ => lifted os started H enc)

/-- the statement -/
theorem proved : Rows.MirrorBaseSaid := over
#print axioms proved
end Go.Proofs.Ytcnmkojlledipaa.mirrorBase
