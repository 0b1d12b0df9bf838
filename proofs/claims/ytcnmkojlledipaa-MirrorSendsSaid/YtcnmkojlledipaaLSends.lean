/-
  PROVED: whatever is added and acked, all that a sender tells is as the document says, act by act. CONDITIONS: none (any base; any acts, of which up to 100 are done).
-/
import Derived.Test.YtcnmkojlledipaaMrBoth
import Derived.BigQuiet
import Derived.Deep.RegionHeld3
import Derived.Deep.DeepCutAuto
import Derived.Deep.CutBlock
namespace Go.Proofs.Ytcnmkojlledipaa.mirrorSends
open Go.ChangeShapes Go.WideShapes Go.ChangeAt Go.RowKit Go.Joins
open Go.ChangeMaps (open_string shut_string)
set_option linter.unusedVariables false
set_option linter.unusedSimpArgs false
set_option maxRecDepth 20000

open Mr

set_option maxHeartbeats 4000000 in
theorem walk (x0 : Int) (a1 : Option Addr) (n1 c1 : Nat) (l1 : List Mr.Ac) (w : World) (w0 : (Lit.int .i64 x0).wf = true) (w1 : Mr.Acts w a1 n1 c1 l1) :
    Calls Try.prog 3 #[.int .i64 x0, .slice a1 n1 c1] w fun e w' => e = .returned (.bool true) ∧ Below w.heap.size w w' := by
  have HA := Lib.hid (fun w' => awake_any w')
  have HR1 := Lib.hid w1
  have hc1 : n1 ≤ 9223372036854775807 := by have := w1.2.1; have := w1.2.2.1; simp only [maxLen] at *; omega
  obtain ⟨B, hB⟩ : ∃ B, B = base x0 := ⟨_, rfl⟩
  obtain ⟨hB0, hB1⟩ := base_in x0
  rw [← hB] at hB0 hB1
  have HN : Hid (∀ w', Below w.heap.size w w' → Calls Try.prog 10 #[.int .i64 x0] w' fun e w'' => ∃ p, e = .returned (.pointer (some ⟨p, 0, none⟩)) ∧ Rx w w'' p B []) := Lib.hid fun w' hb => by
    refine (new_run w w' x0 hb).mono ?_
    rintro e w'' ⟨rfl, h1, _⟩
    rw [← hB] at h1
    exact ⟨_, rfl, none, h1⟩
  have HN2 : Hid (∀ w' p, Rx w w' p B [] → Calls Try.prog 11 #[.int .i64 x0] w' fun e w'' => ∃ q, e = .returned (.pointer (some ⟨q, 0, none⟩)) ∧ Z w w'' p B [] q B B [] []) := Lib.hid fun w' p h => by
    have := new_both h x0
    rwa [← hB] at this
  clear w0 w1 hB
  go_enter Try.func3, Try.ntmps3
  go_wp2_with (first
      | (go_at_call 9; with_reducible refine (HA.out _).mono ?_; rintro e wa ⟨rfl, hb⟩
         have HB := Lib.hid hb
         clear hb)
      | (go_at_call 10; with_reducible refine (HN.out _ HB.out).mono ?_; rintro e wb ⟨p, rfl, hb⟩
         have HX0 := Lib.hid hb
         clear hb)
      | (go_at_call 11; with_reducible refine (HN2.out _ _ HX0.out).mono ?_; rintro e wc ⟨q, rfl, hb⟩
         have HX1 := Lib.hid hb
         clear hb))
  go_loopw [7] (fun iv wr => ∃ (i k : Nat) (xs : List It), i ≤ n1 ∧ i ≤ 100 ∧ iv = .int .i64 (i : Int) ∧ k ≤ xs.length ∧ xs.length ≤ i ∧ Z w wr p (B + (k : Int)) (numb (B + (k : Int)) ((xs).drop k)) q B (B + (k : Int)) (xs) []) (fun iv _ => 100 - (intOf iv).toNat)
  case atStart => exact ⟨0, 0, [], by omega, by omega, rfl, by simp, by simp, by have := HX1.out; simpa [numb] using this⟩
  case round =>
    clear HX0 HX1 HB HA HN HN2
    obtain ⟨i, k, xs, hi1, hi2, rfl, hk, hx, hRx⟩ := hrel
    have HRx := Lib.hid hRx
    clear hRx
    by_cases hlt : i < n1 ∧ i < 100
    · obtain ⟨hi3, hi4⟩ := hlt
      have hi5 : (i : Int) < (n1 : Int) := by omega
      have hi6 : (i : Int) < 100 := by omega
      have hn62 := HRx.out.nums.2
      obtain ⟨y, hy⟩ : ∃ y, l1[i]? = some y := ⟨_, List.getElem?_eq_getElem (by have := HR1.out.1; omega)⟩
      obtain ⟨b1, o1, rfl, hb1, hcs⟩ := HR1.out.at hy
      obtain ⟨kd, yi, ys, yb, yd, yc, yn⟩ := y
      have hc : ∀ j v, [Value.int .i64 kd, .int .i64 yi, .int .i64 ys, .int .i64 yb, .string yd, .int .i64 yc, .int .i64 yn][j]? = some v → wr.cell? ⟨b1, o1 + (i * 7 + j), none⟩ = some v := fun j v hv => by
        rw [HRx.out.be.cell (p := ⟨b1, o1 + (i * 7 + j), none⟩) hb1]; exact hcs j v hv
      have c0 : wr.cell? ⟨b1, o1 + i * 7, none⟩ = some (.int .i64 kd) := hc 0 _ rfl
      have c1' : wr.cell? ⟨b1, o1 + i * 7 + 1, none⟩ = some (.int .i64 yi) := by rw [Nat.add_assoc]; exact hc 1 _ rfl
      have c2 : wr.cell? ⟨b1, o1 + i * 7 + 2, none⟩ = some (.int .i64 ys) := by rw [Nat.add_assoc]; exact hc 2 _ rfl
      have c3 : wr.cell? ⟨b1, o1 + i * 7 + 3, none⟩ = some (.int .i64 yb) := by rw [Nat.add_assoc]; exact hc 3 _ rfl
      have c4 : wr.cell? ⟨b1, o1 + i * 7 + 4, none⟩ = some (.string yd) := by rw [Nat.add_assoc]; exact hc 4 _ rfl
      have c5 : wr.cell? ⟨b1, o1 + i * 7 + 5, none⟩ = some (.int .i64 yc) := by rw [Nat.add_assoc]; exact hc 5 _ rfl
      have c6 : wr.cell? ⟨b1, o1 + i * 7 + 6, none⟩ = some (.int .i64 yn) := by rw [Nat.add_assoc]; exact hc 6 _ rfl
      have hb1r : b1 < wr.heap.size := Nat.lt_of_lt_of_le hb1 HRx.out.be.size
      clear hc hcs hy
      by_cases h0 : kd = 0
      · subst h0
        by_cases hroom : B + (xs.length : Int) < 4611686018427387904
        · as_aux_lemma =>
            have HB0 := Lib.hid ((Below.refl wr.heap.size wr).alloc (Nat.le_refl _) (.cells #[.int .i64 0, .int .i64 yi, .int .i64 ys, .int .i64 yb, .string yd, .int .i64 yc, .int .i64 yn] 31))
            have HX3 := Lib.hid (HRx.out.hold HB0.out (Nat.le_refl _) (heap_alloc_new wr (.cells #[.int .i64 0, .int .i64 yi, .int .i64 ys, .int .i64 yb, .string yd, .int .i64 yc, .int .i64 yn] 31)))
            have HCL : Hid (∀ W A1 l1 C1 D1 m1, Z w W p A1 l1 q C1 D1 m1 [(wr.heap.size, (.cells #[.int .i64 0, .int .i64 yi, .int .i64 ys, .int .i64 yb, .string yd, .int .i64 yc, .int .i64 yn] 31))] → W.cell? ⟨wr.heap.size, 1, none⟩ = some (.int .i64 yi) ∧ W.cell? ⟨wr.heap.size, 2, none⟩ = some (.int .i64 ys) ∧ W.cell? ⟨wr.heap.size, 3, none⟩ = some (.int .i64 yb) ∧ W.cell? ⟨wr.heap.size, 4, none⟩ = some (.string yd) ∧ W.cell? ⟨wr.heap.size, 5, none⟩ = some (.int .i64 yc) ∧ W.cell? ⟨wr.heap.size, 6, none⟩ = some (.int .i64 yn)) := Lib.hid fun W A1 l1 C1 D1 m1 h => by
              have e := h.held (List.mem_cons_self ..)
              exact ⟨by simp [World.cell?, e], by simp [World.cell?, e], by simp [World.cell?, e], by simp [World.cell?, e], by simp [World.cell?, e], by simp [World.cell?, e]⟩

            obtain ⟨X, hX⟩ : ∃ X, X = xs ++ [(⟨ys, yb, yd, yc, yn⟩ : It)] := ⟨_, rfl⟩
            have HKX : Hid (k ≤ X.length ∧ X.length ≤ i + 1) := Lib.hid (by rw [hX, List.length_append, List.length_singleton]; omega)
            have CA1 : Hid (∀ W, Z w W p (B + (k : Int)) (numb (B + (k : Int)) ((xs).drop k)) q B (B + (k : Int)) (xs) [(wr.heap.size, (.cells #[.int .i64 0, .int .i64 yi, .int .i64 ys, .int .i64 yb, .string yd, .int .i64 yc, .int .i64 yn] 31))] → Calls Try.prog 12 #[.pointer (some ⟨p, 0, none⟩), .agg #[.int .i64 ys, .int .i64 yb, .string yd, .int .i64 yc, .int .i64 yn]] W fun e W' => e = .returned (.tuple #[.int .i64 (B + (xs.length : Int) + 1), .int .i64 0]) ∧ Z w W' p (B + (k : Int)) (numb (B + (k : Int)) ((X).drop k)) q B (B + (k : Int)) (xs) [(wr.heap.size, (.cells #[.int .i64 0, .int .i64 yi, .int .i64 ys, .int .i64 yb, .string yd, .int .i64 yc, .int .i64 yn] 31))]) := Lib.hid fun W h => by
              have hln : ((xs.drop k).length : Int) = (xs.length : Int) - (k : Int) := by rw [List.length_drop]; omega
              have := h.add ⟨ys, yb, yd, yc, yn⟩ (by rw [numb_length, List.length_drop]; omega)
              obtain ⟨t1, t2, t3⟩ := add_numb (b := B + (k : Int)) (l := xs.drop k) ⟨ys, yb, yd, yc, yn⟩ (by omega)
              rw [t1, t2, t3, ← List.drop_append_of_le_length hk, ← hX, show B + (k : Int) + ((xs.drop k).length : Int) + 1 = B + (xs.length : Int) + 1 by omega] at this
              exact this
            have CA2 : Hid (∀ W, Z w W p (B + (k : Int)) (numb (B + (k : Int)) ((X).drop k)) q B (B + (k : Int)) (xs) [(wr.heap.size, (.cells #[.int .i64 0, .int .i64 yi, .int .i64 ys, .int .i64 yb, .string yd, .int .i64 yc, .int .i64 yn] 31))] → Calls Try.prog 13 #[.pointer (some ⟨q, 0, none⟩), .agg #[.int .i64 ys, .int .i64 yb, .string yd, .int .i64 yc, .int .i64 yn]] W fun e W' => e = .returned (.tuple #[.int .i64 (B + (xs.length : Int) + 1), .int .i64 0]) ∧ Z w W' p (B + (k : Int)) (numb (B + (k : Int)) ((X).drop k)) q B (B + (k : Int)) (X) [(wr.heap.size, (.cells #[.int .i64 0, .int .i64 yi, .int .i64 ys, .int .i64 yb, .string yd, .int .i64 yc, .int .i64 yn] 31))]) := Lib.hid fun W h => by
              have := h.radd ⟨ys, yb, yd, yc, yn⟩ hroom (by omega)
              rwa [← hX] at this
            clear hX

            obtain ⟨m, hm⟩ : ∃ m : Nat, m = (X).length - k := ⟨_, rfl⟩
            have HLm : Hid ((numb (B + (k : Int)) ((X).drop k)).length = m ∧ (X).length - k = m ∧ (X).length ≤ 101) := Lib.hid (by rw [numb_length, List.length_drop, hm]; have := HKX.out; omega)
            have hmI : (m : Int) ≤ 101 := by have := HKX.out; omega
            have hmN : m ≤ 101 := by have := HKX.out; omega
            have HLf : Hid (∀ W, Z w W p (B + (k : Int)) (numb (B + (k : Int)) ((X).drop k)) q B (B + (k : Int)) (X) [] → Calls Try.prog 16 #[.pointer (some ⟨p, 0, none⟩)] W fun e W' => ∃ a' c', e = .returned (.slice a' m c') ∧ m ≤ c' ∧ c' ≤ maxLen ∧ Z w W' p (B + (k : Int)) (numb (B + (k : Int)) ((X).drop k)) q B (B + (k : Int)) (X) [] ∧ OwnI W' a' c' (numb (B + (k : Int)) ((X).drop k)) ∧ Fresh W.heap.size a' ∧ Below W.heap.size W W') := Lib.hid fun W h => by
              have hl := HLm.out
              refine (h.rx.left (by rw [hl.1]; omega)).mono ?_
              rintro e w'' ⟨a', c', rfl, _, h2, h4, h3⟩
              have hc := h2.cap
              rw [hl.1] at hc ⊢
              exact ⟨a', c', rfl, hc.1, hc.2, h.below h3, h2, h4, h3⟩
            have HRL : Hid (∀ W, Z w W p (B + (k : Int)) (numb (B + (k : Int)) ((X).drop k)) q B (B + (k : Int)) (X) [] → Calls Try.prog 18 #[.pointer (some ⟨q, 0, none⟩)] W fun e W' => ∃ a' c', e = .returned (.slice a' m c') ∧ Rd W' a' m (numb (B + (k : Int)) ((X).drop k)) ∧ Below W.heap.size W W') := Lib.hid fun W h => by
              have hl := HLm.out
              refine (h.rleft (by omega)).mono ?_
              rintro e w'' ⟨a', c', rfl, h2, _, h3⟩
              have hr := h2.rd
              rw [hl.1] at hr
              rw [hl.2.1]
              exact ⟨a', c', rfl, hr, h3⟩
            have HLa : Hid (∀ W, Z w W p (B + (k : Int)) (numb (B + (k : Int)) ((X).drop k)) q B (B + (k : Int)) (X) [] → Calls Try.prog 19 #[.pointer (some ⟨p, 0, none⟩)] W fun e W' => e = .returned (.int .i64 (B + ((X).length : Int))) ∧ ∃ n, W' = W.drewN n) := Lib.hid fun W h => by
              have := h.rx.last
              rw [HLm.out.1, show B + (k : Int) + (m : Int) = B + ((X).length : Int) by have := HLm.out.2; have := HKX.out; omega] at this
              exact this
            have HRa : Hid (∀ W, Z w W p (B + (k : Int)) (numb (B + (k : Int)) ((X).drop k)) q B (B + (k : Int)) (X) [] → Calls Try.prog 20 #[.pointer (some ⟨q, 0, none⟩)] W fun e W' => e = .returned (.int .i64 (B + ((X).length : Int))) ∧ ∃ n, W' = W.drewN n) := Lib.hid fun W h => h.rlast
            have HAc : Hid (∀ W, Z w W p (B + (k : Int)) (numb (B + (k : Int)) ((X).drop k)) q B (B + (k : Int)) (X) [] → Calls Try.prog 21 #[.pointer (some ⟨p, 0, none⟩)] W fun e W' => e = .returned (.int .i64 (B + (k : Int))) ∧ W = W') := Lib.hid fun W h => h.rx.acked
            have HC2 : Hid (∀ W, Z w W p (B + (k : Int)) (numb (B + (k : Int)) ((X).drop k)) q B (B + (k : Int)) (X) [] → W.cell? ⟨q, 2, none⟩ = some (.int .i64 (B + (k : Int)))) := Lib.hid fun W h => h.cell2
            clear hm

            go_upto_region 19 with (first
              | (
                 go_at_call 12; with_reducible refine (CA1.out _ HX3.out).mono ?_; rintro e u1 ⟨rfl, h⟩
                 have HY1 := Lib.hid h
                 have hcc := HCL.out _ _ _ _ _ _ h
                 clear h)
              | (
                 go_at_call 13; with_reducible refine (CA2.out _ HY1.out).mono ?_; rintro e u2 ⟨rfl, h⟩
                 have HT := Lib.hid h.free
                 clear h)
              | (
                 go_at_call 16; with_reducible refine (HLf.out _ HT.out).mono ?_; rintro e v1 ⟨a5, c5', rfl, h51, h52, hb, ho, hf, hbl⟩
                 have HT1 := Lib.hid hb
                 have HO1 := Lib.hid ho
                 have HF1 := Lib.hid hf
                 have HB1 := Lib.hid hbl
                 have HC1 := Lib.hid (And.intro h51 h52)
                 clear hb ho hf hbl h51 h52))
            have D0 : Hid (Z w v1.drew p (B + (k : Int)) (numb (B + (k : Int)) ((X).drop k)) q B (B + (k : Int)) (X) []) := Lib.hid (HT1.out.below ((Below.refl _ _).drewB 1))
            have HR0 : Hid (Rd v1 a5 m (numb (B + (k : Int)) ((X).drop k))) := Lib.hid (by have := HO1.out.rd; rwa [HLm.out.1] at this)
            have q2 := HC2.out _ HT1.out
            go_region_held3 (fun w' => w'.cell? ⟨q, 2, none⟩ = some (.int .i64 (B + (k : Int))))
              (first
                | exact HC2.out _ D4.out
                | exact HC2.out _ D3.out
                | exact HC2.out _ D2.out
                | exact HC2.out _ D1.out
                | exact HC2.out _ D0.out
                | (go_keep; done))
              (first
                | (go_at_call 18; with_reducible refine (HRL.out _ D0.out).mono ?_; rintro e x1 ⟨a6, c6', rfl, hr, hbl⟩
                   have D1 := Lib.hid (D0.out.below hbl)
                   have E1 := Lib.hid hr
                   have BB1 : Hid (Below v1.heap.size v1 x1) := Lib.hid (((Below.refl _ _).drewB 1).trans hbl)
                   have E0 := Lib.hid (HR0.out.below BB1.out (Nat.le_refl _))
                   clear hr hbl)
                | (go_at_call 17; with_reducible refine (same_yes _ a5 a6 _ _ _ m (by omega) E0.out E1.out).mono ?_; rintro e x2 ⟨rfl, n2, hv⟩
                   have D2 := Lib.hid (D1.out.below (w' := x2) (by rw [hv]; exact (Below.refl _ _).drewB n2))
                   have BB2 : Hid (Below v1.heap.size v1 x2) := Lib.hid (by rw [hv]; exact BB1.out.drewB n2)
                   clear hv)
                | (go_at_call 19; with_reducible refine (HLa.out _ D2.out).mono ?_; rintro e x3 ⟨rfl, n3, hv⟩
                   have D3 := Lib.hid (D2.out.below (w' := x3) (by rw [hv]; exact (Below.refl _ _).drewB n3))
                   have BB3 : Hid (Below v1.heap.size v1 x3) := Lib.hid (by rw [hv]; exact BB2.out.drewB n3)
                   clear hv)
                | (go_at_call 20; with_reducible refine (HRa.out _ D3.out).mono ?_; rintro e x4 ⟨rfl, n4, hv⟩
                   have D4 := Lib.hid (D3.out.below (w' := x4) (by rw [hv]; exact (Below.refl _ _).drewB n4))
                   have BB4 : Hid (Below v1.heap.size v1 x4) := Lib.hid (by rw [hv]; exact BB3.out.drewB n4)
                   clear hv)
                | (go_at_call 21; with_reducible refine (HAc.out _ D4.out).mono ?_; rintro e x5 ⟨rfl, rfl⟩))
            have HO4 := Lib.hid (HO1.out.below BB4.out (Nat.le_refl _))
            have HB4 := Lib.hid (HB1.out.trans (BB4.out.mono HB1.out.size))
            clear q2
            go_wp2
            go_loopw [97] (fun iv wz => ∃ (j : Nat) (l' : List It), j ≤ m ∧ iv = .int .i64 (j : Int) ∧ OwnI wz a5 c5' l' ∧ l'.length = m ∧ Below (u2).heap.size (u2) wz) (fun iv _ => m - (intOf iv).toNat)
            case atStart => exact ⟨0, _, by omega, rfl, HO4.out, HLm.out.1, HB4.out⟩
            case round =>
              obtain ⟨j, l', hj, rfl, hO, hI, hBz⟩ := hrel
              have HBz := Lib.hid hBz
              have HO := Lib.hid hO
              have HI := Lib.hid hI
              clear hBz hO hI
              by_cases hjl : j < m
              · have hjI : (j : Int) < (m : Int) := by omega
                obtain ⟨y, hy⟩ : ∃ y, l'[j]? = some y := ⟨_, List.getElem?_eq_getElem (by have := HI.out; omega)⟩
                obtain ⟨g6, f6, ha6, hg6, e0, e1, e2, e3, e4, _, fz⟩ := HO.out.item hy
                subst ha6
                have hg6v : (u2).heap.size ≤ g6 := HF1.out _ rfl
                have HOs := Lib.hid (HO.out.dt hy ⟨#[63]⟩)
                have HBs := Lib.hid (HBz.out.setCell (p := ⟨g6, f6 + j * 5 + 2, none⟩) hg6v (.string ⟨#[63]⟩))
                clear hy e0 e1 e3 e4 hg6v
                go_wp2
                go_roundw
                case rel => exact ⟨j + 1, _, by omega, by go_num, HOs.out, by rw [List.length_set]; exact HI.out, HBs.out⟩
                case measure => simp [intOf]; omega
              · have hjm : j = m := by omega
                subst hjm
                clear hjl
                go_wp2
                go_roundw
                case rel => exact ⟨i + 1, k, X, by omega, by omega, by go_num, HKX.out.1, by have := HKX.out.2; omega, HT.out.below HBz.out⟩
                case measure => simp [intOf]; omega
        · as_aux_lemma =>
            have HB0 := Lib.hid ((Below.refl wr.heap.size wr).alloc (Nat.le_refl _) (.cells #[.int .i64 0, .int .i64 yi, .int .i64 ys, .int .i64 yb, .string yd, .int .i64 yc, .int .i64 yn] 31))
            have HX3 := Lib.hid (HRx.out.hold HB0.out (Nat.le_refl _) (heap_alloc_new wr (.cells #[.int .i64 0, .int .i64 yi, .int .i64 ys, .int .i64 yb, .string yd, .int .i64 yc, .int .i64 yn] 31)))
            have HCL : Hid (∀ W A1 l1 C1 D1 m1, Z w W p A1 l1 q C1 D1 m1 [(wr.heap.size, (.cells #[.int .i64 0, .int .i64 yi, .int .i64 ys, .int .i64 yb, .string yd, .int .i64 yc, .int .i64 yn] 31))] → W.cell? ⟨wr.heap.size, 1, none⟩ = some (.int .i64 yi) ∧ W.cell? ⟨wr.heap.size, 2, none⟩ = some (.int .i64 ys) ∧ W.cell? ⟨wr.heap.size, 3, none⟩ = some (.int .i64 yb) ∧ W.cell? ⟨wr.heap.size, 4, none⟩ = some (.string yd) ∧ W.cell? ⟨wr.heap.size, 5, none⟩ = some (.int .i64 yc) ∧ W.cell? ⟨wr.heap.size, 6, none⟩ = some (.int .i64 yn)) := Lib.hid fun W A1 l1 C1 D1 m1 h => by
              have e := h.held (List.mem_cons_self ..)
              exact ⟨by simp [World.cell?, e], by simp [World.cell?, e], by simp [World.cell?, e], by simp [World.cell?, e], by simp [World.cell?, e], by simp [World.cell?, e]⟩

            have HKX : Hid (k ≤ xs.length ∧ xs.length ≤ i + 1) := Lib.hid (by omega)
            have CA1 : Hid (∀ W, Z w W p (B + (k : Int)) (numb (B + (k : Int)) ((xs).drop k)) q B (B + (k : Int)) (xs) [(wr.heap.size, (.cells #[.int .i64 0, .int .i64 yi, .int .i64 ys, .int .i64 yb, .string yd, .int .i64 yc, .int .i64 yn] 31))] → Calls Try.prog 12 #[.pointer (some ⟨p, 0, none⟩), .agg #[.int .i64 ys, .int .i64 yb, .string yd, .int .i64 yc, .int .i64 yn]] W fun e W' => e = .returned (.tuple #[.int .i64 0, .int .i64 23]) ∧ Z w W' p (B + (k : Int)) (numb (B + (k : Int)) ((xs).drop k)) q B (B + (k : Int)) (xs) [(wr.heap.size, (.cells #[.int .i64 0, .int .i64 yi, .int .i64 ys, .int .i64 yb, .string yd, .int .i64 yc, .int .i64 yn] 31))]) := Lib.hid fun W h => by
              have hln : ((xs.drop k).length : Int) = (xs.length : Int) - (k : Int) := by rw [List.length_drop]; omega
              have := h.add ⟨ys, yb, yd, yc, yn⟩ (by rw [numb_length, List.length_drop]; omega)
              have hlast : ¬ last (B + (k : Int)) (numb (B + (k : Int)) (xs.drop k)) < 4611686018427387904 := by unfold last; rw [numb_length]; omega
              unfold addN addE addL at this
              rw [if_neg hlast, if_neg hlast, if_neg hlast] at this
              exact this
            have CA2 : Hid (∀ W, Z w W p (B + (k : Int)) (numb (B + (k : Int)) ((xs).drop k)) q B (B + (k : Int)) (xs) [(wr.heap.size, (.cells #[.int .i64 0, .int .i64 yi, .int .i64 ys, .int .i64 yb, .string yd, .int .i64 yc, .int .i64 yn] 31))] → Calls Try.prog 13 #[.pointer (some ⟨q, 0, none⟩), .agg #[.int .i64 ys, .int .i64 yb, .string yd, .int .i64 yc, .int .i64 yn]] W fun e W' => e = .returned (.tuple #[.int .i64 0, .int .i64 23]) ∧ Z w W' p (B + (k : Int)) (numb (B + (k : Int)) ((xs).drop k)) q B (B + (k : Int)) (xs) [(wr.heap.size, (.cells #[.int .i64 0, .int .i64 yi, .int .i64 ys, .int .i64 yb, .string yd, .int .i64 yc, .int .i64 yn] 31))]) := Lib.hid fun W h => h.raddF ⟨ys, yb, yd, yc, yn⟩ hroom

            obtain ⟨m, hm⟩ : ∃ m : Nat, m = (xs).length - k := ⟨_, rfl⟩
            have HLm : Hid ((numb (B + (k : Int)) ((xs).drop k)).length = m ∧ (xs).length - k = m ∧ (xs).length ≤ 101) := Lib.hid (by rw [numb_length, List.length_drop, hm]; have := HKX.out; omega)
            have hmI : (m : Int) ≤ 101 := by have := HKX.out; omega
            have hmN : m ≤ 101 := by have := HKX.out; omega
            have HLf : Hid (∀ W, Z w W p (B + (k : Int)) (numb (B + (k : Int)) ((xs).drop k)) q B (B + (k : Int)) (xs) [] → Calls Try.prog 16 #[.pointer (some ⟨p, 0, none⟩)] W fun e W' => ∃ a' c', e = .returned (.slice a' m c') ∧ m ≤ c' ∧ c' ≤ maxLen ∧ Z w W' p (B + (k : Int)) (numb (B + (k : Int)) ((xs).drop k)) q B (B + (k : Int)) (xs) [] ∧ OwnI W' a' c' (numb (B + (k : Int)) ((xs).drop k)) ∧ Fresh W.heap.size a' ∧ Below W.heap.size W W') := Lib.hid fun W h => by
              have hl := HLm.out
              refine (h.rx.left (by rw [hl.1]; omega)).mono ?_
              rintro e w'' ⟨a', c', rfl, _, h2, h4, h3⟩
              have hc := h2.cap
              rw [hl.1] at hc ⊢
              exact ⟨a', c', rfl, hc.1, hc.2, h.below h3, h2, h4, h3⟩
            have HRL : Hid (∀ W, Z w W p (B + (k : Int)) (numb (B + (k : Int)) ((xs).drop k)) q B (B + (k : Int)) (xs) [] → Calls Try.prog 18 #[.pointer (some ⟨q, 0, none⟩)] W fun e W' => ∃ a' c', e = .returned (.slice a' m c') ∧ Rd W' a' m (numb (B + (k : Int)) ((xs).drop k)) ∧ Below W.heap.size W W') := Lib.hid fun W h => by
              have hl := HLm.out
              refine (h.rleft (by omega)).mono ?_
              rintro e w'' ⟨a', c', rfl, h2, _, h3⟩
              have hr := h2.rd
              rw [hl.1] at hr
              rw [hl.2.1]
              exact ⟨a', c', rfl, hr, h3⟩
            have HLa : Hid (∀ W, Z w W p (B + (k : Int)) (numb (B + (k : Int)) ((xs).drop k)) q B (B + (k : Int)) (xs) [] → Calls Try.prog 19 #[.pointer (some ⟨p, 0, none⟩)] W fun e W' => e = .returned (.int .i64 (B + ((xs).length : Int))) ∧ ∃ n, W' = W.drewN n) := Lib.hid fun W h => by
              have := h.rx.last
              rw [HLm.out.1, show B + (k : Int) + (m : Int) = B + ((xs).length : Int) by have := HLm.out.2; have := HKX.out; omega] at this
              exact this
            have HRa : Hid (∀ W, Z w W p (B + (k : Int)) (numb (B + (k : Int)) ((xs).drop k)) q B (B + (k : Int)) (xs) [] → Calls Try.prog 20 #[.pointer (some ⟨q, 0, none⟩)] W fun e W' => e = .returned (.int .i64 (B + ((xs).length : Int))) ∧ ∃ n, W' = W.drewN n) := Lib.hid fun W h => h.rlast
            have HAc : Hid (∀ W, Z w W p (B + (k : Int)) (numb (B + (k : Int)) ((xs).drop k)) q B (B + (k : Int)) (xs) [] → Calls Try.prog 21 #[.pointer (some ⟨p, 0, none⟩)] W fun e W' => e = .returned (.int .i64 (B + (k : Int))) ∧ W = W') := Lib.hid fun W h => h.rx.acked
            have HC2 : Hid (∀ W, Z w W p (B + (k : Int)) (numb (B + (k : Int)) ((xs).drop k)) q B (B + (k : Int)) (xs) [] → W.cell? ⟨q, 2, none⟩ = some (.int .i64 (B + (k : Int)))) := Lib.hid fun W h => h.cell2
            clear hm

            go_upto_region 19 with (first
              | (
                 go_at_call 12; with_reducible refine (CA1.out _ HX3.out).mono ?_; rintro e u1 ⟨rfl, h⟩
                 have HY1 := Lib.hid h
                 have hcc := HCL.out _ _ _ _ _ _ h
                 clear h)
              | (
                 go_at_call 13; with_reducible refine (CA2.out _ HY1.out).mono ?_; rintro e u2 ⟨rfl, h⟩
                 have HT := Lib.hid h.free
                 clear h)
              | (
                 go_at_call 16; with_reducible refine (HLf.out _ HT.out).mono ?_; rintro e v1 ⟨a5, c5', rfl, h51, h52, hb, ho, hf, hbl⟩
                 have HT1 := Lib.hid hb
                 have HO1 := Lib.hid ho
                 have HF1 := Lib.hid hf
                 have HB1 := Lib.hid hbl
                 have HC1 := Lib.hid (And.intro h51 h52)
                 clear hb ho hf hbl h51 h52))
            have D0 : Hid (Z w v1.drew p (B + (k : Int)) (numb (B + (k : Int)) ((xs).drop k)) q B (B + (k : Int)) (xs) []) := Lib.hid (HT1.out.below ((Below.refl _ _).drewB 1))
            have HR0 : Hid (Rd v1 a5 m (numb (B + (k : Int)) ((xs).drop k))) := Lib.hid (by have := HO1.out.rd; rwa [HLm.out.1] at this)
            have q2 := HC2.out _ HT1.out
            go_region_held3 (fun w' => w'.cell? ⟨q, 2, none⟩ = some (.int .i64 (B + (k : Int))))
              (first
                | exact HC2.out _ D4.out
                | exact HC2.out _ D3.out
                | exact HC2.out _ D2.out
                | exact HC2.out _ D1.out
                | exact HC2.out _ D0.out
                | (go_keep; done))
              (first
                | (go_at_call 18; with_reducible refine (HRL.out _ D0.out).mono ?_; rintro e x1 ⟨a6, c6', rfl, hr, hbl⟩
                   have D1 := Lib.hid (D0.out.below hbl)
                   have E1 := Lib.hid hr
                   have BB1 : Hid (Below v1.heap.size v1 x1) := Lib.hid (((Below.refl _ _).drewB 1).trans hbl)
                   have E0 := Lib.hid (HR0.out.below BB1.out (Nat.le_refl _))
                   clear hr hbl)
                | (go_at_call 17; with_reducible refine (same_yes _ a5 a6 _ _ _ m (by omega) E0.out E1.out).mono ?_; rintro e x2 ⟨rfl, n2, hv⟩
                   have D2 := Lib.hid (D1.out.below (w' := x2) (by rw [hv]; exact (Below.refl _ _).drewB n2))
                   have BB2 : Hid (Below v1.heap.size v1 x2) := Lib.hid (by rw [hv]; exact BB1.out.drewB n2)
                   clear hv)
                | (go_at_call 19; with_reducible refine (HLa.out _ D2.out).mono ?_; rintro e x3 ⟨rfl, n3, hv⟩
                   have D3 := Lib.hid (D2.out.below (w' := x3) (by rw [hv]; exact (Below.refl _ _).drewB n3))
                   have BB3 : Hid (Below v1.heap.size v1 x3) := Lib.hid (by rw [hv]; exact BB2.out.drewB n3)
                   clear hv)
                | (go_at_call 20; with_reducible refine (HRa.out _ D3.out).mono ?_; rintro e x4 ⟨rfl, n4, hv⟩
                   have D4 := Lib.hid (D3.out.below (w' := x4) (by rw [hv]; exact (Below.refl _ _).drewB n4))
                   have BB4 : Hid (Below v1.heap.size v1 x4) := Lib.hid (by rw [hv]; exact BB3.out.drewB n4)
                   clear hv)
                | (go_at_call 21; with_reducible refine (HAc.out _ D4.out).mono ?_; rintro e x5 ⟨rfl, rfl⟩))
            have HO4 := Lib.hid (HO1.out.below BB4.out (Nat.le_refl _))
            have HB4 := Lib.hid (HB1.out.trans (BB4.out.mono HB1.out.size))
            clear q2
            go_wp2
            go_loopw [97] (fun iv wz => ∃ (j : Nat) (l' : List It), j ≤ m ∧ iv = .int .i64 (j : Int) ∧ OwnI wz a5 c5' l' ∧ l'.length = m ∧ Below (u2).heap.size (u2) wz) (fun iv _ => m - (intOf iv).toNat)
            case atStart => exact ⟨0, _, by omega, rfl, HO4.out, HLm.out.1, HB4.out⟩
            case round =>
              obtain ⟨j, l', hj, rfl, hO, hI, hBz⟩ := hrel
              have HBz := Lib.hid hBz
              have HO := Lib.hid hO
              have HI := Lib.hid hI
              clear hBz hO hI
              by_cases hjl : j < m
              · have hjI : (j : Int) < (m : Int) := by omega
                obtain ⟨y, hy⟩ : ∃ y, l'[j]? = some y := ⟨_, List.getElem?_eq_getElem (by have := HI.out; omega)⟩
                obtain ⟨g6, f6, ha6, hg6, e0, e1, e2, e3, e4, _, fz⟩ := HO.out.item hy
                subst ha6
                have hg6v : (u2).heap.size ≤ g6 := HF1.out _ rfl
                have HOs := Lib.hid (HO.out.dt hy ⟨#[63]⟩)
                have HBs := Lib.hid (HBz.out.setCell (p := ⟨g6, f6 + j * 5 + 2, none⟩) hg6v (.string ⟨#[63]⟩))
                clear hy e0 e1 e3 e4 hg6v
                go_wp2
                go_roundw
                case rel => exact ⟨j + 1, _, by omega, by go_num, HOs.out, by rw [List.length_set]; exact HI.out, HBs.out⟩
                case measure => simp [intOf]; omega
              · have hjm : j = m := by omega
                subst hjm
                clear hjl
                go_wp2
                go_roundw
                case rel => exact ⟨i + 1, k, xs, by omega, by omega, by go_num, HKX.out.1, by have := HKX.out.2; omega, HT.out.below HBz.out⟩
                case measure => simp [intOf]; omega
      · have h0' : (kd == 0) = false := by simpa using h0
        by_cases h1 : kd = 1
        · subst h1
          clear h0
          have hc : (B + (k : Int) < yi ∧ yi ≤ B + (xs.length : Int)) ∨ (yi ≤ B + (k : Int) ∨ B + (xs.length : Int) < yi) := by omega
          rcases hc with hc | hc
          · as_aux_lemma =>
              have HB0 := Lib.hid ((Below.refl wr.heap.size wr).alloc (Nat.le_refl _) (.cells #[.int .i64 1, .int .i64 yi, .int .i64 ys, .int .i64 yb, .string yd, .int .i64 yc, .int .i64 yn] 31))
              have HX3 := Lib.hid (HRx.out.hold HB0.out (Nat.le_refl _) (heap_alloc_new wr (.cells #[.int .i64 1, .int .i64 yi, .int .i64 ys, .int .i64 yb, .string yd, .int .i64 yc, .int .i64 yn] 31)))
              have HCL : Hid (∀ W A1 l1 C1 D1 m1, Z w W p A1 l1 q C1 D1 m1 [(wr.heap.size, (.cells #[.int .i64 1, .int .i64 yi, .int .i64 ys, .int .i64 yb, .string yd, .int .i64 yc, .int .i64 yn] 31))] → W.cell? ⟨wr.heap.size, 1, none⟩ = some (.int .i64 yi) ∧ W.cell? ⟨wr.heap.size, 2, none⟩ = some (.int .i64 ys) ∧ W.cell? ⟨wr.heap.size, 3, none⟩ = some (.int .i64 yb) ∧ W.cell? ⟨wr.heap.size, 4, none⟩ = some (.string yd) ∧ W.cell? ⟨wr.heap.size, 5, none⟩ = some (.int .i64 yc) ∧ W.cell? ⟨wr.heap.size, 6, none⟩ = some (.int .i64 yn)) := Lib.hid fun W A1 l1 C1 D1 m1 h => by
                have e := h.held (List.mem_cons_self ..)
                exact ⟨by simp [World.cell?, e], by simp [World.cell?, e], by simp [World.cell?, e], by simp [World.cell?, e], by simp [World.cell?, e], by simp [World.cell?, e]⟩

              obtain ⟨kk, hkk⟩ : ∃ kk : Nat, yi = B + (kk : Int) := ⟨(yi - B).toNat, by omega⟩
              have hk1 : k < kk := by omega
              have hk2 : kk ≤ xs.length := by omega
              have HKX : Hid (kk ≤ xs.length ∧ xs.length ≤ i + 1) := Lib.hid (by omega)
              have CK1 : Hid (∀ W, Z w W p (B + (k : Int)) (numb (B + (k : Int)) ((xs).drop k)) q B (B + (k : Int)) (xs) [(wr.heap.size, (.cells #[.int .i64 1, .int .i64 yi, .int .i64 ys, .int .i64 yb, .string yd, .int .i64 yc, .int .i64 yn] 31))] → Calls Try.prog 14 #[.pointer (some ⟨p, 0, none⟩), .int .i64 yi] W fun e W' => e = .returned (.bool true) ∧ Z w W' p (B + (kk : Int)) (numb (B + (kk : Int)) ((xs).drop kk)) q B (B + (k : Int)) (xs) [(wr.heap.size, (.cells #[.int .i64 1, .int .i64 yi, .int .i64 ys, .int .i64 yb, .string yd, .int .i64 yc, .int .i64 yn] 31))]) := Lib.hid fun W h => by
                have := h.ack yi
                obtain ⟨t1, t2, t3⟩ := ack_numb_yes (b := B) hk1 hk2
                rw [hkk, t1, t2, t3] at this
                rw [hkk]
                exact this
              have CK2 : Hid (∀ W, Z w W p (B + (kk : Int)) (numb (B + (kk : Int)) ((xs).drop kk)) q B (B + (k : Int)) (xs) [(wr.heap.size, (.cells #[.int .i64 1, .int .i64 yi, .int .i64 ys, .int .i64 yb, .string yd, .int .i64 yc, .int .i64 yn] 31))] → Calls Try.prog 15 #[.pointer (some ⟨q, 0, none⟩), .int .i64 yi] W fun e W' => e = .returned (.bool true) ∧ Z w W' p (B + (kk : Int)) (numb (B + (kk : Int)) ((xs).drop kk)) q B (B + (kk : Int)) (xs) [(wr.heap.size, (.cells #[.int .i64 1, .int .i64 yi, .int .i64 ys, .int .i64 yb, .string yd, .int .i64 yc, .int .i64 yn] 31))]) := Lib.hid fun W h => by
                have := h.rackY yi (by omega) (by omega)
                rw [hkk] at this ⊢
                exact this
              clear hkk hk1 hk2 hc

              go_upto_region 16 with fail
              have HD0 : Hid (Z w (wr.alloc (.cells #[.int .i64 1, .int .i64 yi, .int .i64 ys, .int .i64 yb, .string yd, .int .i64 yc, .int .i64 yn] 31)).drew p (B + (k : Int)) (numb (B + (k : Int)) ((xs).drop k)) q B (B + (k : Int)) (xs) [(wr.heap.size, (.cells #[.int .i64 1, .int .i64 yi, .int .i64 ys, .int .i64 yb, .string yd, .int .i64 yc, .int .i64 yn] 31))]) := Lib.hid (HX3.out.below ((Below.refl _ _).drewB 1))
              have K0c := (HCL.out _ _ _ _ _ _ HX3.out).1
              go_region_held3 (fun w' => w'.cell? ⟨wr.heap.size, 1, none⟩ = some (.int .i64 yi))
                (first
                  | exact (HCL.out _ _ _ _ _ _ HD2.out).1
                  | exact (HCL.out _ _ _ _ _ _ HD1.out).1
                  | exact (HCL.out _ _ _ _ _ _ HD0.out).1
                  | (go_keep; done))
                (first
                  | (go_at_call 14; with_reducible refine (CK1.out _ HD0.out).mono ?_; rintro e u1 ⟨rfl, h⟩
                     have HD1 := Lib.hid h
                     clear h)
                  | (go_at_call 15; with_reducible refine (CK2.out _ HD1.out).mono ?_; rintro e u2 ⟨rfl, h⟩
                     have HD2 := Lib.hid h
                     clear h))
              have HT := Lib.hid HD2.out.free

              obtain ⟨m, hm⟩ : ∃ m : Nat, m = (xs).length - kk := ⟨_, rfl⟩
              have HLm : Hid ((numb (B + (kk : Int)) ((xs).drop kk)).length = m ∧ (xs).length - kk = m ∧ (xs).length ≤ 101) := Lib.hid (by rw [numb_length, List.length_drop, hm]; have := HKX.out; omega)
              have hmI : (m : Int) ≤ 101 := by have := HKX.out; omega
              have hmN : m ≤ 101 := by have := HKX.out; omega
              have HLf : Hid (∀ W, Z w W p (B + (kk : Int)) (numb (B + (kk : Int)) ((xs).drop kk)) q B (B + (kk : Int)) (xs) [] → Calls Try.prog 16 #[.pointer (some ⟨p, 0, none⟩)] W fun e W' => ∃ a' c', e = .returned (.slice a' m c') ∧ m ≤ c' ∧ c' ≤ maxLen ∧ Z w W' p (B + (kk : Int)) (numb (B + (kk : Int)) ((xs).drop kk)) q B (B + (kk : Int)) (xs) [] ∧ OwnI W' a' c' (numb (B + (kk : Int)) ((xs).drop kk)) ∧ Fresh W.heap.size a' ∧ Below W.heap.size W W') := Lib.hid fun W h => by
                have hl := HLm.out
                refine (h.rx.left (by rw [hl.1]; omega)).mono ?_
                rintro e w'' ⟨a', c', rfl, _, h2, h4, h3⟩
                have hc := h2.cap
                rw [hl.1] at hc ⊢
                exact ⟨a', c', rfl, hc.1, hc.2, h.below h3, h2, h4, h3⟩
              have HRL : Hid (∀ W, Z w W p (B + (kk : Int)) (numb (B + (kk : Int)) ((xs).drop kk)) q B (B + (kk : Int)) (xs) [] → Calls Try.prog 18 #[.pointer (some ⟨q, 0, none⟩)] W fun e W' => ∃ a' c', e = .returned (.slice a' m c') ∧ Rd W' a' m (numb (B + (kk : Int)) ((xs).drop kk)) ∧ Below W.heap.size W W') := Lib.hid fun W h => by
                have hl := HLm.out
                refine (h.rleft (by omega)).mono ?_
                rintro e w'' ⟨a', c', rfl, h2, _, h3⟩
                have hr := h2.rd
                rw [hl.1] at hr
                rw [hl.2.1]
                exact ⟨a', c', rfl, hr, h3⟩
              have HLa : Hid (∀ W, Z w W p (B + (kk : Int)) (numb (B + (kk : Int)) ((xs).drop kk)) q B (B + (kk : Int)) (xs) [] → Calls Try.prog 19 #[.pointer (some ⟨p, 0, none⟩)] W fun e W' => e = .returned (.int .i64 (B + ((xs).length : Int))) ∧ ∃ n, W' = W.drewN n) := Lib.hid fun W h => by
                have := h.rx.last
                rw [HLm.out.1, show B + (kk : Int) + (m : Int) = B + ((xs).length : Int) by have := HLm.out.2; have := HKX.out; omega] at this
                exact this
              have HRa : Hid (∀ W, Z w W p (B + (kk : Int)) (numb (B + (kk : Int)) ((xs).drop kk)) q B (B + (kk : Int)) (xs) [] → Calls Try.prog 20 #[.pointer (some ⟨q, 0, none⟩)] W fun e W' => e = .returned (.int .i64 (B + ((xs).length : Int))) ∧ ∃ n, W' = W.drewN n) := Lib.hid fun W h => h.rlast
              have HAc : Hid (∀ W, Z w W p (B + (kk : Int)) (numb (B + (kk : Int)) ((xs).drop kk)) q B (B + (kk : Int)) (xs) [] → Calls Try.prog 21 #[.pointer (some ⟨p, 0, none⟩)] W fun e W' => e = .returned (.int .i64 (B + (kk : Int))) ∧ W = W') := Lib.hid fun W h => h.rx.acked
              have HC2 : Hid (∀ W, Z w W p (B + (kk : Int)) (numb (B + (kk : Int)) ((xs).drop kk)) q B (B + (kk : Int)) (xs) [] → W.cell? ⟨q, 2, none⟩ = some (.int .i64 (B + (kk : Int)))) := Lib.hid fun W h => h.cell2
              clear hm

              go_upto_region 19 with (first

                | (
                   go_at_call 16; with_reducible refine (HLf.out _ HT.out).mono ?_; rintro e v1 ⟨a5, c5', rfl, h51, h52, hb, ho, hf, hbl⟩
                   have HT1 := Lib.hid hb
                   have HO1 := Lib.hid ho
                   have HF1 := Lib.hid hf
                   have HB1 := Lib.hid hbl
                   have HC1 := Lib.hid (And.intro h51 h52)
                   clear hb ho hf hbl h51 h52))
              have D0 : Hid (Z w v1.drew p (B + (kk : Int)) (numb (B + (kk : Int)) ((xs).drop kk)) q B (B + (kk : Int)) (xs) []) := Lib.hid (HT1.out.below ((Below.refl _ _).drewB 1))
              have HR0 : Hid (Rd v1 a5 m (numb (B + (kk : Int)) ((xs).drop kk))) := Lib.hid (by have := HO1.out.rd; rwa [HLm.out.1] at this)
              have q2 := HC2.out _ HT1.out
              go_region_held3 (fun w' => w'.cell? ⟨q, 2, none⟩ = some (.int .i64 (B + (kk : Int))))
                (first
                  | exact HC2.out _ D4.out
                  | exact HC2.out _ D3.out
                  | exact HC2.out _ D2.out
                  | exact HC2.out _ D1.out
                  | exact HC2.out _ D0.out
                  | (go_keep; done))
                (first
                  | (go_at_call 18; with_reducible refine (HRL.out _ D0.out).mono ?_; rintro e x1 ⟨a6, c6', rfl, hr, hbl⟩
                     have D1 := Lib.hid (D0.out.below hbl)
                     have E1 := Lib.hid hr
                     have BB1 : Hid (Below v1.heap.size v1 x1) := Lib.hid (((Below.refl _ _).drewB 1).trans hbl)
                     have E0 := Lib.hid (HR0.out.below BB1.out (Nat.le_refl _))
                     clear hr hbl)
                  | (go_at_call 17; with_reducible refine (same_yes _ a5 a6 _ _ _ m (by omega) E0.out E1.out).mono ?_; rintro e x2 ⟨rfl, n2, hv⟩
                     have D2 := Lib.hid (D1.out.below (w' := x2) (by rw [hv]; exact (Below.refl _ _).drewB n2))
                     have BB2 : Hid (Below v1.heap.size v1 x2) := Lib.hid (by rw [hv]; exact BB1.out.drewB n2)
                     clear hv)
                  | (go_at_call 19; with_reducible refine (HLa.out _ D2.out).mono ?_; rintro e x3 ⟨rfl, n3, hv⟩
                     have D3 := Lib.hid (D2.out.below (w' := x3) (by rw [hv]; exact (Below.refl _ _).drewB n3))
                     have BB3 : Hid (Below v1.heap.size v1 x3) := Lib.hid (by rw [hv]; exact BB2.out.drewB n3)
                     clear hv)
                  | (go_at_call 20; with_reducible refine (HRa.out _ D3.out).mono ?_; rintro e x4 ⟨rfl, n4, hv⟩
                     have D4 := Lib.hid (D3.out.below (w' := x4) (by rw [hv]; exact (Below.refl _ _).drewB n4))
                     have BB4 : Hid (Below v1.heap.size v1 x4) := Lib.hid (by rw [hv]; exact BB3.out.drewB n4)
                     clear hv)
                  | (go_at_call 21; with_reducible refine (HAc.out _ D4.out).mono ?_; rintro e x5 ⟨rfl, rfl⟩))
              have HO4 := Lib.hid (HO1.out.below BB4.out (Nat.le_refl _))
              have HB4 := Lib.hid (HB1.out.trans (BB4.out.mono HB1.out.size))
              clear q2
              go_wp2
              go_loopw [97] (fun iv wz => ∃ (j : Nat) (l' : List It), j ≤ m ∧ iv = .int .i64 (j : Int) ∧ OwnI wz a5 c5' l' ∧ l'.length = m ∧ Below (u2).heap.size (u2) wz) (fun iv _ => m - (intOf iv).toNat)
              case atStart => exact ⟨0, _, by omega, rfl, HO4.out, HLm.out.1, HB4.out⟩
              case round =>
                obtain ⟨j, l', hj, rfl, hO, hI, hBz⟩ := hrel
                have HBz := Lib.hid hBz
                have HO := Lib.hid hO
                have HI := Lib.hid hI
                clear hBz hO hI
                by_cases hjl : j < m
                · have hjI : (j : Int) < (m : Int) := by omega
                  obtain ⟨y, hy⟩ : ∃ y, l'[j]? = some y := ⟨_, List.getElem?_eq_getElem (by have := HI.out; omega)⟩
                  obtain ⟨g6, f6, ha6, hg6, e0, e1, e2, e3, e4, _, fz⟩ := HO.out.item hy
                  subst ha6
                  have hg6v : (u2).heap.size ≤ g6 := HF1.out _ rfl
                  have HOs := Lib.hid (HO.out.dt hy ⟨#[63]⟩)
                  have HBs := Lib.hid (HBz.out.setCell (p := ⟨g6, f6 + j * 5 + 2, none⟩) hg6v (.string ⟨#[63]⟩))
                  clear hy e0 e1 e3 e4 hg6v
                  go_wp2
                  go_roundw
                  case rel => exact ⟨j + 1, _, by omega, by go_num, HOs.out, by rw [List.length_set]; exact HI.out, HBs.out⟩
                  case measure => simp [intOf]; omega
                · have hjm : j = m := by omega
                  subst hjm
                  clear hjl
                  go_wp2
                  go_roundw
                  case rel => exact ⟨i + 1, kk, xs, by omega, by omega, by go_num, HKX.out.1, by have := HKX.out.2; omega, HT.out.below HBz.out⟩
                  case measure => simp [intOf]; omega
          · as_aux_lemma =>
              have HB0 := Lib.hid ((Below.refl wr.heap.size wr).alloc (Nat.le_refl _) (.cells #[.int .i64 1, .int .i64 yi, .int .i64 ys, .int .i64 yb, .string yd, .int .i64 yc, .int .i64 yn] 31))
              have HX3 := Lib.hid (HRx.out.hold HB0.out (Nat.le_refl _) (heap_alloc_new wr (.cells #[.int .i64 1, .int .i64 yi, .int .i64 ys, .int .i64 yb, .string yd, .int .i64 yc, .int .i64 yn] 31)))
              have HCL : Hid (∀ W A1 l1 C1 D1 m1, Z w W p A1 l1 q C1 D1 m1 [(wr.heap.size, (.cells #[.int .i64 1, .int .i64 yi, .int .i64 ys, .int .i64 yb, .string yd, .int .i64 yc, .int .i64 yn] 31))] → W.cell? ⟨wr.heap.size, 1, none⟩ = some (.int .i64 yi) ∧ W.cell? ⟨wr.heap.size, 2, none⟩ = some (.int .i64 ys) ∧ W.cell? ⟨wr.heap.size, 3, none⟩ = some (.int .i64 yb) ∧ W.cell? ⟨wr.heap.size, 4, none⟩ = some (.string yd) ∧ W.cell? ⟨wr.heap.size, 5, none⟩ = some (.int .i64 yc) ∧ W.cell? ⟨wr.heap.size, 6, none⟩ = some (.int .i64 yn)) := Lib.hid fun W A1 l1 C1 D1 m1 h => by
                have e := h.held (List.mem_cons_self ..)
                exact ⟨by simp [World.cell?, e], by simp [World.cell?, e], by simp [World.cell?, e], by simp [World.cell?, e], by simp [World.cell?, e], by simp [World.cell?, e]⟩

              have HKX : Hid (k ≤ xs.length ∧ xs.length ≤ i + 1) := Lib.hid (by omega)
              have CK1 : Hid (∀ W, Z w W p (B + (k : Int)) (numb (B + (k : Int)) ((xs).drop k)) q B (B + (k : Int)) (xs) [(wr.heap.size, (.cells #[.int .i64 1, .int .i64 yi, .int .i64 ys, .int .i64 yb, .string yd, .int .i64 yc, .int .i64 yn] 31))] → Calls Try.prog 14 #[.pointer (some ⟨p, 0, none⟩), .int .i64 yi] W fun e W' => e = .returned (.bool false) ∧ Z w W' p (B + (k : Int)) (numb (B + (k : Int)) ((xs).drop k)) q B (B + (k : Int)) (xs) [(wr.heap.size, (.cells #[.int .i64 1, .int .i64 yi, .int .i64 ys, .int .i64 yb, .string yd, .int .i64 yc, .int .i64 yn] 31))]) := Lib.hid fun W h => by
                have := h.ack yi
                obtain ⟨t1, t2, t3⟩ := ack_numb_no (b := B) (q := yi) hk hc
                rw [t1, t2, t3] at this
                exact this
              have CK2 : Hid (∀ W, Z w W p (B + (k : Int)) (numb (B + (k : Int)) ((xs).drop k)) q B (B + (k : Int)) (xs) [(wr.heap.size, (.cells #[.int .i64 1, .int .i64 yi, .int .i64 ys, .int .i64 yb, .string yd, .int .i64 yc, .int .i64 yn] 31))] → Calls Try.prog 15 #[.pointer (some ⟨q, 0, none⟩), .int .i64 yi] W fun e W' => e = .returned (.bool false) ∧ Z w W' p (B + (k : Int)) (numb (B + (k : Int)) ((xs).drop k)) q B (B + (k : Int)) (xs) [(wr.heap.size, (.cells #[.int .i64 1, .int .i64 yi, .int .i64 ys, .int .i64 yb, .string yd, .int .i64 yc, .int .i64 yn] 31))]) := Lib.hid fun W h => h.rackN yi (by omega)
              clear hc

              go_upto_region 16 with fail
              have HD0 : Hid (Z w (wr.alloc (.cells #[.int .i64 1, .int .i64 yi, .int .i64 ys, .int .i64 yb, .string yd, .int .i64 yc, .int .i64 yn] 31)).drew p (B + (k : Int)) (numb (B + (k : Int)) ((xs).drop k)) q B (B + (k : Int)) (xs) [(wr.heap.size, (.cells #[.int .i64 1, .int .i64 yi, .int .i64 ys, .int .i64 yb, .string yd, .int .i64 yc, .int .i64 yn] 31))]) := Lib.hid (HX3.out.below ((Below.refl _ _).drewB 1))
              have K0c := (HCL.out _ _ _ _ _ _ HX3.out).1
              go_region_held3 (fun w' => w'.cell? ⟨wr.heap.size, 1, none⟩ = some (.int .i64 yi))
                (first
                  | exact (HCL.out _ _ _ _ _ _ HD2.out).1
                  | exact (HCL.out _ _ _ _ _ _ HD1.out).1
                  | exact (HCL.out _ _ _ _ _ _ HD0.out).1
                  | (go_keep; done))
                (first
                  | (go_at_call 14; with_reducible refine (CK1.out _ HD0.out).mono ?_; rintro e u1 ⟨rfl, h⟩
                     have HD1 := Lib.hid h
                     clear h)
                  | (go_at_call 15; with_reducible refine (CK2.out _ HD1.out).mono ?_; rintro e u2 ⟨rfl, h⟩
                     have HD2 := Lib.hid h
                     clear h))
              have HT := Lib.hid HD2.out.free

              obtain ⟨m, hm⟩ : ∃ m : Nat, m = (xs).length - k := ⟨_, rfl⟩
              have HLm : Hid ((numb (B + (k : Int)) ((xs).drop k)).length = m ∧ (xs).length - k = m ∧ (xs).length ≤ 101) := Lib.hid (by rw [numb_length, List.length_drop, hm]; have := HKX.out; omega)
              have hmI : (m : Int) ≤ 101 := by have := HKX.out; omega
              have hmN : m ≤ 101 := by have := HKX.out; omega
              have HLf : Hid (∀ W, Z w W p (B + (k : Int)) (numb (B + (k : Int)) ((xs).drop k)) q B (B + (k : Int)) (xs) [] → Calls Try.prog 16 #[.pointer (some ⟨p, 0, none⟩)] W fun e W' => ∃ a' c', e = .returned (.slice a' m c') ∧ m ≤ c' ∧ c' ≤ maxLen ∧ Z w W' p (B + (k : Int)) (numb (B + (k : Int)) ((xs).drop k)) q B (B + (k : Int)) (xs) [] ∧ OwnI W' a' c' (numb (B + (k : Int)) ((xs).drop k)) ∧ Fresh W.heap.size a' ∧ Below W.heap.size W W') := Lib.hid fun W h => by
                have hl := HLm.out
                refine (h.rx.left (by rw [hl.1]; omega)).mono ?_
                rintro e w'' ⟨a', c', rfl, _, h2, h4, h3⟩
                have hc := h2.cap
                rw [hl.1] at hc ⊢
                exact ⟨a', c', rfl, hc.1, hc.2, h.below h3, h2, h4, h3⟩
              have HRL : Hid (∀ W, Z w W p (B + (k : Int)) (numb (B + (k : Int)) ((xs).drop k)) q B (B + (k : Int)) (xs) [] → Calls Try.prog 18 #[.pointer (some ⟨q, 0, none⟩)] W fun e W' => ∃ a' c', e = .returned (.slice a' m c') ∧ Rd W' a' m (numb (B + (k : Int)) ((xs).drop k)) ∧ Below W.heap.size W W') := Lib.hid fun W h => by
                have hl := HLm.out
                refine (h.rleft (by omega)).mono ?_
                rintro e w'' ⟨a', c', rfl, h2, _, h3⟩
                have hr := h2.rd
                rw [hl.1] at hr
                rw [hl.2.1]
                exact ⟨a', c', rfl, hr, h3⟩
              have HLa : Hid (∀ W, Z w W p (B + (k : Int)) (numb (B + (k : Int)) ((xs).drop k)) q B (B + (k : Int)) (xs) [] → Calls Try.prog 19 #[.pointer (some ⟨p, 0, none⟩)] W fun e W' => e = .returned (.int .i64 (B + ((xs).length : Int))) ∧ ∃ n, W' = W.drewN n) := Lib.hid fun W h => by
                have := h.rx.last
                rw [HLm.out.1, show B + (k : Int) + (m : Int) = B + ((xs).length : Int) by have := HLm.out.2; have := HKX.out; omega] at this
                exact this
              have HRa : Hid (∀ W, Z w W p (B + (k : Int)) (numb (B + (k : Int)) ((xs).drop k)) q B (B + (k : Int)) (xs) [] → Calls Try.prog 20 #[.pointer (some ⟨q, 0, none⟩)] W fun e W' => e = .returned (.int .i64 (B + ((xs).length : Int))) ∧ ∃ n, W' = W.drewN n) := Lib.hid fun W h => h.rlast
              have HAc : Hid (∀ W, Z w W p (B + (k : Int)) (numb (B + (k : Int)) ((xs).drop k)) q B (B + (k : Int)) (xs) [] → Calls Try.prog 21 #[.pointer (some ⟨p, 0, none⟩)] W fun e W' => e = .returned (.int .i64 (B + (k : Int))) ∧ W = W') := Lib.hid fun W h => h.rx.acked
              have HC2 : Hid (∀ W, Z w W p (B + (k : Int)) (numb (B + (k : Int)) ((xs).drop k)) q B (B + (k : Int)) (xs) [] → W.cell? ⟨q, 2, none⟩ = some (.int .i64 (B + (k : Int)))) := Lib.hid fun W h => h.cell2
              clear hm

              go_upto_region 19 with (first

                | (
                   go_at_call 16; with_reducible refine (HLf.out _ HT.out).mono ?_; rintro e v1 ⟨a5, c5', rfl, h51, h52, hb, ho, hf, hbl⟩
                   have HT1 := Lib.hid hb
                   have HO1 := Lib.hid ho
                   have HF1 := Lib.hid hf
                   have HB1 := Lib.hid hbl
                   have HC1 := Lib.hid (And.intro h51 h52)
                   clear hb ho hf hbl h51 h52))
              have D0 : Hid (Z w v1.drew p (B + (k : Int)) (numb (B + (k : Int)) ((xs).drop k)) q B (B + (k : Int)) (xs) []) := Lib.hid (HT1.out.below ((Below.refl _ _).drewB 1))
              have HR0 : Hid (Rd v1 a5 m (numb (B + (k : Int)) ((xs).drop k))) := Lib.hid (by have := HO1.out.rd; rwa [HLm.out.1] at this)
              have q2 := HC2.out _ HT1.out
              go_region_held3 (fun w' => w'.cell? ⟨q, 2, none⟩ = some (.int .i64 (B + (k : Int))))
                (first
                  | exact HC2.out _ D4.out
                  | exact HC2.out _ D3.out
                  | exact HC2.out _ D2.out
                  | exact HC2.out _ D1.out
                  | exact HC2.out _ D0.out
                  | (go_keep; done))
                (first
                  | (go_at_call 18; with_reducible refine (HRL.out _ D0.out).mono ?_; rintro e x1 ⟨a6, c6', rfl, hr, hbl⟩
                     have D1 := Lib.hid (D0.out.below hbl)
                     have E1 := Lib.hid hr
                     have BB1 : Hid (Below v1.heap.size v1 x1) := Lib.hid (((Below.refl _ _).drewB 1).trans hbl)
                     have E0 := Lib.hid (HR0.out.below BB1.out (Nat.le_refl _))
                     clear hr hbl)
                  | (go_at_call 17; with_reducible refine (same_yes _ a5 a6 _ _ _ m (by omega) E0.out E1.out).mono ?_; rintro e x2 ⟨rfl, n2, hv⟩
                     have D2 := Lib.hid (D1.out.below (w' := x2) (by rw [hv]; exact (Below.refl _ _).drewB n2))
                     have BB2 : Hid (Below v1.heap.size v1 x2) := Lib.hid (by rw [hv]; exact BB1.out.drewB n2)
                     clear hv)
                  | (go_at_call 19; with_reducible refine (HLa.out _ D2.out).mono ?_; rintro e x3 ⟨rfl, n3, hv⟩
                     have D3 := Lib.hid (D2.out.below (w' := x3) (by rw [hv]; exact (Below.refl _ _).drewB n3))
                     have BB3 : Hid (Below v1.heap.size v1 x3) := Lib.hid (by rw [hv]; exact BB2.out.drewB n3)
                     clear hv)
                  | (go_at_call 20; with_reducible refine (HRa.out _ D3.out).mono ?_; rintro e x4 ⟨rfl, n4, hv⟩
                     have D4 := Lib.hid (D3.out.below (w' := x4) (by rw [hv]; exact (Below.refl _ _).drewB n4))
                     have BB4 : Hid (Below v1.heap.size v1 x4) := Lib.hid (by rw [hv]; exact BB3.out.drewB n4)
                     clear hv)
                  | (go_at_call 21; with_reducible refine (HAc.out _ D4.out).mono ?_; rintro e x5 ⟨rfl, rfl⟩))
              have HO4 := Lib.hid (HO1.out.below BB4.out (Nat.le_refl _))
              have HB4 := Lib.hid (HB1.out.trans (BB4.out.mono HB1.out.size))
              clear q2
              go_wp2
              go_loopw [97] (fun iv wz => ∃ (j : Nat) (l' : List It), j ≤ m ∧ iv = .int .i64 (j : Int) ∧ OwnI wz a5 c5' l' ∧ l'.length = m ∧ Below (u2).heap.size (u2) wz) (fun iv _ => m - (intOf iv).toNat)
              case atStart => exact ⟨0, _, by omega, rfl, HO4.out, HLm.out.1, HB4.out⟩
              case round =>
                obtain ⟨j, l', hj, rfl, hO, hI, hBz⟩ := hrel
                have HBz := Lib.hid hBz
                have HO := Lib.hid hO
                have HI := Lib.hid hI
                clear hBz hO hI
                by_cases hjl : j < m
                · have hjI : (j : Int) < (m : Int) := by omega
                  obtain ⟨y, hy⟩ : ∃ y, l'[j]? = some y := ⟨_, List.getElem?_eq_getElem (by have := HI.out; omega)⟩
                  obtain ⟨g6, f6, ha6, hg6, e0, e1, e2, e3, e4, _, fz⟩ := HO.out.item hy
                  subst ha6
                  have hg6v : (u2).heap.size ≤ g6 := HF1.out _ rfl
                  have HOs := Lib.hid (HO.out.dt hy ⟨#[63]⟩)
                  have HBs := Lib.hid (HBz.out.setCell (p := ⟨g6, f6 + j * 5 + 2, none⟩) hg6v (.string ⟨#[63]⟩))
                  clear hy e0 e1 e3 e4 hg6v
                  go_wp2
                  go_roundw
                  case rel => exact ⟨j + 1, _, by omega, by go_num, HOs.out, by rw [List.length_set]; exact HI.out, HBs.out⟩
                  case measure => simp [intOf]; omega
                · have hjm : j = m := by omega
                  subst hjm
                  clear hjl
                  go_wp2
                  go_roundw
                  case rel => exact ⟨i + 1, k, xs, by omega, by omega, by go_num, HKX.out.1, by have := HKX.out.2; omega, HT.out.below HBz.out⟩
                  case measure => simp [intOf]; omega
        · have h1' : (kd == 1) = false := by simpa using h1
          as_aux_lemma =>
            obtain ⟨wo, hwo⟩ : ∃ x, x = wr := ⟨_, rfl⟩
            subst hwo

            have HB0 := Lib.hid ((Below.refl wo.heap.size wo).alloc (Nat.le_refl _) (.cells #[.int .i64 kd, .int .i64 yi, .int .i64 ys, .int .i64 yb, .string yd, .int .i64 yc, .int .i64 yn] 31))
            have HX3 := Lib.hid (HRx.out.hold HB0.out (Nat.le_refl _) (heap_alloc_new wo (.cells #[.int .i64 kd, .int .i64 yi, .int .i64 ys, .int .i64 yb, .string yd, .int .i64 yc, .int .i64 yn] 31)))
            have HCL : Hid (∀ W A1 l1 C1 D1 m1, Z w W p A1 l1 q C1 D1 m1 [(wo.heap.size, (.cells #[.int .i64 kd, .int .i64 yi, .int .i64 ys, .int .i64 yb, .string yd, .int .i64 yc, .int .i64 yn] 31))] → W.cell? ⟨wo.heap.size, 1, none⟩ = some (.int .i64 yi) ∧ W.cell? ⟨wo.heap.size, 2, none⟩ = some (.int .i64 ys) ∧ W.cell? ⟨wo.heap.size, 3, none⟩ = some (.int .i64 yb) ∧ W.cell? ⟨wo.heap.size, 4, none⟩ = some (.string yd) ∧ W.cell? ⟨wo.heap.size, 5, none⟩ = some (.int .i64 yc) ∧ W.cell? ⟨wo.heap.size, 6, none⟩ = some (.int .i64 yn)) := Lib.hid fun W A1 l1 C1 D1 m1 h => by
              have e := h.held (List.mem_cons_self ..)
              exact ⟨by simp [World.cell?, e], by simp [World.cell?, e], by simp [World.cell?, e], by simp [World.cell?, e], by simp [World.cell?, e], by simp [World.cell?, e]⟩
            have HKX : Hid (k ≤ xs.length ∧ xs.length ≤ i + 1) := Lib.hid (by omega)
            have HT := Lib.hid HX3.out.free

            obtain ⟨m, hm⟩ : ∃ m : Nat, m = (xs).length - k := ⟨_, rfl⟩
            have HLm : Hid ((numb (B + (k : Int)) ((xs).drop k)).length = m ∧ (xs).length - k = m ∧ (xs).length ≤ 101) := Lib.hid (by rw [numb_length, List.length_drop, hm]; have := HKX.out; omega)
            have hmI : (m : Int) ≤ 101 := by have := HKX.out; omega
            have hmN : m ≤ 101 := by have := HKX.out; omega
            have HLf : Hid (∀ W, Z w W p (B + (k : Int)) (numb (B + (k : Int)) ((xs).drop k)) q B (B + (k : Int)) (xs) [] → Calls Try.prog 16 #[.pointer (some ⟨p, 0, none⟩)] W fun e W' => ∃ a' c', e = .returned (.slice a' m c') ∧ m ≤ c' ∧ c' ≤ maxLen ∧ Z w W' p (B + (k : Int)) (numb (B + (k : Int)) ((xs).drop k)) q B (B + (k : Int)) (xs) [] ∧ OwnI W' a' c' (numb (B + (k : Int)) ((xs).drop k)) ∧ Fresh W.heap.size a' ∧ Below W.heap.size W W') := Lib.hid fun W h => by
              have hl := HLm.out
              refine (h.rx.left (by rw [hl.1]; omega)).mono ?_
              rintro e w'' ⟨a', c', rfl, _, h2, h4, h3⟩
              have hc := h2.cap
              rw [hl.1] at hc ⊢
              exact ⟨a', c', rfl, hc.1, hc.2, h.below h3, h2, h4, h3⟩
            have HRL : Hid (∀ W, Z w W p (B + (k : Int)) (numb (B + (k : Int)) ((xs).drop k)) q B (B + (k : Int)) (xs) [] → Calls Try.prog 18 #[.pointer (some ⟨q, 0, none⟩)] W fun e W' => ∃ a' c', e = .returned (.slice a' m c') ∧ Rd W' a' m (numb (B + (k : Int)) ((xs).drop k)) ∧ Below W.heap.size W W') := Lib.hid fun W h => by
              have hl := HLm.out
              refine (h.rleft (by omega)).mono ?_
              rintro e w'' ⟨a', c', rfl, h2, _, h3⟩
              have hr := h2.rd
              rw [hl.1] at hr
              rw [hl.2.1]
              exact ⟨a', c', rfl, hr, h3⟩
            have HLa : Hid (∀ W, Z w W p (B + (k : Int)) (numb (B + (k : Int)) ((xs).drop k)) q B (B + (k : Int)) (xs) [] → Calls Try.prog 19 #[.pointer (some ⟨p, 0, none⟩)] W fun e W' => e = .returned (.int .i64 (B + ((xs).length : Int))) ∧ ∃ n, W' = W.drewN n) := Lib.hid fun W h => by
              have := h.rx.last
              rw [HLm.out.1, show B + (k : Int) + (m : Int) = B + ((xs).length : Int) by have := HLm.out.2; have := HKX.out; omega] at this
              exact this
            have HRa : Hid (∀ W, Z w W p (B + (k : Int)) (numb (B + (k : Int)) ((xs).drop k)) q B (B + (k : Int)) (xs) [] → Calls Try.prog 20 #[.pointer (some ⟨q, 0, none⟩)] W fun e W' => e = .returned (.int .i64 (B + ((xs).length : Int))) ∧ ∃ n, W' = W.drewN n) := Lib.hid fun W h => h.rlast
            have HAc : Hid (∀ W, Z w W p (B + (k : Int)) (numb (B + (k : Int)) ((xs).drop k)) q B (B + (k : Int)) (xs) [] → Calls Try.prog 21 #[.pointer (some ⟨p, 0, none⟩)] W fun e W' => e = .returned (.int .i64 (B + (k : Int))) ∧ W = W') := Lib.hid fun W h => h.rx.acked
            have HC2 : Hid (∀ W, Z w W p (B + (k : Int)) (numb (B + (k : Int)) ((xs).drop k)) q B (B + (k : Int)) (xs) [] → W.cell? ⟨q, 2, none⟩ = some (.int .i64 (B + (k : Int)))) := Lib.hid fun W h => h.cell2
            clear hm

            go_upto_region 19 with (first

              | (
                 go_at_call 16; with_reducible refine (HLf.out _ HT.out).mono ?_; rintro e v1 ⟨a5, c5', rfl, h51, h52, hb, ho, hf, hbl⟩
                 have HT1 := Lib.hid hb
                 have HO1 := Lib.hid ho
                 have HF1 := Lib.hid hf
                 have HB1 := Lib.hid hbl
                 have HC1 := Lib.hid (And.intro h51 h52)
                 clear hb ho hf hbl h51 h52))
            have D0 : Hid (Z w v1.drew p (B + (k : Int)) (numb (B + (k : Int)) ((xs).drop k)) q B (B + (k : Int)) (xs) []) := Lib.hid (HT1.out.below ((Below.refl _ _).drewB 1))
            have HR0 : Hid (Rd v1 a5 m (numb (B + (k : Int)) ((xs).drop k))) := Lib.hid (by have := HO1.out.rd; rwa [HLm.out.1] at this)
            have q2 := HC2.out _ HT1.out
            go_region_held3 (fun w' => w'.cell? ⟨q, 2, none⟩ = some (.int .i64 (B + (k : Int))))
              (first
                | exact HC2.out _ D4.out
                | exact HC2.out _ D3.out
                | exact HC2.out _ D2.out
                | exact HC2.out _ D1.out
                | exact HC2.out _ D0.out
                | (go_keep; done))
              (first
                | (go_at_call 18; with_reducible refine (HRL.out _ D0.out).mono ?_; rintro e x1 ⟨a6, c6', rfl, hr, hbl⟩
                   have D1 := Lib.hid (D0.out.below hbl)
                   have E1 := Lib.hid hr
                   have BB1 : Hid (Below v1.heap.size v1 x1) := Lib.hid (((Below.refl _ _).drewB 1).trans hbl)
                   have E0 := Lib.hid (HR0.out.below BB1.out (Nat.le_refl _))
                   clear hr hbl)
                | (go_at_call 17; with_reducible refine (same_yes _ a5 a6 _ _ _ m (by omega) E0.out E1.out).mono ?_; rintro e x2 ⟨rfl, n2, hv⟩
                   have D2 := Lib.hid (D1.out.below (w' := x2) (by rw [hv]; exact (Below.refl _ _).drewB n2))
                   have BB2 : Hid (Below v1.heap.size v1 x2) := Lib.hid (by rw [hv]; exact BB1.out.drewB n2)
                   clear hv)
                | (go_at_call 19; with_reducible refine (HLa.out _ D2.out).mono ?_; rintro e x3 ⟨rfl, n3, hv⟩
                   have D3 := Lib.hid (D2.out.below (w' := x3) (by rw [hv]; exact (Below.refl _ _).drewB n3))
                   have BB3 : Hid (Below v1.heap.size v1 x3) := Lib.hid (by rw [hv]; exact BB2.out.drewB n3)
                   clear hv)
                | (go_at_call 20; with_reducible refine (HRa.out _ D3.out).mono ?_; rintro e x4 ⟨rfl, n4, hv⟩
                   have D4 := Lib.hid (D3.out.below (w' := x4) (by rw [hv]; exact (Below.refl _ _).drewB n4))
                   have BB4 : Hid (Below v1.heap.size v1 x4) := Lib.hid (by rw [hv]; exact BB3.out.drewB n4)
                   clear hv)
                | (go_at_call 21; with_reducible refine (HAc.out _ D4.out).mono ?_; rintro e x5 ⟨rfl, rfl⟩))
            have HO4 := Lib.hid (HO1.out.below BB4.out (Nat.le_refl _))
            have HB4 := Lib.hid (HB1.out.trans (BB4.out.mono HB1.out.size))
            clear q2
            go_wp2
            go_loopw [97] (fun iv wz => ∃ (j : Nat) (l' : List It), j ≤ m ∧ iv = .int .i64 (j : Int) ∧ OwnI wz a5 c5' l' ∧ l'.length = m ∧ Below (wo.alloc (.cells #[.int .i64 kd, .int .i64 yi, .int .i64 ys, .int .i64 yb, .string yd, .int .i64 yc, .int .i64 yn] 31)).heap.size (wo.alloc (.cells #[.int .i64 kd, .int .i64 yi, .int .i64 ys, .int .i64 yb, .string yd, .int .i64 yc, .int .i64 yn] 31)) wz) (fun iv _ => m - (intOf iv).toNat)
            case atStart => exact ⟨0, _, by omega, rfl, HO4.out, HLm.out.1, HB4.out⟩
            case round =>
              obtain ⟨j, l', hj, rfl, hO, hI, hBz⟩ := hrel
              have HBz := Lib.hid hBz
              have HO := Lib.hid hO
              have HI := Lib.hid hI
              clear hBz hO hI
              by_cases hjl : j < m
              · have hjI : (j : Int) < (m : Int) := by omega
                obtain ⟨y, hy⟩ : ∃ y, l'[j]? = some y := ⟨_, List.getElem?_eq_getElem (by have := HI.out; omega)⟩
                obtain ⟨g6, f6, ha6, hg6, e0, e1, e2, e3, e4, _, fz⟩ := HO.out.item hy
                subst ha6
                have hg6v : (wo.alloc (.cells #[.int .i64 kd, .int .i64 yi, .int .i64 ys, .int .i64 yb, .string yd, .int .i64 yc, .int .i64 yn] 31)).heap.size ≤ g6 := HF1.out _ rfl
                have HOs := Lib.hid (HO.out.dt hy ⟨#[63]⟩)
                have HBs := Lib.hid (HBz.out.setCell (p := ⟨g6, f6 + j * 5 + 2, none⟩) hg6v (.string ⟨#[63]⟩))
                clear hy e0 e1 e3 e4 hg6v
                go_wp2
                go_roundw
                case rel => exact ⟨j + 1, _, by omega, by go_num, HOs.out, by rw [List.length_set]; exact HI.out, HBs.out⟩
                case measure => simp [intOf]; omega
              · have hjm : j = m := by omega
                subst hjm
                clear hjl
                go_wp2
                go_roundw
                case rel => exact ⟨i + 1, k, xs, by omega, by omega, by go_num, HKX.out.1, by have := HKX.out.2; omega, HT.out.below HBz.out⟩
                case measure => simp [intOf]; omega
    · have hnot : (¬ i < n1) ∨ (i < n1 ∧ ¬ i < 100) := by omega
      clear hlt
      rcases hnot with h9 | ⟨h8, h9⟩
      · have g1 : decide ((i : Int) < (n1 : Int)) = false := by simpa using h9
        go_wp2
        go_ret
        exact ⟨rfl, HRx.out.be⟩
      · have g1 : (i : Int) < (n1 : Int) := by omega
        have g2 : decide ((i : Int) < 100) = false := by simp; omega
        go_wp2
        go_ret
        exact ⟨rfl, HRx.out.be⟩

set_option maxRecDepth 100000 in
theorem lifted (os : Os) (started : os.Started) (H : Type) (enc : TypeId × Value → H) :
    ReturnsInHanded {} Try.checked os 3 .any (Rows.mirrorSendsSpec.pre6 enc Try.prog Try.f3 Rows.mirrorSendsRow.domain false) (Rows.mirrorSendsSpec.post enc Try.prog Try.f3 false true false false) := by
  refine returnsInHanded_of_change (C := Try.checked) own started (by kernel_rfl) Try.func3
    (ChangeSpec.witness6 (enc := enc) (C := Try.checked) false ⟨#[], #[.int .i64 0, .slice none 0 0], []⟩ 8 (by kernel_rfl) (by kernel_rfl) (by kernel_rfl) (by kernel_rfl)) ?_
  intro W base args ds gs before hval0 hW hcnd _
  have hval : ∀ (j : Nat) t v, Try.f3.params[j]? = some t → args[j]? = some v → Value.okWide Try.prog W .any base t v := hval0
  have hW' := hW
  obtain ⟨p, q, hA0, hV, rfl, hfz, hnd⟩ := hW
  have hA : DataW.TrodAll enc Try.prog W 0 (fun _ => true) true Try.f3.params.toList args.toList ds p := hA0
  rw [Try.params3] at hA hval
  obtain ⟨v0, vs0, d0, ds0, p0, q0, hargs, rfl, rfl, h0, r0'⟩ := trodAll_cons hA
  obtain ⟨v1, vs1, d1, ds1, p1, q1, rfl, rfl, rfl, h1, r1'⟩ := trodAll_cons r0'
  obtain ⟨rfl, rfl, rfl⟩ := trodAll_nil r1'
  obtain rfl : args = #[v0, v1] := by cases args; simp_all
  obtain ⟨rfl, rfl⟩ := trodVars_none hV
  obtain ⟨x0, rfl, rfl, rfl, w0⟩ := open_int Try.underlying2 (hval 0 2 v0 rfl rfl) h0
  have k1 := h1
  have lt1 : ∀ x ∈ p1, x.block < W.heap.size := by obtain ⟨m, hm⟩ := k1; exact DataW.trod_lt m _ _ _ hm
  obtain ⟨a1, n1, c1, l1, rfl, w1⟩ := Mr.open_acts h1 (okWide_slice Try.underlying22 (hval 1 22 v1 rfl rfl))
  clear hA0 hval0
  refine (walk x0 a1 n1 c1 l1 W w0 w1).mono fun e W' ⟨he, bel⟩ => ?_
  subst he
  exact ⟨_, rfl, _, _, _, [], _, [], hW', trodAll_mk1 (shut_bool Try.underlying4 _), (trodAll_cons_mk (shut_int Try.underlying2 w0) (trodAll_cons_mk (Below.trod laidOut (by kernel_rfl) (of_decide_eq_true (by kernel_rfl)) k1 bel lt1) trodAll_mk0)), rfl, bel.frame _, fun h => by cases h⟩

theorem over : Rows.mirrorSendsRow.holds Try.pinned (OpenSpec.ofChange Rows.mirrorSendsSpec) :=
  OpenClaim.holds_of_wide 3 Try.f3 rfl rfl rfl rfl rfl rfl rfl ⟨rfl, rfl, rfl, rfl, rfl⟩ rfl rfl rfl rfl rfl (by kernel_rfl) Try.func3 (by kernel_rfl)
    (of_decide_eq_true (by kernel_rfl)) (by unfold Func.isWrapper; first | (rw [if_pos (by decide +kernel)]; kernel_rfl) | (rw [if_neg (by decide +kernel)]; exact ⟨rfl, rfl⟩))
    (fun os started H enc _ => lifted os started H enc)

/-- the statement -/
theorem proved : Rows.MirrorSendsSaid := over
#print axioms proved
end Go.Proofs.Ytcnmkojlledipaa.mirrorSends
