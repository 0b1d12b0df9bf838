/-
  PROVED: no record's bytes are a beginning of another one's, nor nothing. CONDITIONS: none (any two records).
-/
import Derived.Test.YtdakfhoadfbfiaaBox
import Derived.Test.YtdakfhoadfbfiaaOpen
import Derived.Deep.RegionHeld3
namespace Go.Proofs.Ytdakfhoadfbfiaa.codeApart
open Go.ChangeShapes Go.WideShapes Go.ChangeAt Go.RowKit Go.Joins
set_option linter.unusedVariables false
set_option linter.unusedSimpArgs false
set_option maxRecDepth 20000

/-- behind the making of two boxes -/
def Ax (w : World) (o o' : Obj) (w' : World) : Prop := Below (w.heap.size + 2) ((w.alloc o).alloc o') w'
theorem Ax.refl (w : World) (o o' : Obj) : Ax w o o' ((w.alloc o).alloc o') := Below.refl _ _
theorem Ax.size {w : World} {o o' : Obj} {w' : World} (h : Ax w o o' w') : w.heap.size + 2 ≤ w'.heap.size := by
  have := Below.size h
  simpa using this
theorem Ax.next {w : World} {o o' : Obj} {w1 w2 : World} (h : Ax w o o' w1) {B : Nat} (hb : Below B w1 w2) (hB : w1.heap.size ≤ B) : Ax w o o' w2 := Below.trans h (hb.mono (Nat.le_trans h.size hB))
theorem Ax.drew {w : World} {o o' : Obj} {w1 : World} (h : Ax w o o' w1) : Ax w o o' w1.drew := h.next ((Below.refl w1.heap.size w1).drew) (Nat.le_refl _)
theorem Ax.old {w : World} {o o' : Obj} {w' : World} (h : Ax w o o' w') : Below w.heap.size w w' := (((Below.refl _ _).alloc (Nat.le_refl _) o).alloc (by simp) o').trans (Below.mono h (by omega))
theorem Ax.cells {w : World} {a b c a' b' c' : Value} {w' : World} (h : Ax w (.cells #[a, b, c] 25) (.cells #[a', b', c'] 25) w') :
    w'.cell? ⟨w.heap.size, 0, none⟩ = some a ∧ w'.cell? ⟨w.heap.size, 1, none⟩ = some b ∧ w'.cell? ⟨w.heap.size, 2, none⟩ = some c ∧
    w'.cell? ⟨w.heap.size + 1, 0, none⟩ = some a' ∧ w'.cell? ⟨w.heap.size + 1, 1, none⟩ = some b' ∧ w'.cell? ⟨w.heap.size + 1, 2, none⟩ = some c' := by
  obtain ⟨h1, h2, h3, h4, h5, h6⟩ := boxes_cell w a b c a' b' c' 0
  refine ⟨?_, ?_, ?_, ?_, ?_, ?_⟩ <;> (rw [Below.cell h (by simp)]; assumption)
theorem Ax.rec {w : World} {o o' : Obj} {w' : World} (h : Ax w o o' w') {r : M.Rc} {aN : Option Addr} {nN cN : Nat} {aT : Option Addr} {nT cT : Nat} (hr : RecAt w r aN nN cN aT nT cT) : RecAt w' r aN nN cN aT nT cT := hr.below h.old (Nat.le_refl _)
theorem str_back (l : List UInt8) : (str l).toList = l := by simp [str]
theorem take_alike {r s : M.Rc} (h1 : M.May r) (h2 : M.Fits r) (h3 : M.May s) (h4 : M.Fits s) (n : Nat) (hn : n = (M.enc r).length ∨ n = (M.enc s).length) (h : (M.enc r).take n = (M.enc s).take n) (hle : n ≤ (M.enc r).length ∧ n ≤ (M.enc s).length) : r = s := by
  rcases hn with hn | hn
  · have e : (M.enc r).take n = M.enc r := List.take_of_length_le (by omega)
    rw [e] at h
    exact (M.enc_apart h1 h2 h3 h4 ((M.enc s).drop n) (by rw [h, List.take_append_drop])).1
  · have e : (M.enc s).take n = M.enc s := List.take_of_length_le (by omega)
    rw [e] at h
    exact (M.enc_apart h3 h4 h1 h2 ((M.enc r).drop n) (by rw [← h, List.take_append_drop])).1.symm
theorem same_eq (w : World) (r s : M.Rc) (aN : Option Addr) (nN cN : Nat) (aT : Option Addr) (nT cT : Nat) (bN : Option Addr) (mN dN : Nat) (bT : Option Addr) (mT dT : Nat) (h : RecAt w r aN nN cN aT nT cT) (h' : RecAt w s bN mN dN bT mT dT)
    (hln : nN ≤ 1000000) (hlt : nT ≤ 1000000) (he : r = s) :
    Calls Try.prog 21 #[.agg #[.int .i64 r.kind, .slice aN nN cN, .slice aT nT cT], .agg #[.int .i64 s.kind, .slice bN mN dN, .slice bT mT dT]] w fun e w' => e = .returned (.bool true) ∧ Below w.heap.size w w' := by
  subst he
  exact same_yes w r aN nN cN aT nT cT bN mN dN bT mT dT h h' hln hlt

set_option maxHeartbeats 1000000 in
theorem walk (r0 : M.Rc) (aN0 : Option Addr) (nN0 cN0 : Nat) (aT0 : Option Addr) (nT0 cT0 : Nat) (r1 : M.Rc) (aN1 : Option Addr) (nN1 cN1 : Nat) (aT1 : Option Addr) (nT1 cT1 : Nat) (w : World) (w0 : RecAt w r0 aN0 nN0 cN0 aT0 nT0 cT0) (f0 : M.Fits r0) (w1 : RecAt w r1 aN1 nN1 cN1 aT1 nT1 cT1) (f1 : M.Fits r1) :
    Calls Try.prog 6 #[.agg #[.int .i64 r0.kind, .slice aN0 nN0 cN0, .slice aT0 nT0 cT0], .agg #[.int .i64 r1.kind, .slice aN1 nN1 cN1, .slice aT1 nT1 cT1]] w fun e w' => e = .returned (.bool true) ∧ Below w.heap.size w w' := by
  have H0 := Lib.hid w0
  have F0 := Lib.hid f0
  have H1 := Lib.hid w1
  have F1 := Lib.hid f1
  clear w0 f0 w1 f1
  by_cases hl : nN0 ≤ 1000 ∧ nT0 ≤ 1000
  · obtain ⟨hl1, hl2⟩ := hl
    by_cases hl' : nN1 ≤ 1000 ∧ nT1 ≤ 1000
    · obtain ⟨hl3, hl4⟩ := hl'
      by_cases hm0 : M.May r0
      · by_cases hm1 : M.May r1
        · have Hm0 := Lib.hid hm0
          have Hm1 := Lib.hid hm1
          have hle0 := M.enc_le hm0
          have hle1 := M.enc_le hm1
          clear hm0 hm1
          have HE0 := fun w1 h1 => encode_yes w1 r0 aN0 nN0 cN0 aT0 nT0 cT0 h1 Hm0.out F0.out
          have HE1 := fun w1 h1 => encode_yes w1 r1 aN1 nN1 cN1 aT1 nT1 cT1 h1 Hm1.out F1.out
          have Halike := Lib.hid (take_alike Hm0.out F0.out Hm1.out F1.out)
          generalize hL0 : (M.enc r0).length = m0 at *
          generalize hL1 : (M.enc r1).length = m1 at *
          have HL0 := Lib.hid hL0
          have HL1 := Lib.hid hL1
          have HE0h := Lib.hid HE0
          have HE1h := Lib.hid HE1
          clear HE0 HE1 hL0 hL1
          go_enter Try.func6, Try.ntmps6
          go_wp2_with (go_at_call 12; refine (awake_any _).mono ?_; rintro e w1 ⟨rfl, hb⟩; have A1 := Lib.hid ((Ax.refl w (.cells #[.int .i64 r0.kind, .slice aN0 nN0 cN0, .slice aT0 nT0 cT0] 25) (.cells #[.int .i64 r1.kind, .slice aN1 nN1 cN1, .slice aT1 nT1 cT1] 25)).next hb (Nat.le_refl _)); obtain ⟨c1, c2, c3, c4, c5, c6⟩ := A1.out.cells; clear hb)
          refine (large_no _ _ _ _ _ _ _ _ hl1 hl2).mono ?_
          rintro e w2 ⟨rfl, hb⟩
          have A2 := Lib.hid (A1.out.next hb (Nat.le_refl _))
          clear hb c1 c2 c3 c4 c5 c6
          obtain ⟨c1, c2, c3, c4, c5, c6⟩ := A2.out.cells
          go_wp2_with fail
          refine (large_no _ _ _ _ _ _ _ _ hl3 hl4).mono ?_
          rintro e w3 ⟨rfl, hb⟩
          have A3 := Lib.hid (A2.out.next hb (Nat.le_refl _))
          clear hb c1 c2 c3 c4 c5 c6
          obtain ⟨c1, c2, c3, c4, c5, c6⟩ := A3.out.cells
          go_wp2_with fail
          refine (HE0h.out _ (A3.out.rec H0.out)).mono ?_
          rintro e w4 ⟨a4, cap4, rfl, ho, hb⟩
          have A4 := Lib.hid (A3.out.next hb (Nat.le_refl _))
          have O4 := Lib.hid ho
          clear hb ho c1 c2 c3 c4 c5 c6
          obtain ⟨c1, c2, c3, c4, c5, c6⟩ := A4.out.cells
          go_wp2_with fail
          refine (HE1h.out _ (A4.out.rec H1.out)).mono ?_
          rintro e w5 ⟨a5, cap5, rfl, ho, hb⟩
          have A5 := Lib.hid (A4.out.next hb (Nat.le_refl _))
          have R4 := Lib.hid (own_row (own_below O4.out hb (Nat.le_refl _))).1
          have R5 := Lib.hid (own_row ho).1
          clear hb ho c1 c2 c3 c4 c5 c6
          obtain ⟨c1, c2, c3, c4, c5, c6⟩ := A5.out.cells
          by_cases hmn : m1 < m0
          · have hmI : (m1 : Int) < (m0 : Int) := by omega
            go_wp2_with fail
            have hs4 := fun w => run_to 28 5 under28 size28 a4 m0 cap4 m1 (by have := R4.out.2.1; omega) w
            have hs5 := fun w => run_to 28 5 under28 size28 a5 m1 cap5 m1 (by have := R5.out.2.1; omega) w
            have t4 := row_take R4.out m1 (by omega)
            have t5 := row_take R5.out m1 (by omega)
            rw [show (u8s (M.enc r0)).take m1 = u8s ((M.enc r0).take m1) from (List.map_take ..).symm] at t4
            rw [show (u8s (M.enc r1)).take m1 = u8s ((M.enc r1).take m1) from (List.map_take ..).symm] at t5
            have T4 := Lib.hid t4
            have T5 := Lib.hid t5
            clear t4 t5
            have hpq : r0 ≠ r1 → ((str ((M.enc r0).take m1)).toList == (str ((M.enc r1).take m1)).toList) = false := by
              intro hne
              rw [str_back, str_back, beq_eq_false_iff_ne]
              intro e
              exact hne (Halike.out m1 (by first | exact .inl rfl | exact .inr rfl) e ⟨by omega, by omega⟩)
            have hpq1 : r0 = r1 → ((str ((M.enc r0).take m1)).toList == (str ((M.enc r1).take m1)).toList) = true := by
              intro he
              rw [he, beq_iff_eq]
            have Hpq := Lib.hid hpq
            have Hpq1 := Lib.hid hpq1
            clear hpq hpq1
            generalize (M.enc r0).take m1 = P at *
            generalize (M.enc r1).take m1 = Q at *
            generalize adv a4 cap4 0 = b4 at *
            generalize adv a5 cap5 0 = b5 at *
            have q4 := run_string_bytes (row_same T4.out (w' := w5.drew) rfl)
            have q5 := run_string_bytes (row_same T5.out (w' := w5.drew) rfl)
            have hgt : (1 : Int) < (m1 : Int) := by omega
            have hgt2 : decide ((1 : Int) < (m1 : Int)) = true := by rw [decide_eq_true_eq]; omega
            by_cases hrs : r0 = r1
            · have hpq := Hpq1.out hrs
              have Hrs := Lib.hid hrs
              clear hrs
              go_region_held3 (fun w' => w'.cell? ⟨w.heap.size, 0, none⟩ = some (.int .i64 r0.kind) ∧ w'.cell? ⟨w.heap.size, 1, none⟩ = some (.slice aN0 nN0 cN0) ∧ w'.cell? ⟨w.heap.size, 2, none⟩ = some (.slice aT0 nT0 cT0) ∧
                  w'.cell? ⟨w.heap.size + 1, 0, none⟩ = some (.int .i64 r1.kind) ∧ w'.cell? ⟨w.heap.size + 1, 1, none⟩ = some (.slice aN1 nN1 cN1) ∧ w'.cell? ⟨w.heap.size + 1, 2, none⟩ = some (.slice aT1 nT1 cT1) ∧
                  (convert 28 9 (.slice b4 m1 cap4)).run Try.prog w' = .ok (.string (str P)) w' ∧ (convert 28 9 (.slice b5 m1 cap5)).run Try.prog w' = .ok (.string (str Q)) w')
                (first | (refine ⟨?_, ?_, ?_, ?_, ?_, ?_, ?_, ?_⟩ <;> assumption) | go_keep)
                ((go_at_call 21
                  refine (same_eq _ r0 r1 _ _ _ _ _ _ _ _ _ _ _ _ (A5.out.drew.rec H0.out) (A5.out.drew.rec H1.out) (by omega) (by omega) Hrs.out).mono ?_
                  rintro e w6 ⟨rfl, hb⟩
                  have A6 := Lib.hid (A5.out.drew.next hb (Nat.le_refl _))
                  obtain ⟨k1, k2, k3, k4, k5, k6⟩ := A6.out.cells
                  have k7 := run_string_bytes (row_below (row_same T4.out (w' := w5.drew) rfl) hb (Nat.le_refl _))
                  have k8 := run_string_bytes (row_below (row_same T5.out (w' := w5.drew) rfl) hb (Nat.le_refl _))
                  clear hb))
              all_goals
                go_wp2_with fail
                go_ret
                exact ⟨rfl, A6.out.old⟩
            · have hpq := Hpq.out hrs
              have Hrs := Lib.hid hrs
              clear hrs
              go_region_held3 (fun w' => w'.cell? ⟨w.heap.size, 0, none⟩ = some (.int .i64 r0.kind) ∧ w'.cell? ⟨w.heap.size, 1, none⟩ = some (.slice aN0 nN0 cN0) ∧ w'.cell? ⟨w.heap.size, 2, none⟩ = some (.slice aT0 nT0 cT0) ∧
                  w'.cell? ⟨w.heap.size + 1, 0, none⟩ = some (.int .i64 r1.kind) ∧ w'.cell? ⟨w.heap.size + 1, 1, none⟩ = some (.slice aN1 nN1 cN1) ∧ w'.cell? ⟨w.heap.size + 1, 2, none⟩ = some (.slice aT1 nT1 cT1) ∧
                  (convert 28 9 (.slice b4 m1 cap4)).run Try.prog w' = .ok (.string (str P)) w' ∧ (convert 28 9 (.slice b5 m1 cap5)).run Try.prog w' = .ok (.string (str Q)) w')
                (first | (refine ⟨?_, ?_, ?_, ?_, ?_, ?_, ?_, ?_⟩ <;> assumption) | go_keep)
                ((go_at_call 21
                  refine (same_no _ r0 r1 _ _ _ _ _ _ _ _ _ _ _ _ (A5.out.drew.rec H0.out) (A5.out.drew.rec H1.out) (by omega) (by omega) Hrs.out).mono ?_
                  rintro e w6 ⟨rfl, hb⟩
                  have A6 := Lib.hid (A5.out.drew.next hb (Nat.le_refl _))
                  obtain ⟨k1, k2, k3, k4, k5, k6⟩ := A6.out.cells
                  have k7 := run_string_bytes (row_below (row_same T4.out (w' := w5.drew) rfl) hb (Nat.le_refl _))
                  have k8 := run_string_bytes (row_below (row_same T5.out (w' := w5.drew) rfl) hb (Nat.le_refl _))
                  clear hb))
              all_goals
                go_wp2_with fail
                go_ret
                exact ⟨rfl, A6.out.old⟩
          · have hmI : (m0 : Int) ≤ (m1 : Int) := by omega
            go_wp2_with fail
            have hs4 := fun w => run_to 28 5 under28 size28 a4 m0 cap4 m0 (by have := R4.out.2.1; omega) w
            have hs5 := fun w => run_to 28 5 under28 size28 a5 m1 cap5 m0 (by have := R5.out.2.1; omega) w
            have t4 := row_take R4.out m0 (by omega)
            have t5 := row_take R5.out m0 (by omega)
            rw [show (u8s (M.enc r0)).take m0 = u8s ((M.enc r0).take m0) from (List.map_take ..).symm] at t4
            rw [show (u8s (M.enc r1)).take m0 = u8s ((M.enc r1).take m0) from (List.map_take ..).symm] at t5
            have T4 := Lib.hid t4
            have T5 := Lib.hid t5
            clear t4 t5
            have hpq : r0 ≠ r1 → ((str ((M.enc r0).take m0)).toList == (str ((M.enc r1).take m0)).toList) = false := by
              intro hne
              rw [str_back, str_back, beq_eq_false_iff_ne]
              intro e
              exact hne (Halike.out m0 (by first | exact .inl rfl | exact .inr rfl) e ⟨by omega, by omega⟩)
            have hpq1 : r0 = r1 → ((str ((M.enc r0).take m0)).toList == (str ((M.enc r1).take m0)).toList) = true := by
              intro he
              rw [he, beq_iff_eq]
            have Hpq := Lib.hid hpq
            have Hpq1 := Lib.hid hpq1
            clear hpq hpq1
            generalize (M.enc r0).take m0 = P at *
            generalize (M.enc r1).take m0 = Q at *
            generalize adv a4 cap4 0 = b4 at *
            generalize adv a5 cap5 0 = b5 at *
            have q4 := run_string_bytes (row_same T4.out (w' := w5.drew) rfl)
            have q5 := run_string_bytes (row_same T5.out (w' := w5.drew) rfl)
            have hgt : (1 : Int) < (m0 : Int) := by omega
            have hgt2 : decide ((1 : Int) < (m0 : Int)) = true := by rw [decide_eq_true_eq]; omega
            by_cases hrs : r0 = r1
            · have hpq := Hpq1.out hrs
              have Hrs := Lib.hid hrs
              clear hrs
              go_region_held3 (fun w' => w'.cell? ⟨w.heap.size, 0, none⟩ = some (.int .i64 r0.kind) ∧ w'.cell? ⟨w.heap.size, 1, none⟩ = some (.slice aN0 nN0 cN0) ∧ w'.cell? ⟨w.heap.size, 2, none⟩ = some (.slice aT0 nT0 cT0) ∧
                  w'.cell? ⟨w.heap.size + 1, 0, none⟩ = some (.int .i64 r1.kind) ∧ w'.cell? ⟨w.heap.size + 1, 1, none⟩ = some (.slice aN1 nN1 cN1) ∧ w'.cell? ⟨w.heap.size + 1, 2, none⟩ = some (.slice aT1 nT1 cT1) ∧
                  (convert 28 9 (.slice b4 m0 cap4)).run Try.prog w' = .ok (.string (str P)) w' ∧ (convert 28 9 (.slice b5 m0 cap5)).run Try.prog w' = .ok (.string (str Q)) w')
                (first | (refine ⟨?_, ?_, ?_, ?_, ?_, ?_, ?_, ?_⟩ <;> assumption) | go_keep)
                ((go_at_call 21
                  refine (same_eq _ r0 r1 _ _ _ _ _ _ _ _ _ _ _ _ (A5.out.drew.rec H0.out) (A5.out.drew.rec H1.out) (by omega) (by omega) Hrs.out).mono ?_
                  rintro e w6 ⟨rfl, hb⟩
                  have A6 := Lib.hid (A5.out.drew.next hb (Nat.le_refl _))
                  obtain ⟨k1, k2, k3, k4, k5, k6⟩ := A6.out.cells
                  have k7 := run_string_bytes (row_below (row_same T4.out (w' := w5.drew) rfl) hb (Nat.le_refl _))
                  have k8 := run_string_bytes (row_below (row_same T5.out (w' := w5.drew) rfl) hb (Nat.le_refl _))
                  clear hb))
              all_goals
                go_wp2_with fail
                go_ret
                exact ⟨rfl, A6.out.old⟩
            · have hpq := Hpq.out hrs
              have Hrs := Lib.hid hrs
              clear hrs
              go_region_held3 (fun w' => w'.cell? ⟨w.heap.size, 0, none⟩ = some (.int .i64 r0.kind) ∧ w'.cell? ⟨w.heap.size, 1, none⟩ = some (.slice aN0 nN0 cN0) ∧ w'.cell? ⟨w.heap.size, 2, none⟩ = some (.slice aT0 nT0 cT0) ∧
                  w'.cell? ⟨w.heap.size + 1, 0, none⟩ = some (.int .i64 r1.kind) ∧ w'.cell? ⟨w.heap.size + 1, 1, none⟩ = some (.slice aN1 nN1 cN1) ∧ w'.cell? ⟨w.heap.size + 1, 2, none⟩ = some (.slice aT1 nT1 cT1) ∧
                  (convert 28 9 (.slice b4 m0 cap4)).run Try.prog w' = .ok (.string (str P)) w' ∧ (convert 28 9 (.slice b5 m0 cap5)).run Try.prog w' = .ok (.string (str Q)) w')
                (first | (refine ⟨?_, ?_, ?_, ?_, ?_, ?_, ?_, ?_⟩ <;> assumption) | go_keep)
                ((go_at_call 21
                  refine (same_no _ r0 r1 _ _ _ _ _ _ _ _ _ _ _ _ (A5.out.drew.rec H0.out) (A5.out.drew.rec H1.out) (by omega) (by omega) Hrs.out).mono ?_
                  rintro e w6 ⟨rfl, hb⟩
                  have A6 := Lib.hid (A5.out.drew.next hb (Nat.le_refl _))
                  obtain ⟨k1, k2, k3, k4, k5, k6⟩ := A6.out.cells
                  have k7 := run_string_bytes (row_below (row_same T4.out (w' := w5.drew) rfl) hb (Nat.le_refl _))
                  have k8 := run_string_bytes (row_below (row_same T5.out (w' := w5.drew) rfl) hb (Nat.le_refl _))
                  clear hb))
              all_goals
                go_wp2_with fail
                go_ret
                exact ⟨rfl, A6.out.old⟩
        · skip
          skip
          go_enter Try.func6, Try.ntmps6
          go_wp2_with (go_at_call 12; refine (awake_any _).mono ?_; rintro e w1 ⟨rfl, hb⟩; have A1 := Lib.hid ((Ax.refl w (.cells #[.int .i64 r0.kind, .slice aN0 nN0 cN0, .slice aT0 nT0 cT0] 25) (.cells #[.int .i64 r1.kind, .slice aN1 nN1 cN1, .slice aT1 nT1 cT1] 25)).next hb (Nat.le_refl _)); obtain ⟨c1, c2, c3, c4, c5, c6⟩ := A1.out.cells; clear hb)
          refine (large_no _ _ _ _ _ _ _ _ hl1 hl2).mono ?_
          rintro e w2 ⟨rfl, hb⟩
          have A2 := Lib.hid (A1.out.next hb (Nat.le_refl _))
          clear hb c1 c2 c3 c4 c5 c6
          obtain ⟨c1, c2, c3, c4, c5, c6⟩ := A2.out.cells
          go_wp2_with fail
          refine (large_no _ _ _ _ _ _ _ _ hl3 hl4).mono ?_
          rintro e w3 ⟨rfl, hb⟩
          have A3 := Lib.hid (A2.out.next hb (Nat.le_refl _))
          clear hb c1 c2 c3 c4 c5 c6
          obtain ⟨c1, c2, c3, c4, c5, c6⟩ := A3.out.cells
          go_wp2_with fail
          refine (encode_yes _ r0 _ _ _ _ _ _ (A3.out.rec H0.out) hm0 F0.out).mono ?_
          rintro e w4 ⟨a4, cap4, rfl, ho, hb⟩
          clear ho
          have A4 := Lib.hid (A3.out.next hb (Nat.le_refl _))
          clear hb c1 c2 c3 c4 c5 c6
          obtain ⟨c1, c2, c3, c4, c5, c6⟩ := A4.out.cells
          go_wp2_with fail
          refine (encode_no _ r1 _ _ _ _ _ _ (A4.out.rec H1.out) hm1).mono ?_
          rintro e w5 ⟨rfl, hb⟩
          have A5 := Lib.hid (A4.out.next hb (Nat.le_refl _))
          clear hb
          go_wp2_with fail
          go_ret
          exact ⟨rfl, A5.out.old⟩
      · by_cases hm1 : M.May r1
        · skip
          go_enter Try.func6, Try.ntmps6
          go_wp2_with (go_at_call 12; refine (awake_any _).mono ?_; rintro e w1 ⟨rfl, hb⟩; have A1 := Lib.hid ((Ax.refl w (.cells #[.int .i64 r0.kind, .slice aN0 nN0 cN0, .slice aT0 nT0 cT0] 25) (.cells #[.int .i64 r1.kind, .slice aN1 nN1 cN1, .slice aT1 nT1 cT1] 25)).next hb (Nat.le_refl _)); obtain ⟨c1, c2, c3, c4, c5, c6⟩ := A1.out.cells; clear hb)
          refine (large_no _ _ _ _ _ _ _ _ hl1 hl2).mono ?_
          rintro e w2 ⟨rfl, hb⟩
          have A2 := Lib.hid (A1.out.next hb (Nat.le_refl _))
          clear hb c1 c2 c3 c4 c5 c6
          obtain ⟨c1, c2, c3, c4, c5, c6⟩ := A2.out.cells
          go_wp2_with fail
          refine (large_no _ _ _ _ _ _ _ _ hl3 hl4).mono ?_
          rintro e w3 ⟨rfl, hb⟩
          have A3 := Lib.hid (A2.out.next hb (Nat.le_refl _))
          clear hb c1 c2 c3 c4 c5 c6
          obtain ⟨c1, c2, c3, c4, c5, c6⟩ := A3.out.cells
          go_wp2_with fail
          refine (encode_no _ r0 _ _ _ _ _ _ (A3.out.rec H0.out) hm0).mono ?_
          rintro e w4 ⟨rfl, hb⟩
          have A4 := Lib.hid (A3.out.next hb (Nat.le_refl _))
          clear hb c1 c2 c3 c4 c5 c6
          obtain ⟨c1, c2, c3, c4, c5, c6⟩ := A4.out.cells
          go_wp2_with fail
          refine (encode_yes _ r1 _ _ _ _ _ _ (A4.out.rec H1.out) hm1 F1.out).mono ?_
          rintro e w5 ⟨a5, cap5, rfl, ho, hb⟩
          clear ho
          have A5 := Lib.hid (A4.out.next hb (Nat.le_refl _))
          clear hb
          go_wp2_with fail
          go_ret
          exact ⟨rfl, A5.out.old⟩
        · skip
          go_enter Try.func6, Try.ntmps6
          go_wp2_with (go_at_call 12; refine (awake_any _).mono ?_; rintro e w1 ⟨rfl, hb⟩; have A1 := Lib.hid ((Ax.refl w (.cells #[.int .i64 r0.kind, .slice aN0 nN0 cN0, .slice aT0 nT0 cT0] 25) (.cells #[.int .i64 r1.kind, .slice aN1 nN1 cN1, .slice aT1 nT1 cT1] 25)).next hb (Nat.le_refl _)); obtain ⟨c1, c2, c3, c4, c5, c6⟩ := A1.out.cells; clear hb)
          refine (large_no _ _ _ _ _ _ _ _ hl1 hl2).mono ?_
          rintro e w2 ⟨rfl, hb⟩
          have A2 := Lib.hid (A1.out.next hb (Nat.le_refl _))
          clear hb c1 c2 c3 c4 c5 c6
          obtain ⟨c1, c2, c3, c4, c5, c6⟩ := A2.out.cells
          go_wp2_with fail
          refine (large_no _ _ _ _ _ _ _ _ hl3 hl4).mono ?_
          rintro e w3 ⟨rfl, hb⟩
          have A3 := Lib.hid (A2.out.next hb (Nat.le_refl _))
          clear hb c1 c2 c3 c4 c5 c6
          obtain ⟨c1, c2, c3, c4, c5, c6⟩ := A3.out.cells
          go_wp2_with fail
          refine (encode_no _ r0 _ _ _ _ _ _ (A3.out.rec H0.out) hm0).mono ?_
          rintro e w4 ⟨rfl, hb⟩
          have A4 := Lib.hid (A3.out.next hb (Nat.le_refl _))
          clear hb c1 c2 c3 c4 c5 c6
          obtain ⟨c1, c2, c3, c4, c5, c6⟩ := A4.out.cells
          go_wp2_with fail
          refine (encode_no _ r1 _ _ _ _ _ _ (A4.out.rec H1.out) hm1).mono ?_
          rintro e w5 ⟨rfl, hb⟩
          have A5 := Lib.hid (A4.out.next hb (Nat.le_refl _))
          clear hb
          go_wp2_with fail
          go_ret
          exact ⟨rfl, A5.out.old⟩
    · go_enter Try.func6, Try.ntmps6
      go_wp2_with (go_at_call 12; refine (awake_any _).mono ?_; rintro e w1 ⟨rfl, hb⟩; have A1 := Lib.hid ((Ax.refl w (.cells #[.int .i64 r0.kind, .slice aN0 nN0 cN0, .slice aT0 nT0 cT0] 25) (.cells #[.int .i64 r1.kind, .slice aN1 nN1 cN1, .slice aT1 nT1 cT1] 25)).next hb (Nat.le_refl _)); obtain ⟨c1, c2, c3, c4, c5, c6⟩ := A1.out.cells; clear hb)
      refine (large_no _ _ _ _ _ _ _ _ hl1 hl2).mono ?_
      rintro e w2 ⟨rfl, hb⟩
      have A2 := Lib.hid (A1.out.next hb (Nat.le_refl _))
      clear hb c1 c2 c3 c4 c5 c6
      obtain ⟨c1, c2, c3, c4, c5, c6⟩ := A2.out.cells
      go_wp2_with fail
      refine (large_yes _ _ _ _ _ _ _ _ hl').mono ?_
      rintro e w3 ⟨rfl, hb⟩
      have A3 := Lib.hid (A2.out.next hb (Nat.le_refl _))
      clear hb
      go_wp2_with fail
      go_ret
      exact ⟨rfl, A3.out.old⟩
  · go_enter Try.func6, Try.ntmps6
    go_wp2_with (first
        | (go_at_call 12; refine (awake_any _).mono ?_; rintro e w1 ⟨rfl, hb⟩; have A1 := Lib.hid ((Ax.refl w (.cells #[.int .i64 r0.kind, .slice aN0 nN0 cN0, .slice aT0 nT0 cT0] 25) (.cells #[.int .i64 r1.kind, .slice aN1 nN1 cN1, .slice aT1 nT1 cT1] 25)).next hb (Nat.le_refl _)); obtain ⟨c1, c2, c3, c4, c5, c6⟩ := A1.out.cells; clear hb)
        | (go_at_call 13; refine (large_yes _ _ _ _ _ _ _ _ hl).mono ?_; rintro e w2 ⟨rfl, hb⟩; have A2 := Lib.hid (A1.out.next hb (Nat.le_refl _)); clear hb))
    go_ret
    exact ⟨rfl, A2.out.old⟩

set_option maxRecDepth 100000 in
theorem lifted (os : Os) (started : os.Started) (H : Type) (enc : TypeId × Value → H) :
    ReturnsInHanded {} Try.checked os 6 .any (Rows.codeApartSpec.pre6 enc Try.prog Try.f6 Rows.codeApartRow.domain false) (Rows.codeApartSpec.post enc Try.prog Try.f6 false true false false) := by
  refine returnsInHanded_of_change (C := Try.checked) own started (by kernel_rfl) Try.func6
    (ChangeSpec.witness6 (enc := enc) (C := Try.checked) false ⟨#[], #[.agg #[.int .i64 0, .slice none 0 0, .slice none 0 0], .agg #[.int .i64 0, .slice none 0 0, .slice none 0 0]], []⟩ 8 (by kernel_rfl) (by kernel_rfl) (by kernel_rfl) (by kernel_rfl)) ?_
  intro W base args ds gs before hval0 hW hcnd _
  have hval : ∀ (j : Nat) t v, Try.f6.params[j]? = some t → args[j]? = some v → Value.okWide Try.prog W .any base t v := hval0
  have hW' := hW
  obtain ⟨p, q, hA0, hV, rfl, hfz, hnd⟩ := hW
  have hA : DataW.TrodAll enc Try.prog W 0 (fun _ => true) true Try.f6.params.toList args.toList ds p := hA0
  rw [Try.params6] at hA hval
  obtain ⟨v0, vs0, d0, ds0, p0, q0, hargs, rfl, rfl, h0, r0'⟩ := trodAll_cons hA
  obtain ⟨v1, vs1, d1, ds1, p1, q1, rfl, rfl, rfl, h1, r1'⟩ := trodAll_cons r0'
  obtain ⟨rfl, rfl, rfl⟩ := trodAll_nil r1'
  obtain rfl : args = #[v0, v1] := by cases args; simp_all
  obtain ⟨rfl, rfl⟩ := trodVars_none hV
  have k0 := h0
  have lt0 : ∀ x ∈ p0, x.block < W.heap.size := by obtain ⟨m, hm⟩ := k0; exact DataW.trod_lt m _ _ _ hm
  obtain ⟨r0, aN0, nN0, cN0, aT0, nT0, cT0, rfl, w0, f0⟩ := open_rec (hval 0 25 v0 rfl rfl) h0
  have k1 := h1
  have lt1 : ∀ x ∈ p1, x.block < W.heap.size := by obtain ⟨m, hm⟩ := k1; exact DataW.trod_lt m _ _ _ hm
  obtain ⟨r1, aN1, nN1, cN1, aT1, nT1, cT1, rfl, w1, f1⟩ := open_rec (hval 1 25 v1 rfl rfl) h1
  clear hA0 hval0
  refine (walk r0 aN0 nN0 cN0 aT0 nT0 cT0 r1 aN1 nN1 cN1 aT1 nT1 cT1 W w0 f0 w1 f1).mono fun e W' ⟨he, bel⟩ => ?_
  subst he
  exact ⟨_, rfl, _, _, _, [], _, [], hW', trodAll_mk1 (shut_bool Try.underlying4 _), (trodAll_cons_mk (Below.trod laidOut (by kernel_rfl) (of_decide_eq_true (by kernel_rfl)) k0 bel lt0) (trodAll_cons_mk (Below.trod laidOut (by kernel_rfl) (of_decide_eq_true (by kernel_rfl)) k1 bel lt1) trodAll_mk0)), rfl, bel.frame _, fun h => by cases h⟩

theorem over : Rows.codeApartRow.holds Try.pinned (OpenSpec.ofChange Rows.codeApartSpec) :=
  OpenClaim.holds_of_wide 6 Try.f6 rfl rfl rfl rfl rfl rfl rfl ⟨rfl, rfl, rfl, rfl, rfl⟩ rfl rfl rfl rfl rfl (by kernel_rfl) Try.func6 (by kernel_rfl)
    (of_decide_eq_true (by kernel_rfl)) (by unfold Func.isWrapper; first | (rw [if_pos (by decide +kernel)]; kernel_rfl) | (rw [if_neg (by decide +kernel)]; exact ⟨rfl, rfl⟩))
    (fun os started H enc _ => lifted os started H enc)

/-- the statement -/
theorem proved : Rows.CodeApartSaid := over
#print axioms proved
end Go.Proofs.Ytdakfhoadfbfiaa.codeApart
