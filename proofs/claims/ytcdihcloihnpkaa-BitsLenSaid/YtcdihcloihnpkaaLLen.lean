/-
  PROVED: a row has as many places as were asked for, if these are from 0 to 64, and its text as many bytes as they need. CONDITIONS: none (any length, any place).
-/
import Derived.Test.YtcdihcloihnpkaaBLaw
namespace Go.Proofs.Ytcdihcloihnpkaa.bitsLen
open Go.ChangeShapes Go.WideShapes Go.ChangeAt Go.RowKit Go.Joins B
open Go.ChangeMaps (open_string shut_string)
set_option linter.unusedVariables false
set_option linter.unusedSimpArgs false
set_option maxRecDepth 20000

theorem str_size (l : List UInt8) : (str l).size = l.length := by simp [str, ByteArray.size]
theorem has_none (c : Nat) (i : Int) : has c 0 i = false := by unfold has; simp
theorem next_zero (c : Nat) (i : Int) : M.nextI c 0 i = 0 ∧ M.nextB c 0 i = false := by
  have h : M.next c 0 i = none := M.next_none fun j _ _ => by simp
  unfold M.nextI M.nextB
  rw [h]
  exact ⟨rfl, rfl⟩
theorem all_one {c k : Nat} (hk : k < c) : (M.all c (M.put 0 k)).length = 1 := by
  have e : M.all c (M.put 0 k) = [k] := by
    have h1 : M.all c (M.put 0 k) = M.all (k + 1) (M.put 0 k) := M.all_gap (by omega) fun x h1 h2 => by rw [M.put_bit]; simp; omega
    have h2 : M.all k (M.put 0 k) = M.all 0 (M.put 0 k) := M.all_gap (by omega) fun x h1 h2 => by rw [M.put_bit]; simp; omega
    rw [h1, M.all_yes (by rw [M.put_bit]; simp), h2]
    rfl
  rw [e]
  rfl

/-- what a row of c places tells, of which none is marked -/
theorem tells (c : Nat) (hc : c ≤ 64) (i : Int) : ∃ t : ByteArray, ((t.size : Int) != 1 + ((c : Int) + 7) / 8) = false ∧
    (∀ w, Hid (Calls Try.prog 25 #[.agg #[.int .i64 (c : Int), .int .u64 0]] w fun e w' => e = .returned (.int .i64 (c : Int)) ∧ Below w.heap.size w w')) ∧
    (∀ w, Hid (Calls Try.prog 28 #[.agg #[.int .i64 (c : Int), .int .u64 0]] w fun e w' => e = .returned (.int .i64 0) ∧ Below w.heap.size w w')) ∧
    (∀ w, Hid (Calls Try.prog 24 #[.agg #[.int .i64 (c : Int), .int .u64 0]] w fun e w' => (∃ a cap, e = .returned (.slice a 0 cap)) ∧ Below w.heap.size w w')) ∧
    (∀ w, Hid (Calls Try.prog 26 #[.agg #[.int .i64 (c : Int), .int .u64 0], .int .i64 i] w fun e w' => e = .returned (.bool false) ∧ Below w.heap.size w w')) ∧
    (∀ w, Hid (Calls Try.prog 22 #[.agg #[.int .i64 (c : Int), .int .u64 0]] w fun e w' => e = .returned (.string t) ∧ Below w.heap.size w w')) ∧
    (∀ w, Hid (Calls Try.prog 27 #[.agg #[.int .i64 (c : Int), .int .u64 0], .int .i64 i] w fun e w' => e = .returned (.tuple #[.int .i64 0, .bool false]) ∧ Below w.heap.size w w')) := by
  have h0 : 0 < 2 ^ c := Nat.pow_pos (by omega)
  refine ⟨str (M.txt c 0), ?_, fun w => Lib.hid (len_any c 0 w), fun w => Lib.hid ?_, fun w => Lib.hid ?_, fun w => Lib.hid ?_, fun w => Lib.hid (text_any c 0 w hc h0), fun w => Lib.hid ?_⟩
  · rw [str_size, M.txt_len]
    unfold M.size
    simp
  · have := count_any c 0 w hc h0
    rw [M.all_none] at this
    exact this
  · refine (all_any c 0 w hc h0).mono ?_
    rintro e w' ⟨a, cap, rfl, _, hb⟩
    rw [M.all_none]
    exact ⟨⟨a, cap, rfl⟩, hb⟩
  · have := has_any c 0 i w hc h0
    rw [has_none] at this
    exact this
  · have := next_any c 0 i w hc h0
    rw [(next_zero c i).1, (next_zero c i).2] at this
    exact this
theorem tells0 (i : Int) : ∃ t : ByteArray, ((t.size : Int) != 1 + (0 + 7) / 8) = false ∧
    (∀ w, Hid (Calls Try.prog 25 #[.agg #[.int .i64 0, .int .u64 0]] w fun e w' => e = .returned (.int .i64 0) ∧ Below w.heap.size w w')) ∧
    (∀ w, Hid (Calls Try.prog 28 #[.agg #[.int .i64 0, .int .u64 0]] w fun e w' => e = .returned (.int .i64 0) ∧ Below w.heap.size w w')) ∧
    (∀ w, Hid (Calls Try.prog 24 #[.agg #[.int .i64 0, .int .u64 0]] w fun e w' => (∃ a cap, e = .returned (.slice a 0 cap)) ∧ Below w.heap.size w w')) ∧
    (∀ w, Hid (Calls Try.prog 26 #[.agg #[.int .i64 0, .int .u64 0], .int .i64 i] w fun e w' => e = .returned (.bool false) ∧ Below w.heap.size w w')) ∧
    (∀ w, Hid (Calls Try.prog 22 #[.agg #[.int .i64 0, .int .u64 0]] w fun e w' => e = .returned (.string t) ∧ Below w.heap.size w w')) ∧
    (∀ w, Hid (Calls Try.prog 27 #[.agg #[.int .i64 0, .int .u64 0], .int .i64 i] w fun e w' => e = .returned (.tuple #[.int .i64 0, .bool false]) ∧ Below w.heap.size w w')) :=
  tells 0 (by omega) i

set_option maxHeartbeats 4000000 in
theorem walk (x0 : Int) (x1 : Int) (w : World) (w0 : (Lit.int .i64 x0).wf = true) (w1 : (Lit.int .i64 x1).wf = true) :
    Calls Try.prog 9 #[.int .i64 x0, .int .i64 x1] w fun e w' => e = .returned (.bool true) ∧ Below w.heap.size w w' := by
  obtain ⟨hn1, hn2⟩ := wf_i64 w0
  obtain ⟨hi1, hi2⟩ := wf_i64 w1
  clear w0 w1
  by_cases h1 : x0 < 0
  · have hout : ¬ (0 ≤ x1 ∧ x1 < ((0 : Nat) : Int)) := by omega
    obtain ⟨t, hts, HL, HCt, HAl, HHs, HTx, HNx⟩ := tells0 x1
    have HN : ∀ w, Hid (Calls Try.prog 11 #[.int .i64 x0] w fun e w' => e = .returned (.agg #[.int .i64 0, .int .u64 0]) ∧ Below w.heap.size w w') := fun w => Lib.hid (by
      have := new_any x0 w
      rw [show M.len x0 = 0 by unfold M.len; rw [if_neg (by omega)]] at this
      exact this)
    have HP : ∀ w, Hid (Calls Try.prog 13 #[.agg #[.int .i64 0, .int .u64 0], .int .i64 x1] w fun e w' => e = .returned (.tuple #[.agg #[.int .i64 0, .int .u64 0], .int .i64 2]) ∧ Below w.heap.size w w') := fun w => Lib.hid (by
      have := put_any 0 0 x1 w (by omega) (Nat.pow_pos (by omega))
      unfold putN putM putE at this
      rw [if_neg hout, if_neg hout, if_neg hout] at this
      exact this)
    clear hout
    by_cases hx : 0 ≤ x1
    · have hx2 : decide (x1 < 0) = false := by simpa using hx
      go_enter Try.func9, Try.ntmps9
      go_wp2_with (first
        | (go_at_call 10; ((with_reducible refine (awake_any _).mono ?_); rintro e w1 ⟨rfl, hb⟩)
           have HB1 := Lib.hid hb
           clear hb)
        | (go_at_call 11; ((with_reducible refine ((HN _).out).mono ?_); rintro e w2 ⟨rfl, hb⟩)
           have HB2 := Lib.hid (below_up (HB1.out) hb (HB1.out).size)
           have HC2r := Lib.hid ((HB2.out).alloc (HB2.out).size (.cells #[.int .i64 (0 : Int), .int .u64 ((0 : Nat) : Int)] 26))
           have r2a := Lib.hid (at_new w2 0 0)
           clear hb)
        | (go_at_call 25; ((with_reducible refine ((HL _).out).mono ?_); rintro e w3 ⟨rfl, hb⟩)
           have HB3 := Lib.hid (below_up (HC2r.out) hb (HC2r.out).size)
           have r3 := Lib.hid ((r2a.out).below hb (r2a.out).lt)
           have r3c0 := r3.out.c0
           have r3c1 := r3.out.c1
           have r3f0 := r3.out.fz 0
           have r3f1 := r3.out.fz 1
           have r3l := r3.out.lt
           clear hb)
        | (go_at_call 28; ((with_reducible refine ((HCt _).out).mono ?_); rintro e w4 ⟨rfl, hb⟩)
           have HB4 := Lib.hid (below_up (HB3.out) hb (HB3.out).size)
           have r4 := Lib.hid ((r3.out).below hb (r3.out).lt)
           have r4c0 := r4.out.c0
           have r4c1 := r4.out.c1
           have r4f0 := r4.out.fz 0
           have r4f1 := r4.out.fz 1
           have r4l := r4.out.lt
           clear r3c0 r3c1 r3f0 r3f1
           clear hb)
        | (go_at_call 24; ((with_reducible refine ((HAl _).out).mono ?_); rintro e w5 ⟨⟨a5, cap5, rfl⟩, hb⟩)
           have HB5 := Lib.hid (below_up (HB4.out) hb (HB4.out).size)
           have r5 := Lib.hid ((r4.out).below hb (r4.out).lt)
           have r5c0 := r5.out.c0
           have r5c1 := r5.out.c1
           have r5f0 := r5.out.fz 0
           have r5f1 := r5.out.fz 1
           have r5l := r5.out.lt
           clear r4c0 r4c1 r4f0 r4f1
           clear hb)
        | (go_at_call 26; ((with_reducible refine ((HHs _).out).mono ?_); rintro e w6 ⟨rfl, hb⟩)
           have HB6 := Lib.hid (below_up (HB5.out) hb (HB5.out).size)
           have r6 := Lib.hid ((r5.out).below hb (r5.out).lt)
           have r6c0 := r6.out.c0
           have r6c1 := r6.out.c1
           have r6f0 := r6.out.fz 0
           have r6f1 := r6.out.fz 1
           have r6l := r6.out.lt
           clear r5c0 r5c1 r5f0 r5f1
           clear hb)
        | (go_at_call 22; ((with_reducible refine ((HTx _).out).mono ?_); rintro e w7 ⟨rfl, hb⟩)
           have HB7 := Lib.hid (below_up (HB6.out) hb (HB6.out).size)
           have r7 := Lib.hid ((r6.out).below hb (r6.out).lt)
           have r7c0 := r7.out.c0
           have r7c1 := r7.out.c1
           have r7f0 := r7.out.fz 0
           have r7f1 := r7.out.fz 1
           have r7l := r7.out.lt
           clear r6c0 r6c1 r6f0 r6f1
           clear hb)
        | (go_at_call 27; ((with_reducible refine ((HNx _).out).mono ?_); rintro e w8 ⟨rfl, hb⟩)
           have HB8 := Lib.hid (below_up (HB7.out) hb (HB7.out).size)
           have r8 := Lib.hid ((r7.out).below hb (r7.out).lt)
           have r8c0 := r8.out.c0
           have r8c1 := r8.out.c1
           have r8f0 := r8.out.fz 0
           have r8f1 := r8.out.fz 1
           have r8l := r8.out.lt
           clear r7c0 r7c1 r7f0 r7f1
           clear hb)
        | (go_at_call 13; ((with_reducible refine ((HP _).out).mono ?_); rintro e w9 ⟨rfl, hb⟩)
           have HB9 := Lib.hid (below_up (HB8.out) hb (HB8.out).size)
           have r9 := Lib.hid ((r8.out).below hb (r8.out).lt)
           have r9c0 := r9.out.c0
           have r9c1 := r9.out.c1
           have r9f0 := r9.out.fz 0
           have r9f1 := r9.out.fz 1
           have r9l := r9.out.lt
           clear r8c0 r8c1 r8f0 r8f1
           have HC9p := Lib.hid ((HB9.out).alloc (HB9.out).size (.cells #[.int .i64 ((0 : Nat) : Int), .int .u64 ((0 : Nat) : Int)] 26))
           have p9a := Lib.hid (at_new w9 0 0)
           clear hb))
      go_ret
      exact ⟨rfl, HC9p.out⟩
    · have hx2 : decide (0 ≤ x1) = false := by simpa using hx
      go_enter Try.func9, Try.ntmps9
      go_wp2_with (first
        | (go_at_call 10; ((with_reducible refine (awake_any _).mono ?_); rintro e w1 ⟨rfl, hb⟩)
           have HB1 := Lib.hid hb
           clear hb)
        | (go_at_call 11; ((with_reducible refine ((HN _).out).mono ?_); rintro e w2 ⟨rfl, hb⟩)
           have HB2 := Lib.hid (below_up (HB1.out) hb (HB1.out).size)
           have HC2r := Lib.hid ((HB2.out).alloc (HB2.out).size (.cells #[.int .i64 (0 : Int), .int .u64 ((0 : Nat) : Int)] 26))
           have r2a := Lib.hid (at_new w2 0 0)
           clear hb)
        | (go_at_call 25; ((with_reducible refine ((HL _).out).mono ?_); rintro e w3 ⟨rfl, hb⟩)
           have HB3 := Lib.hid (below_up (HC2r.out) hb (HC2r.out).size)
           have r3 := Lib.hid ((r2a.out).below hb (r2a.out).lt)
           have r3c0 := r3.out.c0
           have r3c1 := r3.out.c1
           have r3f0 := r3.out.fz 0
           have r3f1 := r3.out.fz 1
           have r3l := r3.out.lt
           clear hb)
        | (go_at_call 28; ((with_reducible refine ((HCt _).out).mono ?_); rintro e w4 ⟨rfl, hb⟩)
           have HB4 := Lib.hid (below_up (HB3.out) hb (HB3.out).size)
           have r4 := Lib.hid ((r3.out).below hb (r3.out).lt)
           have r4c0 := r4.out.c0
           have r4c1 := r4.out.c1
           have r4f0 := r4.out.fz 0
           have r4f1 := r4.out.fz 1
           have r4l := r4.out.lt
           clear r3c0 r3c1 r3f0 r3f1
           clear hb)
        | (go_at_call 24; ((with_reducible refine ((HAl _).out).mono ?_); rintro e w5 ⟨⟨a5, cap5, rfl⟩, hb⟩)
           have HB5 := Lib.hid (below_up (HB4.out) hb (HB4.out).size)
           have r5 := Lib.hid ((r4.out).below hb (r4.out).lt)
           have r5c0 := r5.out.c0
           have r5c1 := r5.out.c1
           have r5f0 := r5.out.fz 0
           have r5f1 := r5.out.fz 1
           have r5l := r5.out.lt
           clear r4c0 r4c1 r4f0 r4f1
           clear hb)
        | (go_at_call 26; ((with_reducible refine ((HHs _).out).mono ?_); rintro e w6 ⟨rfl, hb⟩)
           have HB6 := Lib.hid (below_up (HB5.out) hb (HB5.out).size)
           have r6 := Lib.hid ((r5.out).below hb (r5.out).lt)
           have r6c0 := r6.out.c0
           have r6c1 := r6.out.c1
           have r6f0 := r6.out.fz 0
           have r6f1 := r6.out.fz 1
           have r6l := r6.out.lt
           clear r5c0 r5c1 r5f0 r5f1
           clear hb)
        | (go_at_call 22; ((with_reducible refine ((HTx _).out).mono ?_); rintro e w7 ⟨rfl, hb⟩)
           have HB7 := Lib.hid (below_up (HB6.out) hb (HB6.out).size)
           have r7 := Lib.hid ((r6.out).below hb (r6.out).lt)
           have r7c0 := r7.out.c0
           have r7c1 := r7.out.c1
           have r7f0 := r7.out.fz 0
           have r7f1 := r7.out.fz 1
           have r7l := r7.out.lt
           clear r6c0 r6c1 r6f0 r6f1
           clear hb)
        | (go_at_call 27; ((with_reducible refine ((HNx _).out).mono ?_); rintro e w8 ⟨rfl, hb⟩)
           have HB8 := Lib.hid (below_up (HB7.out) hb (HB7.out).size)
           have r8 := Lib.hid ((r7.out).below hb (r7.out).lt)
           have r8c0 := r8.out.c0
           have r8c1 := r8.out.c1
           have r8f0 := r8.out.fz 0
           have r8f1 := r8.out.fz 1
           have r8l := r8.out.lt
           clear r7c0 r7c1 r7f0 r7f1
           clear hb)
        | (go_at_call 13; ((with_reducible refine ((HP _).out).mono ?_); rintro e w9 ⟨rfl, hb⟩)
           have HB9 := Lib.hid (below_up (HB8.out) hb (HB8.out).size)
           have r9 := Lib.hid ((r8.out).below hb (r8.out).lt)
           have r9c0 := r9.out.c0
           have r9c1 := r9.out.c1
           have r9f0 := r9.out.fz 0
           have r9f1 := r9.out.fz 1
           have r9l := r9.out.lt
           clear r8c0 r8c1 r8f0 r8f1
           have HC9p := Lib.hid ((HB9.out).alloc (HB9.out).size (.cells #[.int .i64 ((0 : Nat) : Int), .int .u64 ((0 : Nat) : Int)] 26))
           have p9a := Lib.hid (at_new w9 0 0)
           clear hb))
      go_ret
      exact ⟨rfl, HC9p.out⟩
  by_cases h2 : 64 < x0
  · have h3 : decide (x0 < 0) = false := by simpa using h1
    have hout : ¬ (0 ≤ x1 ∧ x1 < ((0 : Nat) : Int)) := by omega
    obtain ⟨t, hts, HL, HCt, HAl, HHs, HTx, HNx⟩ := tells0 x1
    have HN : ∀ w, Hid (Calls Try.prog 11 #[.int .i64 x0] w fun e w' => e = .returned (.agg #[.int .i64 0, .int .u64 0]) ∧ Below w.heap.size w w') := fun w => Lib.hid (by
      have := new_any x0 w
      rw [show M.len x0 = 0 by unfold M.len; rw [if_neg (by omega)]] at this
      exact this)
    have HP : ∀ w, Hid (Calls Try.prog 13 #[.agg #[.int .i64 0, .int .u64 0], .int .i64 x1] w fun e w' => e = .returned (.tuple #[.agg #[.int .i64 0, .int .u64 0], .int .i64 2]) ∧ Below w.heap.size w w') := fun w => Lib.hid (by
      have := put_any 0 0 x1 w (by omega) (Nat.pow_pos (by omega))
      unfold putN putM putE at this
      rw [if_neg hout, if_neg hout, if_neg hout] at this
      exact this)
    clear hout
    by_cases hx : 0 ≤ x1
    · have hx2 : decide (x1 < 0) = false := by simpa using hx
      go_enter Try.func9, Try.ntmps9
      go_wp2_with (first
        | (go_at_call 10; ((with_reducible refine (awake_any _).mono ?_); rintro e w1 ⟨rfl, hb⟩)
           have HB1 := Lib.hid hb
           clear hb)
        | (go_at_call 11; ((with_reducible refine ((HN _).out).mono ?_); rintro e w2 ⟨rfl, hb⟩)
           have HB2 := Lib.hid (below_up (HB1.out) hb (HB1.out).size)
           have HC2r := Lib.hid ((HB2.out).alloc (HB2.out).size (.cells #[.int .i64 (0 : Int), .int .u64 ((0 : Nat) : Int)] 26))
           have r2a := Lib.hid (at_new w2 0 0)
           clear hb)
        | (go_at_call 25; ((with_reducible refine ((HL _).out).mono ?_); rintro e w3 ⟨rfl, hb⟩)
           have HB3 := Lib.hid (below_up (HC2r.out) hb (HC2r.out).size)
           have r3 := Lib.hid ((r2a.out).below hb (r2a.out).lt)
           have r3c0 := r3.out.c0
           have r3c1 := r3.out.c1
           have r3f0 := r3.out.fz 0
           have r3f1 := r3.out.fz 1
           have r3l := r3.out.lt
           clear hb)
        | (go_at_call 28; ((with_reducible refine ((HCt _).out).mono ?_); rintro e w4 ⟨rfl, hb⟩)
           have HB4 := Lib.hid (below_up (HB3.out) hb (HB3.out).size)
           have r4 := Lib.hid ((r3.out).below hb (r3.out).lt)
           have r4c0 := r4.out.c0
           have r4c1 := r4.out.c1
           have r4f0 := r4.out.fz 0
           have r4f1 := r4.out.fz 1
           have r4l := r4.out.lt
           clear r3c0 r3c1 r3f0 r3f1
           clear hb)
        | (go_at_call 24; ((with_reducible refine ((HAl _).out).mono ?_); rintro e w5 ⟨⟨a5, cap5, rfl⟩, hb⟩)
           have HB5 := Lib.hid (below_up (HB4.out) hb (HB4.out).size)
           have r5 := Lib.hid ((r4.out).below hb (r4.out).lt)
           have r5c0 := r5.out.c0
           have r5c1 := r5.out.c1
           have r5f0 := r5.out.fz 0
           have r5f1 := r5.out.fz 1
           have r5l := r5.out.lt
           clear r4c0 r4c1 r4f0 r4f1
           clear hb)
        | (go_at_call 26; ((with_reducible refine ((HHs _).out).mono ?_); rintro e w6 ⟨rfl, hb⟩)
           have HB6 := Lib.hid (below_up (HB5.out) hb (HB5.out).size)
           have r6 := Lib.hid ((r5.out).below hb (r5.out).lt)
           have r6c0 := r6.out.c0
           have r6c1 := r6.out.c1
           have r6f0 := r6.out.fz 0
           have r6f1 := r6.out.fz 1
           have r6l := r6.out.lt
           clear r5c0 r5c1 r5f0 r5f1
           clear hb)
        | (go_at_call 22; ((with_reducible refine ((HTx _).out).mono ?_); rintro e w7 ⟨rfl, hb⟩)
           have HB7 := Lib.hid (below_up (HB6.out) hb (HB6.out).size)
           have r7 := Lib.hid ((r6.out).below hb (r6.out).lt)
           have r7c0 := r7.out.c0
           have r7c1 := r7.out.c1
           have r7f0 := r7.out.fz 0
           have r7f1 := r7.out.fz 1
           have r7l := r7.out.lt
           clear r6c0 r6c1 r6f0 r6f1
           clear hb)
        | (go_at_call 27; ((with_reducible refine ((HNx _).out).mono ?_); rintro e w8 ⟨rfl, hb⟩)
           have HB8 := Lib.hid (below_up (HB7.out) hb (HB7.out).size)
           have r8 := Lib.hid ((r7.out).below hb (r7.out).lt)
           have r8c0 := r8.out.c0
           have r8c1 := r8.out.c1
           have r8f0 := r8.out.fz 0
           have r8f1 := r8.out.fz 1
           have r8l := r8.out.lt
           clear r7c0 r7c1 r7f0 r7f1
           clear hb)
        | (go_at_call 13; ((with_reducible refine ((HP _).out).mono ?_); rintro e w9 ⟨rfl, hb⟩)
           have HB9 := Lib.hid (below_up (HB8.out) hb (HB8.out).size)
           have r9 := Lib.hid ((r8.out).below hb (r8.out).lt)
           have r9c0 := r9.out.c0
           have r9c1 := r9.out.c1
           have r9f0 := r9.out.fz 0
           have r9f1 := r9.out.fz 1
           have r9l := r9.out.lt
           clear r8c0 r8c1 r8f0 r8f1
           have HC9p := Lib.hid ((HB9.out).alloc (HB9.out).size (.cells #[.int .i64 ((0 : Nat) : Int), .int .u64 ((0 : Nat) : Int)] 26))
           have p9a := Lib.hid (at_new w9 0 0)
           clear hb))
      go_ret
      exact ⟨rfl, HC9p.out⟩
    · have hx2 : decide (0 ≤ x1) = false := by simpa using hx
      go_enter Try.func9, Try.ntmps9
      go_wp2_with (first
        | (go_at_call 10; ((with_reducible refine (awake_any _).mono ?_); rintro e w1 ⟨rfl, hb⟩)
           have HB1 := Lib.hid hb
           clear hb)
        | (go_at_call 11; ((with_reducible refine ((HN _).out).mono ?_); rintro e w2 ⟨rfl, hb⟩)
           have HB2 := Lib.hid (below_up (HB1.out) hb (HB1.out).size)
           have HC2r := Lib.hid ((HB2.out).alloc (HB2.out).size (.cells #[.int .i64 (0 : Int), .int .u64 ((0 : Nat) : Int)] 26))
           have r2a := Lib.hid (at_new w2 0 0)
           clear hb)
        | (go_at_call 25; ((with_reducible refine ((HL _).out).mono ?_); rintro e w3 ⟨rfl, hb⟩)
           have HB3 := Lib.hid (below_up (HC2r.out) hb (HC2r.out).size)
           have r3 := Lib.hid ((r2a.out).below hb (r2a.out).lt)
           have r3c0 := r3.out.c0
           have r3c1 := r3.out.c1
           have r3f0 := r3.out.fz 0
           have r3f1 := r3.out.fz 1
           have r3l := r3.out.lt
           clear hb)
        | (go_at_call 28; ((with_reducible refine ((HCt _).out).mono ?_); rintro e w4 ⟨rfl, hb⟩)
           have HB4 := Lib.hid (below_up (HB3.out) hb (HB3.out).size)
           have r4 := Lib.hid ((r3.out).below hb (r3.out).lt)
           have r4c0 := r4.out.c0
           have r4c1 := r4.out.c1
           have r4f0 := r4.out.fz 0
           have r4f1 := r4.out.fz 1
           have r4l := r4.out.lt
           clear r3c0 r3c1 r3f0 r3f1
           clear hb)
        | (go_at_call 24; ((with_reducible refine ((HAl _).out).mono ?_); rintro e w5 ⟨⟨a5, cap5, rfl⟩, hb⟩)
           have HB5 := Lib.hid (below_up (HB4.out) hb (HB4.out).size)
           have r5 := Lib.hid ((r4.out).below hb (r4.out).lt)
           have r5c0 := r5.out.c0
           have r5c1 := r5.out.c1
           have r5f0 := r5.out.fz 0
           have r5f1 := r5.out.fz 1
           have r5l := r5.out.lt
           clear r4c0 r4c1 r4f0 r4f1
           clear hb)
        | (go_at_call 26; ((with_reducible refine ((HHs _).out).mono ?_); rintro e w6 ⟨rfl, hb⟩)
           have HB6 := Lib.hid (below_up (HB5.out) hb (HB5.out).size)
           have r6 := Lib.hid ((r5.out).below hb (r5.out).lt)
           have r6c0 := r6.out.c0
           have r6c1 := r6.out.c1
           have r6f0 := r6.out.fz 0
           have r6f1 := r6.out.fz 1
           have r6l := r6.out.lt
           clear r5c0 r5c1 r5f0 r5f1
           clear hb)
        | (go_at_call 22; ((with_reducible refine ((HTx _).out).mono ?_); rintro e w7 ⟨rfl, hb⟩)
           have HB7 := Lib.hid (below_up (HB6.out) hb (HB6.out).size)
           have r7 := Lib.hid ((r6.out).below hb (r6.out).lt)
           have r7c0 := r7.out.c0
           have r7c1 := r7.out.c1
           have r7f0 := r7.out.fz 0
           have r7f1 := r7.out.fz 1
           have r7l := r7.out.lt
           clear r6c0 r6c1 r6f0 r6f1
           clear hb)
        | (go_at_call 27; ((with_reducible refine ((HNx _).out).mono ?_); rintro e w8 ⟨rfl, hb⟩)
           have HB8 := Lib.hid (below_up (HB7.out) hb (HB7.out).size)
           have r8 := Lib.hid ((r7.out).below hb (r7.out).lt)
           have r8c0 := r8.out.c0
           have r8c1 := r8.out.c1
           have r8f0 := r8.out.fz 0
           have r8f1 := r8.out.fz 1
           have r8l := r8.out.lt
           clear r7c0 r7c1 r7f0 r7f1
           clear hb)
        | (go_at_call 13; ((with_reducible refine ((HP _).out).mono ?_); rintro e w9 ⟨rfl, hb⟩)
           have HB9 := Lib.hid (below_up (HB8.out) hb (HB8.out).size)
           have r9 := Lib.hid ((r8.out).below hb (r8.out).lt)
           have r9c0 := r9.out.c0
           have r9c1 := r9.out.c1
           have r9f0 := r9.out.fz 0
           have r9f1 := r9.out.fz 1
           have r9l := r9.out.lt
           clear r8c0 r8c1 r8f0 r8f1
           have HC9p := Lib.hid ((HB9.out).alloc (HB9.out).size (.cells #[.int .i64 ((0 : Nat) : Int), .int .u64 ((0 : Nat) : Int)] 26))
           have p9a := Lib.hid (at_new w9 0 0)
           clear hb))
      go_ret
      exact ⟨rfl, HC9p.out⟩
  obtain ⟨c, rfl⟩ := Int.eq_ofNat_of_zero_le (show 0 ≤ x0 by omega)
  have hc : c ≤ 64 := by omega
  have h3 : decide ((c : Int) < 0) = false := by simp
  have h4 : decide ((64 : Int) < (c : Int)) = false := by simp; omega
  obtain ⟨t, hts, HL, HCt, HAl, HHs, HTx, HNx⟩ := tells c (by omega) x1
  have HN : ∀ w, Hid (Calls Try.prog 11 #[.int .i64 (c : Int)] w fun e w' => e = .returned (.agg #[.int .i64 (c : Int), .int .u64 0]) ∧ Below w.heap.size w w') := fun w => Lib.hid (by
    have := new_any (c : Int) w
    rw [show M.len (c : Int) = c by unfold M.len; rw [if_pos (by omega)]; simp] at this
    exact this)
  by_cases hin : 0 ≤ x1 ∧ x1 < (c : Int)
  · obtain ⟨hx1, hx2⟩ := hin
    obtain ⟨k, rfl⟩ := Int.eq_ofNat_of_zero_le hx1
    have hk : k < c := by omega
    have h0 : 0 < 2 ^ c := Nat.pow_pos (by omega)
    have HP : ∀ w, Hid (Calls Try.prog 13 #[.agg #[.int .i64 (c : Int), .int .u64 0], .int .i64 (k : Int)] w fun e w' => e = .returned (.tuple #[.agg #[.int .i64 (c : Int), .int .u64 ((M.put 0 k : Nat) : Int)], .int .i64 0]) ∧ Below w.heap.size w w') := fun w => Lib.hid (by
      have := put_any c 0 k w hc h0
      obtain ⟨e1, e2, e3⟩ := putM_in (n := c) (m := 0) hk
      rw [e1, e2, e3] at this
      exact this)
    have HPh : ∀ w, Hid (Calls Try.prog 26 #[.agg #[.int .i64 (c : Int), .int .u64 ((M.put 0 k : Nat) : Int)], .int .i64 (k : Int)] w fun e w' => e = .returned (.bool true) ∧ Below w.heap.size w w') := fun w => Lib.hid (by
      have := has_any c (M.put 0 k) k w hc (M.put_lt h0 hk)
      rw [has_bit hk, M.put_bit, decide_eq_true rfl, Bool.or_true] at this
      exact this)
    have HPc : ∀ w, Hid (Calls Try.prog 28 #[.agg #[.int .i64 (c : Int), .int .u64 ((M.put 0 k : Nat) : Int)]] w fun e w' => e = .returned (.int .i64 1) ∧ Below w.heap.size w w') := fun w => Lib.hid (by
      have := count_any c (M.put 0 k) w hc (M.put_lt h0 hk)
      rw [all_one hk] at this
      exact this)
    have hne : (((M.put 0 k : Nat) : Int) == 0) = false := by
      have : M.put 0 k ≠ 0 := fun h => by have := M.put_bit 0 k k; rw [h] at this; simp at this
      exact beq_eq_false_iff_ne.2 (by omega)
    clear h0 hi1 hi2
    go_enter Try.func9, Try.ntmps9
    go_wp2_with (first
      | (go_at_call 10; ((with_reducible refine (awake_any _).mono ?_); rintro e w1 ⟨rfl, hb⟩)
         have HB1 := Lib.hid hb
         clear hb)
      | (go_at_call 11; ((with_reducible refine ((HN _).out).mono ?_); rintro e w2 ⟨rfl, hb⟩)
         have HB2 := Lib.hid (below_up (HB1.out) hb (HB1.out).size)
         have HC2r := Lib.hid ((HB2.out).alloc (HB2.out).size (.cells #[.int .i64 (c : Int), .int .u64 ((0 : Nat) : Int)] 26))
         have r2a := Lib.hid (at_new w2 c 0)
         clear hb)
      | (go_at_call 25; ((with_reducible refine ((HL _).out).mono ?_); rintro e w3 ⟨rfl, hb⟩)
         have HB3 := Lib.hid (below_up (HC2r.out) hb (HC2r.out).size)
         have r3 := Lib.hid ((r2a.out).below hb (r2a.out).lt)
         have r3c0 := r3.out.c0
         have r3c1 := r3.out.c1
         have r3f0 := r3.out.fz 0
         have r3f1 := r3.out.fz 1
         have r3l := r3.out.lt
         clear hb)
      | (go_at_call 28; ((with_reducible refine ((HCt _).out).mono ?_); rintro e w4 ⟨rfl, hb⟩)
         have HB4 := Lib.hid (below_up (HB3.out) hb (HB3.out).size)
         have r4 := Lib.hid ((r3.out).below hb (r3.out).lt)
         have r4c0 := r4.out.c0
         have r4c1 := r4.out.c1
         have r4f0 := r4.out.fz 0
         have r4f1 := r4.out.fz 1
         have r4l := r4.out.lt
         clear r3c0 r3c1 r3f0 r3f1
         clear hb)
      | (go_at_call 24; ((with_reducible refine ((HAl _).out).mono ?_); rintro e w5 ⟨⟨a5, cap5, rfl⟩, hb⟩)
         have HB5 := Lib.hid (below_up (HB4.out) hb (HB4.out).size)
         have r5 := Lib.hid ((r4.out).below hb (r4.out).lt)
         have r5c0 := r5.out.c0
         have r5c1 := r5.out.c1
         have r5f0 := r5.out.fz 0
         have r5f1 := r5.out.fz 1
         have r5l := r5.out.lt
         clear r4c0 r4c1 r4f0 r4f1
         clear hb)
      | (go_at_call 26; ((with_reducible refine ((HHs _).out).mono ?_); rintro e w6 ⟨rfl, hb⟩)
         have HB6 := Lib.hid (below_up (HB5.out) hb (HB5.out).size)
         have r6 := Lib.hid ((r5.out).below hb (r5.out).lt)
         have r6c0 := r6.out.c0
         have r6c1 := r6.out.c1
         have r6f0 := r6.out.fz 0
         have r6f1 := r6.out.fz 1
         have r6l := r6.out.lt
         clear r5c0 r5c1 r5f0 r5f1
         clear hb)
      | (go_at_call 22; ((with_reducible refine ((HTx _).out).mono ?_); rintro e w7 ⟨rfl, hb⟩)
         have HB7 := Lib.hid (below_up (HB6.out) hb (HB6.out).size)
         have r7 := Lib.hid ((r6.out).below hb (r6.out).lt)
         have r7c0 := r7.out.c0
         have r7c1 := r7.out.c1
         have r7f0 := r7.out.fz 0
         have r7f1 := r7.out.fz 1
         have r7l := r7.out.lt
         clear r6c0 r6c1 r6f0 r6f1
         clear hb)
      | (go_at_call 27; ((with_reducible refine ((HNx _).out).mono ?_); rintro e w8 ⟨rfl, hb⟩)
         have HB8 := Lib.hid (below_up (HB7.out) hb (HB7.out).size)
         have r8 := Lib.hid ((r7.out).below hb (r7.out).lt)
         have r8c0 := r8.out.c0
         have r8c1 := r8.out.c1
         have r8f0 := r8.out.fz 0
         have r8f1 := r8.out.fz 1
         have r8l := r8.out.lt
         clear r7c0 r7c1 r7f0 r7f1
         clear hb)
      | (go_at_call 13; ((with_reducible refine ((HP _).out).mono ?_); rintro e w9 ⟨rfl, hb⟩)
         have HB9 := Lib.hid (below_up (HB8.out) hb (HB8.out).size)
         have r9 := Lib.hid ((r8.out).below hb (r8.out).lt)
         have r9c0 := r9.out.c0
         have r9c1 := r9.out.c1
         have r9f0 := r9.out.fz 0
         have r9f1 := r9.out.fz 1
         have r9l := r9.out.lt
         clear r8c0 r8c1 r8f0 r8f1
         have HC9p := Lib.hid ((HB9.out).alloc (HB9.out).size (.cells #[.int .i64 (c : Int), .int .u64 ((M.put 0 k : Nat) : Int)] 26))
         have p9a := Lib.hid (at_new w9 c (M.put 0 k))
         clear hb)
      | (go_at_call 26; ((with_reducible refine ((HPh _).out).mono ?_); rintro e w10 ⟨rfl, hb⟩)
         have HB10 := Lib.hid (below_up (HC9p.out) hb (HC9p.out).size)
         have r10 := Lib.hid (((r9.out).alloc _).below hb ((r9.out).alloc _).lt)
         have r10c0 := r10.out.c0
         have r10c1 := r10.out.c1
         have r10f0 := r10.out.fz 0
         have r10f1 := r10.out.fz 1
         have r10l := r10.out.lt
         have p10 := Lib.hid ((p9a.out).below hb (p9a.out).lt)
         have p10c0 := p10.out.c0
         have p10c1 := p10.out.c1
         have p10f0 := p10.out.fz 0
         have p10f1 := p10.out.fz 1
         have p10l := p10.out.lt
         clear r9c0 r9c1 r9f0 r9f1
         clear hb)
      | (go_at_call 28; ((with_reducible refine ((HPc _).out).mono ?_); rintro e w11 ⟨rfl, hb⟩)
         have HB11 := Lib.hid (below_up (HB10.out) hb (HB10.out).size)
         have r11 := Lib.hid ((r10.out).below hb (r10.out).lt)
         have r11c0 := r11.out.c0
         have r11c1 := r11.out.c1
         have r11f0 := r11.out.fz 0
         have r11f1 := r11.out.fz 1
         have r11l := r11.out.lt
         have p11 := Lib.hid ((p10.out).below hb (p10.out).lt)
         have p11c0 := p11.out.c0
         have p11c1 := p11.out.c1
         have p11f0 := p11.out.fz 0
         have p11f1 := p11.out.fz 1
         have p11l := p11.out.lt
         clear r10c0 r10c1 r10f0 r10f1 p10c0 p10c1 p10f0 p10f1
         clear hb)
      | (go_at_call 26; ((with_reducible refine ((HHs _).out).mono ?_); rintro e w12 ⟨rfl, hb⟩)
         have HB12 := Lib.hid (below_up (HB11.out) hb (HB11.out).size)
         have r12 := Lib.hid ((r11.out).below hb (r11.out).lt)
         have r12c0 := r12.out.c0
         have r12c1 := r12.out.c1
         have r12f0 := r12.out.fz 0
         have r12f1 := r12.out.fz 1
         have r12l := r12.out.lt
         have p12 := Lib.hid ((p11.out).below hb (p11.out).lt)
         have p12c0 := p12.out.c0
         have p12c1 := p12.out.c1
         have p12f0 := p12.out.fz 0
         have p12f1 := p12.out.fz 1
         have p12l := p12.out.lt
         clear r11c0 r11c1 r11f0 r11f1 p11c0 p11c1 p11f0 p11f1
         clear hb))
    go_ret
    exact ⟨rfl, HB12.out⟩
  · have hout := hin
    have HP : ∀ w, Hid (Calls Try.prog 13 #[.agg #[.int .i64 (c : Int), .int .u64 0], .int .i64 x1] w fun e w' => e = .returned (.tuple #[.agg #[.int .i64 0, .int .u64 0], .int .i64 2]) ∧ Below w.heap.size w w') := fun w => Lib.hid (by
      have := put_any c 0 x1 w (by omega) (Nat.pow_pos (by omega))
      unfold putN putM putE at this
      rw [if_neg hout, if_neg hout, if_neg hout] at this
      exact this)
    by_cases hx : 0 ≤ x1
    · have hx2 : decide (x1 < (c : Int)) = false := by simp; omega
      clear hin hout
      go_enter Try.func9, Try.ntmps9
      go_wp2_with (first
        | (go_at_call 10; ((with_reducible refine (awake_any _).mono ?_); rintro e w1 ⟨rfl, hb⟩)
           have HB1 := Lib.hid hb
           clear hb)
        | (go_at_call 11; ((with_reducible refine ((HN _).out).mono ?_); rintro e w2 ⟨rfl, hb⟩)
           have HB2 := Lib.hid (below_up (HB1.out) hb (HB1.out).size)
           have HC2r := Lib.hid ((HB2.out).alloc (HB2.out).size (.cells #[.int .i64 (c : Int), .int .u64 ((0 : Nat) : Int)] 26))
           have r2a := Lib.hid (at_new w2 c 0)
           clear hb)
        | (go_at_call 25; ((with_reducible refine ((HL _).out).mono ?_); rintro e w3 ⟨rfl, hb⟩)
           have HB3 := Lib.hid (below_up (HC2r.out) hb (HC2r.out).size)
           have r3 := Lib.hid ((r2a.out).below hb (r2a.out).lt)
           have r3c0 := r3.out.c0
           have r3c1 := r3.out.c1
           have r3f0 := r3.out.fz 0
           have r3f1 := r3.out.fz 1
           have r3l := r3.out.lt
           clear hb)
        | (go_at_call 28; ((with_reducible refine ((HCt _).out).mono ?_); rintro e w4 ⟨rfl, hb⟩)
           have HB4 := Lib.hid (below_up (HB3.out) hb (HB3.out).size)
           have r4 := Lib.hid ((r3.out).below hb (r3.out).lt)
           have r4c0 := r4.out.c0
           have r4c1 := r4.out.c1
           have r4f0 := r4.out.fz 0
           have r4f1 := r4.out.fz 1
           have r4l := r4.out.lt
           clear r3c0 r3c1 r3f0 r3f1
           clear hb)
        | (go_at_call 24; ((with_reducible refine ((HAl _).out).mono ?_); rintro e w5 ⟨⟨a5, cap5, rfl⟩, hb⟩)
           have HB5 := Lib.hid (below_up (HB4.out) hb (HB4.out).size)
           have r5 := Lib.hid ((r4.out).below hb (r4.out).lt)
           have r5c0 := r5.out.c0
           have r5c1 := r5.out.c1
           have r5f0 := r5.out.fz 0
           have r5f1 := r5.out.fz 1
           have r5l := r5.out.lt
           clear r4c0 r4c1 r4f0 r4f1
           clear hb)
        | (go_at_call 26; ((with_reducible refine ((HHs _).out).mono ?_); rintro e w6 ⟨rfl, hb⟩)
           have HB6 := Lib.hid (below_up (HB5.out) hb (HB5.out).size)
           have r6 := Lib.hid ((r5.out).below hb (r5.out).lt)
           have r6c0 := r6.out.c0
           have r6c1 := r6.out.c1
           have r6f0 := r6.out.fz 0
           have r6f1 := r6.out.fz 1
           have r6l := r6.out.lt
           clear r5c0 r5c1 r5f0 r5f1
           clear hb)
        | (go_at_call 22; ((with_reducible refine ((HTx _).out).mono ?_); rintro e w7 ⟨rfl, hb⟩)
           have HB7 := Lib.hid (below_up (HB6.out) hb (HB6.out).size)
           have r7 := Lib.hid ((r6.out).below hb (r6.out).lt)
           have r7c0 := r7.out.c0
           have r7c1 := r7.out.c1
           have r7f0 := r7.out.fz 0
           have r7f1 := r7.out.fz 1
           have r7l := r7.out.lt
           clear r6c0 r6c1 r6f0 r6f1
           clear hb)
        | (go_at_call 27; ((with_reducible refine ((HNx _).out).mono ?_); rintro e w8 ⟨rfl, hb⟩)
           have HB8 := Lib.hid (below_up (HB7.out) hb (HB7.out).size)
           have r8 := Lib.hid ((r7.out).below hb (r7.out).lt)
           have r8c0 := r8.out.c0
           have r8c1 := r8.out.c1
           have r8f0 := r8.out.fz 0
           have r8f1 := r8.out.fz 1
           have r8l := r8.out.lt
           clear r7c0 r7c1 r7f0 r7f1
           clear hb)
        | (go_at_call 13; ((with_reducible refine ((HP _).out).mono ?_); rintro e w9 ⟨rfl, hb⟩)
           have HB9 := Lib.hid (below_up (HB8.out) hb (HB8.out).size)
           have r9 := Lib.hid ((r8.out).below hb (r8.out).lt)
           have r9c0 := r9.out.c0
           have r9c1 := r9.out.c1
           have r9f0 := r9.out.fz 0
           have r9f1 := r9.out.fz 1
           have r9l := r9.out.lt
           clear r8c0 r8c1 r8f0 r8f1
           have HC9p := Lib.hid ((HB9.out).alloc (HB9.out).size (.cells #[.int .i64 ((0 : Nat) : Int), .int .u64 ((0 : Nat) : Int)] 26))
           have p9a := Lib.hid (at_new w9 0 0)
           clear hb))
      go_ret
      exact ⟨rfl, HC9p.out⟩
    · have hx2 : decide (0 ≤ x1) = false := by simpa using hx
      clear hin hout
      go_enter Try.func9, Try.ntmps9
      go_wp2_with (first
        | (go_at_call 10; ((with_reducible refine (awake_any _).mono ?_); rintro e w1 ⟨rfl, hb⟩)
           have HB1 := Lib.hid hb
           clear hb)
        | (go_at_call 11; ((with_reducible refine ((HN _).out).mono ?_); rintro e w2 ⟨rfl, hb⟩)
           have HB2 := Lib.hid (below_up (HB1.out) hb (HB1.out).size)
           have HC2r := Lib.hid ((HB2.out).alloc (HB2.out).size (.cells #[.int .i64 (c : Int), .int .u64 ((0 : Nat) : Int)] 26))
           have r2a := Lib.hid (at_new w2 c 0)
           clear hb)
        | (go_at_call 25; ((with_reducible refine ((HL _).out).mono ?_); rintro e w3 ⟨rfl, hb⟩)
           have HB3 := Lib.hid (below_up (HC2r.out) hb (HC2r.out).size)
           have r3 := Lib.hid ((r2a.out).below hb (r2a.out).lt)
           have r3c0 := r3.out.c0
           have r3c1 := r3.out.c1
           have r3f0 := r3.out.fz 0
           have r3f1 := r3.out.fz 1
           have r3l := r3.out.lt
           clear hb)
        | (go_at_call 28; ((with_reducible refine ((HCt _).out).mono ?_); rintro e w4 ⟨rfl, hb⟩)
           have HB4 := Lib.hid (below_up (HB3.out) hb (HB3.out).size)
           have r4 := Lib.hid ((r3.out).below hb (r3.out).lt)
           have r4c0 := r4.out.c0
           have r4c1 := r4.out.c1
           have r4f0 := r4.out.fz 0
           have r4f1 := r4.out.fz 1
           have r4l := r4.out.lt
           clear r3c0 r3c1 r3f0 r3f1
           clear hb)
        | (go_at_call 24; ((with_reducible refine ((HAl _).out).mono ?_); rintro e w5 ⟨⟨a5, cap5, rfl⟩, hb⟩)
           have HB5 := Lib.hid (below_up (HB4.out) hb (HB4.out).size)
           have r5 := Lib.hid ((r4.out).below hb (r4.out).lt)
           have r5c0 := r5.out.c0
           have r5c1 := r5.out.c1
           have r5f0 := r5.out.fz 0
           have r5f1 := r5.out.fz 1
           have r5l := r5.out.lt
           clear r4c0 r4c1 r4f0 r4f1
           clear hb)
        | (go_at_call 26; ((with_reducible refine ((HHs _).out).mono ?_); rintro e w6 ⟨rfl, hb⟩)
           have HB6 := Lib.hid (below_up (HB5.out) hb (HB5.out).size)
           have r6 := Lib.hid ((r5.out).below hb (r5.out).lt)
           have r6c0 := r6.out.c0
           have r6c1 := r6.out.c1
           have r6f0 := r6.out.fz 0
           have r6f1 := r6.out.fz 1
           have r6l := r6.out.lt
           clear r5c0 r5c1 r5f0 r5f1
           clear hb)
        | (go_at_call 22; ((with_reducible refine ((HTx _).out).mono ?_); rintro e w7 ⟨rfl, hb⟩)
           have HB7 := Lib.hid (below_up (HB6.out) hb (HB6.out).size)
           have r7 := Lib.hid ((r6.out).below hb (r6.out).lt)
           have r7c0 := r7.out.c0
           have r7c1 := r7.out.c1
           have r7f0 := r7.out.fz 0
           have r7f1 := r7.out.fz 1
           have r7l := r7.out.lt
           clear r6c0 r6c1 r6f0 r6f1
           clear hb)
        | (go_at_call 27; ((with_reducible refine ((HNx _).out).mono ?_); rintro e w8 ⟨rfl, hb⟩)
           have HB8 := Lib.hid (below_up (HB7.out) hb (HB7.out).size)
           have r8 := Lib.hid ((r7.out).below hb (r7.out).lt)
           have r8c0 := r8.out.c0
           have r8c1 := r8.out.c1
           have r8f0 := r8.out.fz 0
           have r8f1 := r8.out.fz 1
           have r8l := r8.out.lt
           clear r7c0 r7c1 r7f0 r7f1
           clear hb)
        | (go_at_call 13; ((with_reducible refine ((HP _).out).mono ?_); rintro e w9 ⟨rfl, hb⟩)
           have HB9 := Lib.hid (below_up (HB8.out) hb (HB8.out).size)
           have r9 := Lib.hid ((r8.out).below hb (r8.out).lt)
           have r9c0 := r9.out.c0
           have r9c1 := r9.out.c1
           have r9f0 := r9.out.fz 0
           have r9f1 := r9.out.fz 1
           have r9l := r9.out.lt
           clear r8c0 r8c1 r8f0 r8f1
           have HC9p := Lib.hid ((HB9.out).alloc (HB9.out).size (.cells #[.int .i64 ((0 : Nat) : Int), .int .u64 ((0 : Nat) : Int)] 26))
           have p9a := Lib.hid (at_new w9 0 0)
           clear hb))
      go_ret
      exact ⟨rfl, HC9p.out⟩

set_option maxRecDepth 100000 in
theorem lifted (os : Os) (started : os.Started) (H : Type) (enc : TypeId × Value → H) :
    ReturnsInHanded {} Try.checked os 9 .any (Rows.bitsLenSpec.pre6 enc Try.prog Try.f9 Rows.bitsLenRow.domain false) (Rows.bitsLenSpec.post enc Try.prog Try.f9 false true false false) := by
  refine returnsInHanded_of_change (C := Try.checked) own started (by kernel_rfl) Try.func9
    (ChangeSpec.witness6 (enc := enc) (C := Try.checked) false ⟨#[], #[.int .i64 0, .int .i64 0], []⟩ 8 (by kernel_rfl) (by kernel_rfl) (by kernel_rfl) (by kernel_rfl)) ?_
  intro W base args ds gs before hval0 hW hcnd _
  have hval : ∀ (j : Nat) t v, Try.f9.params[j]? = some t → args[j]? = some v → Value.okWide Try.prog W .any base t v := hval0
  have hW' := hW
  obtain ⟨p, q, hA0, hV, rfl, hfz, hnd⟩ := hW
  have hA : DataW.TrodAll enc Try.prog W 0 (fun _ => true) true Try.f9.params.toList args.toList ds p := hA0
  rw [Try.params9] at hA hval
  obtain ⟨v0, vs0, d0, ds0, p0, q0, hargs, rfl, rfl, h0, r0'⟩ := trodAll_cons hA
  obtain ⟨v1, vs1, d1, ds1, p1, q1, rfl, rfl, rfl, h1, r1'⟩ := trodAll_cons r0'
  obtain ⟨rfl, rfl, rfl⟩ := trodAll_nil r1'
  obtain rfl : args = #[v0, v1] := by cases args; simp_all
  obtain ⟨rfl, rfl⟩ := trodVars_none hV
  obtain ⟨x0, rfl, rfl, rfl, w0⟩ := open_int Try.underlying3 (hval 0 3 v0 rfl rfl) h0
  obtain ⟨x1, rfl, rfl, rfl, w1⟩ := open_int Try.underlying3 (hval 1 3 v1 rfl rfl) h1
  clear hA0 hval0
  refine (walk x0 x1 W w0 w1).mono fun e W' ⟨he, bel⟩ => ?_
  subst he
  exact ⟨_, rfl, _, _, _, [], _, [], hW', trodAll_mk1 (shut_bool Try.underlying4 _), (trodAll_cons_mk (shut_int Try.underlying3 w0) (trodAll_cons_mk (shut_int Try.underlying3 w1) trodAll_mk0)), rfl, bel.frame _, fun h => by cases h⟩

theorem over : Rows.bitsLenRow.holds Try.pinned (OpenSpec.ofChange Rows.bitsLenSpec) :=
  OpenClaim.holds_of_wide 9 Try.f9 rfl rfl rfl rfl rfl rfl rfl ⟨rfl, rfl, rfl, rfl, rfl⟩ rfl rfl rfl rfl rfl (by kernel_rfl) Try.func9 (by kernel_rfl)
    (of_decide_eq_true (by kernel_rfl)) (by unfold Func.isWrapper; first | (rw [if_pos (by decide +kernel)]; kernel_rfl) | (rw [if_neg (by decide +kernel)]; exact ⟨rfl, rfl⟩))
    (fun os started H enc _ => lifted os started H enc)

/-- the statement -/
theorem proved : Rows.BitsLenSaid := over
#print axioms proved
end Go.Proofs.Ytcdihcloihnpkaa.bitsLen
