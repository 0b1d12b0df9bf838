/-
  PROVED: what is marked in one of two rows is marked in both together, and nothing else, in whatever order. CONDITIONS: none (any length, any places).
-/
import Derived.Test.YtcdihcloihnpkaaBLaw
namespace Go.Proofs.Ytcdihcloihnpkaa.bitsOr
open Go.ChangeShapes Go.WideShapes Go.ChangeAt Go.RowKit Go.Joins B
open Go.ChangeMaps (open_string shut_string)
set_option linter.unusedVariables false
set_option linter.unusedSimpArgs false
set_option maxRecDepth 20000

theorem at_two (w : World) (o : Obj) (n m : Nat) : At ((w.alloc o).alloc (.cells #[.int .i64 (n : Int), .int .u64 (m : Int)] 26)) (w.heap.size + 1) n m := by
  have := at_new (w.alloc o) n m
  rw [size1] at this
  exact this
theorem below_self (B : Nat) (w : World) : Below B w w := Below.refl _ _
/-- a call that only makes memory, from whatever world behind w0 -/
theorem kp {f : Nat} {args : Array Value} {e0 : Ending} (w0 : World) (H : ∀ w, Hid (Calls Try.prog f args w fun e w' => e = e0 ∧ Below w.heap.size w w')) :
    Hid (∀ w, Below w0.heap.size w0 w → Calls Try.prog f args w fun e w' => e = e0 ∧ Below w0.heap.size w0 w') := Lib.hid fun w hw => (H w).out.mono (by
  rintro e w' ⟨rfl, hb⟩
  exact ⟨rfl, below_up hw hb hw.size⟩)
theorem has_or (c m k : Nat) (j : Int) : has c (m ||| k) j = (has c m j || has c k j) := by
  unfold has
  rw [Nat.testBit_or]
  cases decide (0 ≤ j ∧ j < (c : Int)) <;> simp
theorem or_again (m k : Nat) : m ||| k ||| m = m ||| k := by
  refine M.same_bits fun j => ?_
  simp only [Nat.testBit_or]
  cases m.testBit j <;> cases k.testBit j <;> rfl

set_option maxHeartbeats 4000000 in
theorem walk (x0 : Int) (x1 : Int) (x2 : Int) (w : World) (w0 : (Lit.int .i64 x0).wf = true) (w1 : (Lit.int .u64 x1).wf = true) (w2 : (Lit.int .u64 x2).wf = true) :
    Calls Try.prog 6 #[.int .i64 x0, .int .u64 x1, .int .u64 x2] w fun e w' => e = .returned (.bool true) ∧ Below w.heap.size w w' := by
  obtain ⟨a, rfl, ha64⟩ := u64_nat w1
  obtain ⟨b, rfl, hb64⟩ := u64_nat w2
  have hc := M.len_le x0
  have HRa := fun w => Lib.hid (row_any x0 a w ha64)
  have HRb := fun w => Lib.hid (row_any x0 b w hb64)
  have HRo : ∀ w, Hid (Calls Try.prog 21 #[.int .i64 x0, .int .u64 (bits .or .u64 (a : Int) (b : Int))] w fun e w' => e = .returned (V (M.len x0) ((a % 2 ^ M.len x0) ||| (b % 2 ^ M.len x0))) ∧ Below w.heap.size w w') := fun w => Lib.hid (by
    have h1 : a ||| b < 2 ^ 64 := Nat.or_lt_two_pow ha64 hb64
    have h2 : bits .or .u64 (a : Int) (b : Int) = ((a ||| b : Nat) : Int) := u64_or_nat a b (by omega) (by omega)
    have := row_any x0 (a ||| b) w h1
    rw [Nat.or_mod_two_pow] at this
    rw [h2]
    exact this)
  unfold V at HRa HRb HRo
  generalize M.len x0 = c at *
  have hma : a % 2 ^ c < 2 ^ c := Nat.mod_lt _ (Nat.pow_pos (by omega))
  have hmb : b % 2 ^ c < 2 ^ c := Nat.mod_lt _ (Nat.pow_pos (by omega))
  generalize a % 2 ^ c = p at *
  generalize b % 2 ^ c = q at *
  have hmx : p ||| q < 2 ^ c := M.or_lt hma hmb
  have HO1 : ∀ w, Hid (Calls Try.prog 16 #[.agg #[.int .i64 (c : Int), .int .u64 (p : Int)], .agg #[.int .i64 (c : Int), .int .u64 (q : Int)]] w fun e w' => e = .returned (.tuple #[.agg #[.int .i64 (c : Int), .int .u64 ((p ||| q : Nat) : Int)], .int .i64 0]) ∧ Below w.heap.size w w') := fun w => Lib.hid (by
    have := or_any c p c q w hc hma hmb
    unfold orN B.orM orE at this
    rw [if_pos rfl, if_pos rfl, if_pos rfl] at this
    exact this)
  have HO2 : ∀ w, Hid (Calls Try.prog 16 #[.agg #[.int .i64 (c : Int), .int .u64 (q : Int)], .agg #[.int .i64 (c : Int), .int .u64 (p : Int)]] w fun e w' => e = .returned (.tuple #[.agg #[.int .i64 (c : Int), .int .u64 ((p ||| q : Nat) : Int)], .int .i64 0]) ∧ Below w.heap.size w w') := fun w => Lib.hid (by
    have := or_any c q c p w hc hmb hma
    unfold orN B.orM orE at this
    rw [if_pos rfl, if_pos rfl, if_pos rfl, Nat.or_comm q p] at this
    exact this)
  have HO3 : ∀ w, Hid (Calls Try.prog 16 #[.agg #[.int .i64 (c : Int), .int .u64 ((p ||| q : Nat) : Int)], .agg #[.int .i64 (c : Int), .int .u64 (p : Int)]] w fun e w' => e = .returned (.tuple #[.agg #[.int .i64 (c : Int), .int .u64 ((p ||| q : Nat) : Int)], .int .i64 0]) ∧ Below w.heap.size w w') := fun w => Lib.hid (by
    have := or_any c (p ||| q) c p w hc hmx hma
    unfold orN B.orM orE at this
    rw [if_pos rfl, if_pos rfl, if_pos rfl, or_again] at this
    exact this)
  have HHp := fun (j : Int) w => Lib.hid (has_any c p j w hc hma)
  have HHq := fun (j : Int) w => Lib.hid (has_any c q j w hc hmb)
  have HHx : ∀ (j : Int) w, Hid (Calls Try.prog 26 #[.agg #[.int .i64 (c : Int), .int .u64 ((p ||| q : Nat) : Int)], .int .i64 j] w fun e w' => e = .returned (.bool (has c p j || has c q j)) ∧ Below w.heap.size w w') := fun j w => Lib.hid (by
    have := has_any c (p ||| q) j w hc hmx
    rw [has_or] at this
    exact this)
  have HT : ∀ w, Hid (Calls Try.prog 22 #[.agg #[.int .i64 (c : Int), .int .u64 ((p ||| q : Nat) : Int)]] w fun e w' => e = .returned (.string (str (M.txt c (p ||| q)))) ∧ Below w.heap.size w w') := fun w => Lib.hid (text_any c (p ||| q) w hc hmx)
  unfold V at HHp HHq
  generalize str (M.txt c (p ||| q)) = T at *
  generalize p ||| q = x at *
  clear w0 w1 w2 ha64 hb64 hma hmb hmx
  go_enter Try.func6, Try.ntmps6
  go_wp2_with (first
    | (go_at_call 10; ((with_reducible refine (awake_any _).mono ?_); rintro e w1 ⟨rfl, hb⟩)
       have HB1 := Lib.hid hb
       clear hb)
    | (go_at_call 21; ((with_reducible refine ((HRa _).out).mono ?_); rintro e w2 ⟨rfl, hb⟩)
       have HB2 := Lib.hid (below_up (HB1.out) hb (HB1.out).size)
       clear hb)
    | (go_at_call 21; ((with_reducible refine ((HRb _).out).mono ?_); rintro e w3 ⟨rfl, hb⟩)
       have HB3 := Lib.hid (below_up (HB2.out) hb (HB2.out).size)
       have HC3r := Lib.hid ((HB3.out).alloc (HB3.out).size (.cells #[.int .i64 (c : Int), .int .u64 (p : Int)] 26))
       have r3a := Lib.hid (at_new w3 c p)
       have HC3s := Lib.hid ((HC3r.out).alloc (HC3r.out).size (.cells #[.int .i64 (c : Int), .int .u64 (q : Int)] 26))
       have s3a := Lib.hid (at_two w3 (.cells #[.int .i64 (c : Int), .int .u64 (p : Int)] 26) c q)
       clear hb)
    | (go_at_call 16; ((with_reducible refine ((HO1 _).out).mono ?_); rintro e w4 ⟨rfl, hb⟩)
       have HB4 := Lib.hid (below_up (HC3s.out) hb (HC3s.out).size)
       have r4 := Lib.hid (((r3a.out).alloc _).below hb ((r3a.out).alloc _).lt)
       have r4c0 := r4.out.c0
       have r4c1 := r4.out.c1
       have r4f0 := r4.out.fz 0
       have r4f1 := r4.out.fz 1
       have r4l := r4.out.lt
       have s4 := Lib.hid ((s3a.out).below hb (s3a.out).lt)
       have s4c0 := s4.out.c0
       have s4c1 := s4.out.c1
       have s4f0 := s4.out.fz 0
       have s4f1 := s4.out.fz 1
       have s4l := s4.out.lt
       have HC4x := Lib.hid ((HB4.out).alloc (HB4.out).size (.cells #[.int .i64 (c : Int), .int .u64 (x : Int)] 26))
       have x4a := Lib.hid (at_new w4 c x)
       clear hb)
    | (go_at_call 16; ((with_reducible refine ((HO2 _).out).mono ?_); rintro e w5 ⟨rfl, hb⟩)
       have HB5 := Lib.hid (below_up (HC4x.out) hb (HC4x.out).size)
       have r5 := Lib.hid (((r4.out).alloc _).below hb ((r4.out).alloc _).lt)
       have r5c0 := r5.out.c0
       have r5c1 := r5.out.c1
       have r5f0 := r5.out.fz 0
       have r5f1 := r5.out.fz 1
       have r5l := r5.out.lt
       have s5 := Lib.hid (((s4.out).alloc _).below hb ((s4.out).alloc _).lt)
       have s5c0 := s5.out.c0
       have s5c1 := s5.out.c1
       have s5f0 := s5.out.fz 0
       have s5f1 := s5.out.fz 1
       have s5l := s5.out.lt
       have x5 := Lib.hid ((x4a.out).below hb (x4a.out).lt)
       have x5c0 := x5.out.c0
       have x5c1 := x5.out.c1
       have x5f0 := x5.out.fz 0
       have x5f1 := x5.out.fz 1
       have x5l := x5.out.lt
       clear r4c0 r4c1 r4f0 r4f1 s4c0 s4c1 s4f0 s4f1
       have HC5y := Lib.hid ((HB5.out).alloc (HB5.out).size (.cells #[.int .i64 (c : Int), .int .u64 (x : Int)] 26))
       have y5a := Lib.hid (at_new w5 c x)
       clear hb))
  have r6 := Lib.hid ((r5.out).alloc (.cells #[.int .i64 (c : Int), .int .u64 (x : Int)] 26))
  have s6 := Lib.hid ((s5.out).alloc (.cells #[.int .i64 (c : Int), .int .u64 (x : Int)] 26))
  have x6 := Lib.hid ((x5.out).alloc (.cells #[.int .i64 (c : Int), .int .u64 (x : Int)] 26))
  have y6 := Lib.hid y5a.out
  have HB6 := Lib.hid HC5y.out
  have hs6 := HC5y.out.size
  clear HC5y
  generalize w5.alloc (.cells #[.int .i64 (c : Int), .int .u64 (x : Int)] 26) = w6 at *
  have KT := kp w6 HT
  have KR := kp w6 HRo
  have q0z := x6.out.c0
  have q0y := x6.out.c1
  have q1z := y6.out.c0
  have q1y := y6.out.c1
  have HK : Hid (∀ w', Below w6.heap.size w6 w' → (w'.cell? ⟨w4.heap.size, 0, none⟩ = some (.int .i64 (c : Int)) ∧ w'.cell? ⟨w4.heap.size, 1, none⟩ = some (.int .u64 (x : Int)) ∧ w'.cell? ⟨w5.heap.size, 0, none⟩ = some (.int .i64 (c : Int)) ∧ w'.cell? ⟨w5.heap.size, 1, none⟩ = some (.int .u64 (x : Int)))) := Lib.hid fun w' hb => by
    have a0 := (x6.out).below hb (x6.out).lt
    have a1 := (y6.out).below hb (y6.out).lt
    exact ⟨a0.c0, a0.c1, a1.c0, a1.c1⟩
  have hb0 := below_self w6.heap.size w6
  go_region_held3 (fun w' => w'.cell? ⟨w4.heap.size, 0, none⟩ = some (.int .i64 (c : Int)) ∧ w'.cell? ⟨w4.heap.size, 1, none⟩ = some (.int .u64 (x : Int)) ∧ w'.cell? ⟨w5.heap.size, 0, none⟩ = some (.int .i64 (c : Int)) ∧ w'.cell? ⟨w5.heap.size, 1, none⟩ = some (.int .u64 (x : Int)))
    (first | exact HK.out _ (by assumption) | exact HK.out _ (Below.drew (by assumption)))
    (first
      | (go_at_call 22; with_reducible refine (KT.out _ (by first | assumption | exact Below.drew (by assumption))).mono ?_; rintro e wl ⟨rfl, hl⟩)
      | (go_at_call 21; with_reducible refine (KR.out _ (by first | assumption | exact Below.drew (by assumption))).mono ?_; rintro e wl ⟨rfl, hl⟩))
  have HB7 := Lib.hid (below_up HB6.out hl hs6)
  have r7 := Lib.hid (r6.out.below hl r6.out.lt)
  have s7 := Lib.hid (s6.out.below hl s6.out.lt)
  have x7 := Lib.hid (x6.out.below hl x6.out.lt)
  clear hl HK KT KR
  generalize hR : w3.heap.size = R at *
  generalize hX : w4.heap.size = X at *
  clear hR hX
  clear HRa HRb HRo HO1 HO2 HB1 HB2 HB3 HB4 HB5 HB6 HC3r HC3s HC4x r3a s3a r4 s4 x4a r5 s5 x5 y5a r6 s6 x6 y6 q0z q0y q1z q1y
  clear r5c0 r5c1 r5f0 r5f1 s5c0 s5c1 s5f0 s5f1 x5c0 x5c1 x5f0 x5f1 hb0
  go_wp2
  go_loopw [13] (fun t wr => ∃ j : Int, -1 ≤ j ∧ j ≤ 65 ∧ t = .int .i64 j ∧ At wr R c p ∧ At wr (R + 1) c q ∧ At wr X c x ∧ Below w.heap.size w wr) (fun t _ => (65 - intOf t).toNat)
  case atStart => exact ⟨-1, by omega, by omega, rfl, r7.out, s7.out, x7.out, HB7.out⟩
  case round =>
    obtain ⟨j, hj1, hj2, rfl, gr, gs, gx, gb⟩ := hrel
    have Gr := Lib.hid gr
    have Gs := Lib.hid gs
    have Gx := Lib.hid gx
    have Gb := Lib.hid gb
    have hsb := gb.size
    clear gr gs gx gb r7 s7 x7 HB7
    by_cases hj : j ≤ 64
    · have hx := HHx j
      have hp := HHp j
      have hq := HHq j
      clear HHx HHp HHq HO3 HT
      generalize has c p j = u at *
      generalize has c q j = v at *
      have g0 := Gr.out.c0
      cases u with
      | true =>
        simp only [Bool.true_or] at hx
        have KX := kp wr hx
        have KP := kp wr hp
        clear hx hp hq
        go_wp2_with fail
        have HK : Hid (∀ w', Below wr.heap.size wr w' → (w'.cell? ⟨X, 0, none⟩ = some (.int .i64 (c : Int)) ∧ w'.cell? ⟨X, 1, none⟩ = some (.int .u64 (x : Int)) ∧ w'.cell? ⟨R, 0, none⟩ = some (.int .i64 (c : Int)) ∧ w'.cell? ⟨R, 1, none⟩ = some (.int .u64 (p : Int)) ∧ w'.cell? ⟨(R + 1), 0, none⟩ = some (.int .i64 (c : Int)) ∧ w'.cell? ⟨(R + 1), 1, none⟩ = some (.int .u64 (q : Int)))) := Lib.hid fun w' hb => by
          have a0 := (Gx.out).below hb (Gx.out).lt
          have a1 := (Gr.out).below hb (Gr.out).lt
          have a2 := (Gs.out).below hb (Gs.out).lt
          exact ⟨a0.c0, a0.c1, a1.c0, a1.c1, a2.c0, a2.c1⟩
        have hb0 := Below.drew (below_self wr.heap.size wr)
        refine wp_region_noPanic ?_
        refine wp_region_held_drew (S := fun w' => w'.cell? ⟨X, 0, none⟩ = some (.int .i64 (c : Int)) ∧ w'.cell? ⟨X, 1, none⟩ = some (.int .u64 (x : Int)) ∧ w'.cell? ⟨R, 0, none⟩ = some (.int .i64 (c : Int)) ∧ w'.cell? ⟨R, 1, none⟩ = some (.int .u64 (p : Int)) ∧ w'.cell? ⟨(R + 1), 0, none⟩ = some (.int .i64 (c : Int)) ∧ w'.cell? ⟨(R + 1), 1, none⟩ = some (.int .u64 (q : Int))) (by kernel_rfl) (HK.out _ hb0) (fun hHeld => ?_)
        refine wpAnyH_take (i := 0) (v := ?_) rfl (by kernel_rfl) (by kernel_rfl) (by kernel_rfl) (fun _ _ _ h => h) (Or.inl ⟨by rfl, ?_⟩) hHeld ?_
        rotate_left 1
        · (intro w hSw; (try dsimp only at hSw); go_simp; try with_reducible rfl)
        try simp only [Act.put, List.setIfInBounds_toArray, List.set_cons_zero, List.set_cons_succ]
        refine wpAnyH_take (i := 1) (v := ?_) rfl (by kernel_rfl) (by kernel_rfl) (by kernel_rfl) (fun _ _ _ h => h) (Or.inl ⟨by rfl, ?_⟩) hHeld ?_
        rotate_left 1
        · (intro w hSw; (try dsimp only at hSw); go_simp; try with_reducible rfl)
        try simp only [Act.put, List.setIfInBounds_toArray, List.set_cons_zero, List.set_cons_succ]
        refine wpAnyH_take (i := 3) (v := ?_) rfl (by kernel_rfl) (by kernel_rfl) (by kernel_rfl) (fun _ _ _ h => h) (Or.inl ⟨by rfl, ?_⟩) hHeld ?_
        rotate_left 1
        · (intro w hSw; (try dsimp only at hSw); go_simp; try with_reducible rfl)
        try simp only [Act.put, List.setIfInBounds_toArray, List.set_cons_zero, List.set_cons_succ]
        refine wpAnyH_take (i := 4) (v := ?_) rfl (by kernel_rfl) (by kernel_rfl) (by kernel_rfl) (fun _ _ _ h => h) (Or.inl ⟨by rfl, ?_⟩) hHeld ?_
        rotate_left 1
        · (intro w hSw; (try dsimp only at hSw); go_simp; try with_reducible rfl)
        try simp only [Act.put, List.setIfInBounds_toArray, List.set_cons_zero, List.set_cons_succ]
        refine wpAnyH_ready (rs := [2]) (by kernel_rfl) (by simp) ?_
        refine AllReadyH.cons rfl (fun K hK => ?_) AllReadyH.nil
        go_simp
        with_reducible refine (KX.out _ hb0).mono ?_
        rintro e wl ⟨rfl, hl⟩
        refine hK.out _ _ (HK.out _ hl) (fun hHeld => ?_)
        clear hK K
        try simp only [Act.put, List.setIfInBounds_toArray, List.set_cons_zero, List.set_cons_succ]
        replace hb0 := hl
        refine wpAnyH_ready (rs := [5]) (by kernel_rfl) (by simp) ?_
        refine AllReadyH.cons rfl (fun K hK => ?_) AllReadyH.nil
        go_simp
        with_reducible refine (KP.out _ hb0).mono ?_
        rintro e wl ⟨rfl, hl⟩
        refine hK.out _ _ (HK.out _ hl) (fun hHeld => ?_)
        clear hK K
        try simp only [Act.put, List.setIfInBounds_toArray, List.set_cons_zero, List.set_cons_succ]
        replace hb0 := hl
        refine wpAnyH_take (i := 6) (v := ?_) rfl (by kernel_rfl) (by kernel_rfl) (by kernel_rfl) (fun _ _ _ h => h) (Or.inl ⟨by rfl, ?_⟩) hHeld ?_
        rotate_left 1
        · (intro w hSw; (try dsimp only at hSw); go_simp; try with_reducible rfl)
        try simp only [Act.put, List.setIfInBounds_toArray, List.set_cons_zero, List.set_cons_succ]
        refine wpAnyH_take (i := 7) (v := undef) rfl (by kernel_rfl) (by kernel_rfl) (by kernel_rfl) (fun _ _ _ h => h) (Or.inr ⟨by rfl, rfl⟩) hHeld ?_
        try simp only [Act.put, List.setIfInBounds_toArray, List.set_cons_zero, List.set_cons_succ]
        refine wpAnyH_take (i := 8) (v := undef) rfl (by kernel_rfl) (by kernel_rfl) (by kernel_rfl) (fun _ _ _ h => h) (Or.inr ⟨by rfl, rfl⟩) hHeld ?_
        try simp only [Act.put, List.setIfInBounds_toArray, List.set_cons_zero, List.set_cons_succ]
        refine wpAnyH_take (i := 9) (v := undef) rfl (by kernel_rfl) (by kernel_rfl) (by kernel_rfl) (fun _ _ _ h => h) (Or.inr ⟨by rfl, rfl⟩) hHeld ?_
        try simp only [Act.put, List.setIfInBounds_toArray, List.set_cons_zero, List.set_cons_succ]
        refine wpAnyH_take (i := 10) (v := ?_) rfl (by kernel_rfl) (by kernel_rfl) (by kernel_rfl) (fun _ _ _ h => h) (Or.inl ⟨by rfl, ?_⟩) hHeld ?_
        rotate_left 1
        · (intro w hSw; (try dsimp only at hSw); go_simp; try with_reducible rfl)
        try simp only [Act.put, List.setIfInBounds_toArray, List.set_cons_zero, List.set_cons_succ]
        refine wpAnyH_take (i := 11) (v := ?_) rfl (by kernel_rfl) (by kernel_rfl) (by kernel_rfl) (fun _ _ _ h => h) (Or.inl ⟨by rfl, ?_⟩) hHeld ?_
        rotate_left 1
        · (intro w hSw; (try dsimp only at hSw); go_simp; try with_reducible rfl)
        try simp only [Act.put, List.setIfInBounds_toArray, List.set_cons_zero, List.set_cons_succ]
        refine wpAnyH_done (by kernel_rfl) ?_ _
        refine NoPanic.normal ?_
        have Hl := Lib.hid hl
        clear hl
        go_wp2
        go_roundw
        case rel => exact ⟨j + 1, by omega, by omega, rfl, Gr.out.below Hl.out Gr.out.lt, Gs.out.below Hl.out Gs.out.lt, Gx.out.below Hl.out Gx.out.lt, below_up Gb.out Hl.out hsb⟩
        case measure => simp [intOf]; omega
      | false =>
        simp only [Bool.false_or] at hx
        have KX := kp wr hx
        have KP := kp wr hp
        have KQ := kp wr hq
        clear hx hp hq
        cases v
        all_goals go_wp2_with fail
        all_goals
          have q0z := Gx.out.c0
          have q0y := Gx.out.c1
          have q1z := Gr.out.c0
          have q1y := Gr.out.c1
          have q2z := Gs.out.c0
          have q2y := Gs.out.c1
          have HK : Hid (∀ w', Below wr.heap.size wr w' → (w'.cell? ⟨X, 0, none⟩ = some (.int .i64 (c : Int)) ∧ w'.cell? ⟨X, 1, none⟩ = some (.int .u64 (x : Int)) ∧ w'.cell? ⟨R, 0, none⟩ = some (.int .i64 (c : Int)) ∧ w'.cell? ⟨R, 1, none⟩ = some (.int .u64 (p : Int)) ∧ w'.cell? ⟨(R + 1), 0, none⟩ = some (.int .i64 (c : Int)) ∧ w'.cell? ⟨(R + 1), 1, none⟩ = some (.int .u64 (q : Int)))) := Lib.hid fun w' hb => by
            have a0 := (Gx.out).below hb (Gx.out).lt
            have a1 := (Gr.out).below hb (Gr.out).lt
            have a2 := (Gs.out).below hb (Gs.out).lt
            exact ⟨a0.c0, a0.c1, a1.c0, a1.c1, a2.c0, a2.c1⟩
          have hb0 := below_self wr.heap.size wr
          go_region_held3 (fun w' => w'.cell? ⟨X, 0, none⟩ = some (.int .i64 (c : Int)) ∧ w'.cell? ⟨X, 1, none⟩ = some (.int .u64 (x : Int)) ∧ w'.cell? ⟨R, 0, none⟩ = some (.int .i64 (c : Int)) ∧ w'.cell? ⟨R, 1, none⟩ = some (.int .u64 (p : Int)) ∧ w'.cell? ⟨(R + 1), 0, none⟩ = some (.int .i64 (c : Int)) ∧ w'.cell? ⟨(R + 1), 1, none⟩ = some (.int .u64 (q : Int)))
            (first | exact HK.out _ (by assumption) | exact HK.out _ (Below.drew (by assumption)))
            (first
              | (go_at_call 26; with_reducible refine (KX.out _ (by first | assumption | exact Below.drew (by assumption))).mono ?_; rintro e wl ⟨rfl, hl⟩)
              | (go_at_call 26; with_reducible refine (KP.out _ (by first | assumption | exact Below.drew (by assumption))).mono ?_; rintro e wl ⟨rfl, hl⟩)
              | (go_at_call 26; with_reducible refine (KQ.out _ (by first | assumption | exact Below.drew (by assumption))).mono ?_; rintro e wl ⟨rfl, hl⟩))
          have Hl := Lib.hid hl
          clear hl
          go_wp2
          go_roundw
          case rel => exact ⟨j + 1, by omega, by omega, rfl, Gr.out.below Hl.out Gr.out.lt, Gs.out.below Hl.out Gs.out.lt, Gx.out.below Hl.out Gx.out.lt, below_up Gb.out Hl.out hsb⟩
          case measure => simp [intOf]; omega
    · obtain rfl : j = 65 := by omega
      clear HHx HHp HHq
      have g0 := Gr.out.c0
      have g1 := Gr.out.c1
      have g2 := Gx.out.c0
      have g3 := Gx.out.c1
      go_wp2_with (first
        | (go_at_call 16; ((with_reducible refine ((HO3 _).out).mono ?_); rintro e w8 ⟨rfl, hb⟩)
           have HB8 := Lib.hid (below_up (Gb.out) hb (Gb.out).size)
           have r8 := Lib.hid ((Gr.out).below hb (Gr.out).lt)
           have r8c0 := r8.out.c0
           have r8c1 := r8.out.c1
           have r8f0 := r8.out.fz 0
           have r8f1 := r8.out.fz 1
           have r8l := r8.out.lt
           have x8 := Lib.hid ((Gx.out).below hb (Gx.out).lt)
           have x8c0 := x8.out.c0
           have x8c1 := x8.out.c1
           have x8f0 := x8.out.fz 0
           have x8f1 := x8.out.fz 1
           have x8l := x8.out.lt
           have HC8z := Lib.hid ((HB8.out).alloc (HB8.out).size (.cells #[.int .i64 (c : Int), .int .u64 (x : Int)] 26))
           have z8a := Lib.hid (at_new w8 c x)
           clear hb))
      have x9 := Lib.hid ((x8.out).alloc (.cells #[.int .i64 (c : Int), .int .u64 (x : Int)] 26))
      have z9 := Lib.hid z8a.out
      have HB9 := Lib.hid HC8z.out
      have hs9 := HC8z.out.size
      clear HC8z
      generalize w8.alloc (.cells #[.int .i64 (c : Int), .int .u64 (x : Int)] 26) = w9 at *
      have KT := kp w9 HT
      have q0z := x9.out.c0
      have q0y := x9.out.c1
      have q1z := z9.out.c0
      have q1y := z9.out.c1
      have HK : Hid (∀ w', Below w9.heap.size w9 w' → (w'.cell? ⟨X, 0, none⟩ = some (.int .i64 (c : Int)) ∧ w'.cell? ⟨X, 1, none⟩ = some (.int .u64 (x : Int)) ∧ w'.cell? ⟨w8.heap.size, 0, none⟩ = some (.int .i64 (c : Int)) ∧ w'.cell? ⟨w8.heap.size, 1, none⟩ = some (.int .u64 (x : Int)))) := Lib.hid fun w' hb => by
        have a0 := (x9.out).below hb (x9.out).lt
        have a1 := (z9.out).below hb (z9.out).lt
        exact ⟨a0.c0, a0.c1, a1.c0, a1.c1⟩
      have hb0 := below_self w9.heap.size w9
      go_region_held3 (fun w' => w'.cell? ⟨X, 0, none⟩ = some (.int .i64 (c : Int)) ∧ w'.cell? ⟨X, 1, none⟩ = some (.int .u64 (x : Int)) ∧ w'.cell? ⟨w8.heap.size, 0, none⟩ = some (.int .i64 (c : Int)) ∧ w'.cell? ⟨w8.heap.size, 1, none⟩ = some (.int .u64 (x : Int)))
        (first | exact HK.out _ (by assumption) | exact HK.out _ (Below.drew (by assumption)))
        (first
          | (go_at_call 22; with_reducible refine (KT.out _ (by first | assumption | exact Below.drew (by assumption))).mono ?_; rintro e wl ⟨rfl, hl⟩))
      have HB10 := Lib.hid (below_up HB9.out hl hs9)
      clear hl
      go_wp2
      go_ret
      exact ⟨rfl, HB10.out⟩

set_option maxRecDepth 100000 in
theorem lifted (os : Os) (started : os.Started) (H : Type) (enc : TypeId × Value → H) :
    ReturnsInHanded {} Try.checked os 6 .any (Rows.bitsOrSpec.pre6 enc Try.prog Try.f6 Rows.bitsOrRow.domain false) (Rows.bitsOrSpec.post enc Try.prog Try.f6 false true false false) := by
  refine returnsInHanded_of_change (C := Try.checked) own started (by kernel_rfl) Try.func6
    (ChangeSpec.witness6 (enc := enc) (C := Try.checked) false ⟨#[], #[.int .i64 0, .int .u64 0, .int .u64 0], []⟩ 8 (by kernel_rfl) (by kernel_rfl) (by kernel_rfl) (by kernel_rfl)) ?_
  intro W base args ds gs before hval0 hW hcnd _
  have hval : ∀ (j : Nat) t v, Try.f6.params[j]? = some t → args[j]? = some v → Value.okWide Try.prog W .any base t v := hval0
  have hW' := hW
  obtain ⟨p, q, hA0, hV, rfl, hfz, hnd⟩ := hW
  have hA : DataW.TrodAll enc Try.prog W 0 (fun _ => true) true Try.f6.params.toList args.toList ds p := hA0
  rw [Try.params6] at hA hval
  obtain ⟨v0, vs0, d0, ds0, p0, q0, hargs, rfl, rfl, h0, r0'⟩ := trodAll_cons hA
  obtain ⟨v1, vs1, d1, ds1, p1, q1, rfl, rfl, rfl, h1, r1'⟩ := trodAll_cons r0'
  obtain ⟨v2, vs2, d2, ds2, p2, q2, rfl, rfl, rfl, h2, r2'⟩ := trodAll_cons r1'
  obtain ⟨rfl, rfl, rfl⟩ := trodAll_nil r2'
  obtain rfl : args = #[v0, v1, v2] := by cases args; simp_all
  obtain ⟨rfl, rfl⟩ := trodVars_none hV
  obtain ⟨x0, rfl, rfl, rfl, w0⟩ := open_int Try.underlying3 (hval 0 3 v0 rfl rfl) h0
  obtain ⟨x1, rfl, rfl, rfl, w1⟩ := open_int Try.underlying24 (hval 1 24 v1 rfl rfl) h1
  obtain ⟨x2, rfl, rfl, rfl, w2⟩ := open_int Try.underlying24 (hval 2 24 v2 rfl rfl) h2
  clear hA0 hval0
  refine (walk x0 x1 x2 W w0 w1 w2).mono fun e W' ⟨he, bel⟩ => ?_
  subst he
  exact ⟨_, rfl, _, _, _, [], _, [], hW', trodAll_mk1 (shut_bool Try.underlying4 _), (trodAll_cons_mk (shut_int Try.underlying3 w0) (trodAll_cons_mk (shut_int Try.underlying24 w1) (trodAll_cons_mk (shut_int Try.underlying24 w2) trodAll_mk0))), rfl, bel.frame _, fun h => by cases h⟩

theorem over : Rows.bitsOrRow.holds Try.pinned (OpenSpec.ofChange Rows.bitsOrSpec) :=
  OpenClaim.holds_of_wide 6 Try.f6 rfl rfl rfl rfl rfl rfl rfl ⟨rfl, rfl, rfl, rfl, rfl⟩ rfl rfl rfl rfl rfl (by kernel_rfl) Try.func6 (by kernel_rfl)
    (of_decide_eq_true (by kernel_rfl)) (by unfold Func.isWrapper; first | (rw [if_pos (by decide +kernel)]; kernel_rfl) | (rw [if_neg (by decide +kernel)]; exact ⟨rfl, rfl⟩))
    (fun os started H enc _ => lifted os started H enc)

/-- the statement -/
theorem proved : Rows.BitsOrSaid := over
#print axioms proved
end Go.Proofs.Ytcdihcloihnpkaa.bitsOr
