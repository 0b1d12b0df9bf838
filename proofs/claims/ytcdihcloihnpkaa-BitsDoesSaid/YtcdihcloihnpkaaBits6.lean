/-
  The calls whose answers the document fixes.
-/
import Derived.Test.YtcdihcloihnpkaaBits5
namespace Go.Proofs.Ytcdihcloihnpkaa.B
open Go.RowKit
set_option linter.unusedVariables false
set_option linter.unusedSimpArgs false
set_option maxRecDepth 20000

theorem aw_new (w : World) : Calls Try.prog 11 #[.int .i64 10] w fun e w' => e = .returned (.agg #[.int .i64 10, .int .u64 0]) ∧ Below w.heap.size w w' := by
  have := new_any 10 w
  rw [show M.len 10 = 10 by decide] at this
  exact this
theorem aw_put9 (w : World) : Calls Try.prog 13 #[.agg #[.int .i64 10, .int .u64 0], .int .i64 9] w fun e w' => e = .returned (.tuple #[.agg #[.int .i64 10, .int .u64 512], .int .i64 0]) ∧ Below w.heap.size w w' := by
  have := put_any 10 0 9 w (by decide) (by decide)
  rw [show putN 10 9 = 10 by decide, show putM 10 0 9 = 512 by decide, show putE 10 9 = 0 by decide] at this
  exact this
theorem aw_put1 (w : World) : Calls Try.prog 13 #[.agg #[.int .i64 10, .int .u64 512], .int .i64 1] w fun e w' => e = .returned (.tuple #[.agg #[.int .i64 10, .int .u64 514], .int .i64 0]) ∧ Below w.heap.size w w' := by
  have := put_any 10 512 1 w (by decide) (by decide)
  rw [show putN 10 1 = 10 by decide, show putM 10 512 1 = 514 by decide, show putE 10 1 = 0 by decide] at this
  exact this
theorem aw_put10 (w : World) : Calls Try.prog 13 #[.agg #[.int .i64 10, .int .u64 514], .int .i64 10] w fun e w' => e = .returned (.tuple #[.agg #[.int .i64 0, .int .u64 0], .int .i64 2]) ∧ Below w.heap.size w w' := by
  have := put_any 10 514 10 w (by decide) (by decide)
  rw [show putN 10 10 = 0 by decide, show putM 10 514 10 = 0 by decide, show putE 10 10 = 2 by decide] at this
  exact this
theorem aw_next (w : World) : Calls Try.prog 27 #[.agg #[.int .i64 10, .int .u64 514], .int .i64 2] w fun e w' => e = .returned (.tuple #[.int .i64 9, .bool true]) ∧ Below w.heap.size w w' := by
  have := next_any 10 514 2 w (by decide) (by decide)
  rw [show M.nextI 10 514 2 = 9 by decide, show M.nextB 10 514 2 = true by decide] at this
  exact this
theorem aw_load (w : World) : Calls Try.prog 19 #[.string { data := #[10, 2, 2] }] w fun e w' => e = .returned (.tuple #[.agg #[.int .i64 10, .int .u64 514], .int .i64 0]) ∧ Below w.heap.size w w' := by
  have := load_any { data := #[10, 2, 2] } w (by decide)
  rw [show M.loadN ({ data := #[10, 2, 2] } : ByteArray).data.toList = 10 by decide, show M.loadM ({ data := #[10, 2, 2] } : ByteArray).data.toList = 514 by decide, show M.loadE ({ data := #[10, 2, 2] } : ByteArray).data.toList = 0 by decide] at this
  exact this
theorem aw_del (w : World) : Calls Try.prog 15 #[.agg #[.int .i64 10, .int .u64 514], .int .i64 9] w fun e w' => e = .returned (.tuple #[.agg #[.int .i64 10, .int .u64 2], .int .i64 0]) ∧ Below w.heap.size w w' := by
  have := del_any 10 514 9 w (by decide) (by decide)
  rw [show putN 10 9 = 10 by decide, show delM 10 514 9 = 2 by decide, show putE 10 9 = 0 by decide] at this
  exact this
theorem aw_or (w : World) : Calls Try.prog 16 #[.agg #[.int .i64 10, .int .u64 2], .agg #[.int .i64 10, .int .u64 514]] w fun e w' => e = .returned (.tuple #[.agg #[.int .i64 10, .int .u64 514], .int .i64 0]) ∧ Below w.heap.size w w' := by
  have := or_any 10 2 10 514 w (by decide) (by decide) (by decide)
  rw [show orN 10 10 = 10 by decide, show orM 10 2 10 514 = 514 by decide, show orE 10 10 = 0 by decide] at this
  exact this
theorem aw_all (w : World) : Calls Try.prog 24 #[.agg #[.int .i64 10, .int .u64 514]] w fun e w' => (∃ a cap, e = .returned (.slice a 2 cap)) ∧ Below w.heap.size w w' := by
  refine (all_any 10 514 w (by decide) (by decide)).mono ?_
  rintro e w' ⟨a, cap, rfl, _, hb⟩
  exact ⟨⟨a, cap, by rw [show (M.all 10 514).length = 2 by decide]⟩, hb⟩
theorem aw_count (w : World) : Calls Try.prog 28 #[.agg #[.int .i64 10, .int .u64 2]] w fun e w' => e = .returned (.int .i64 1) ∧ Below w.heap.size w w' := by
  have := count_any 10 2 w (by decide) (by decide)
  rw [show (M.all 10 2).length = 1 by decide] at this
  exact this
theorem aw_has (w : World) : Calls Try.prog 26 #[.agg #[.int .i64 10, .int .u64 514], .int .i64 9] w fun e w' => e = .returned (.bool true) ∧ Below w.heap.size w w' := by
  have := has_any 10 514 9 w (by decide) (by decide)
  rw [show has 10 514 9 = true by decide] at this
  exact this
theorem aw_text (w : World) : Calls Try.prog 22 #[.agg #[.int .i64 10, .int .u64 514]] w fun e w' => e = .returned (.string { data := #[10, 2, 2] }) ∧ Below w.heap.size w w' := by
  have := text_any 10 514 w (by decide) (by decide)
  rw [show str (M.txt 10 514) = { data := #[10, 2, 2] } by decide] at this
  exact this
theorem aw_len (w : World) : Calls Try.prog 25 #[.agg #[.int .i64 10, .int .u64 514]] w fun e w' => e = .returned (.int .i64 10) ∧ Below w.heap.size w w' := len_any 10 514 w
set_option maxHeartbeats 2000000 in
theorem awake_any (w : World) : Calls Try.prog 10 #[] w fun e w' => e = .returned (.bool true) ∧ Below w.heap.size w w' := by
  go_enter Try.func10, Try.ntmps10
  go_wp2_with (first
    | (go_at_call 11; ((with_reducible refine (aw_new _).mono ?_); rintro e w1 ⟨rfl, hb⟩)
       have HB1 := Lib.hid hb
       clear hb)
    | (go_at_call 13; ((with_reducible refine (aw_put9 _).mono ?_); rintro e w2 ⟨rfl, hb⟩)
       have HB2 := Lib.hid (below_up HB1.out hb HB1.out.size)
       have HC2 := Lib.hid (HB2.out.alloc HB2.out.size (.cells #[.int .i64 10, .int .u64 512] 26))
       have r2 := Lib.hid (at_new w2 10 512)
       clear hb)
    | (go_at_call 13; ((with_reducible refine (aw_put1 _).mono ?_); rintro e w3 ⟨rfl, hb⟩)
       have HB3 := Lib.hid (below_up HC2.out hb HC2.out.size)
       have r3 := Lib.hid ((r2.out).below hb (r2.out).lt)
       have r3c0 := r3.out.c0
       have r3c1 := r3.out.c1
       have r3f0 := r3.out.fz 0
       have r3f1 := r3.out.fz 1
       have r3l := r3.out.lt
       have hs3 := HB2.out.size
       have HC3 := Lib.hid ((HB3.out.setCell (p := ⟨w2.heap.size, 0, none⟩) hs3 (.int .i64 10)).setCell (p := ⟨w2.heap.size, 1, none⟩) hs3 (.int .u64 514))
       have s3 := Lib.hid ((r3.out.setN (n' := 10) (v := 10) rfl).setM (m' := 514) (v := 514) rfl)
       clear hb)
    | (go_at_call 27; ((with_reducible refine (aw_next _).mono ?_); rintro e w4 ⟨rfl, hb⟩)
       have HB4 := Lib.hid (below_up HC3.out hb HC3.out.size)
       have r4 := Lib.hid ((s3.out).below hb (s3.out).lt)
       have r4c0 := r4.out.c0
       have r4c1 := r4.out.c1
       have r4f0 := r4.out.fz 0
       have r4f1 := r4.out.fz 1
       have r4l := r4.out.lt
       clear hb)
    | (go_at_call 19; ((with_reducible refine (aw_load _).mono ?_); rintro e w5 ⟨rfl, hb⟩)
       have HB5 := Lib.hid (below_up HB4.out hb HB4.out.size)
       have r5 := Lib.hid ((r4.out).below hb (r4.out).lt)
       have r5c0 := r5.out.c0
       have r5c1 := r5.out.c1
       have r5f0 := r5.out.fz 0
       have r5f1 := r5.out.fz 1
       have r5l := r5.out.lt
       have HC5 := Lib.hid (HB5.out.alloc HB5.out.size (.cells #[.int .i64 10, .int .u64 514] 26))
       have q5 := Lib.hid (at_new w5 10 514)
       clear hb)
    | (go_at_call 15; ((with_reducible refine (aw_del _).mono ?_); rintro e w6 ⟨rfl, hb⟩)
       have HB6 := Lib.hid (below_up HC5.out hb HC5.out.size)
       have r6 := Lib.hid ((r5.out.alloc _).below hb (r5.out.alloc _).lt)
       have r6c0 := r6.out.c0
       have r6c1 := r6.out.c1
       have r6f0 := r6.out.fz 0
       have r6f1 := r6.out.fz 1
       have r6l := r6.out.lt
       have q6 := Lib.hid ((q5.out).below hb (q5.out).lt)
       have q6c0 := q6.out.c0
       have q6c1 := q6.out.c1
       have q6f0 := q6.out.fz 0
       have q6f1 := q6.out.fz 1
       have q6l := q6.out.lt
       have HC6 := Lib.hid (HB6.out.alloc HB6.out.size (.cells #[.int .i64 10, .int .u64 2] 26))
       have d6 := Lib.hid (at_new w6 10 2)
       clear hb)
    | (go_at_call 13; ((with_reducible refine (aw_put10 _).mono ?_); rintro e w7 ⟨rfl, hb⟩)
       have HB7 := Lib.hid (below_up HC6.out hb HC6.out.size)
       have r7 := Lib.hid ((r6.out.alloc _).below hb (r6.out.alloc _).lt)
       have r7c0 := r7.out.c0
       have r7c1 := r7.out.c1
       have r7f0 := r7.out.fz 0
       have r7f1 := r7.out.fz 1
       have r7l := r7.out.lt
       have q7 := Lib.hid ((q6.out.alloc _).below hb (q6.out.alloc _).lt)
       have q7c0 := q7.out.c0
       have q7c1 := q7.out.c1
       have q7f0 := q7.out.fz 0
       have q7f1 := q7.out.fz 1
       have q7l := q7.out.lt
       have d7 := Lib.hid ((d6.out).below hb (d6.out).lt)
       have d7c0 := d7.out.c0
       have d7c1 := d7.out.c1
       have d7f0 := d7.out.fz 0
       have d7f1 := d7.out.fz 1
       have d7l := d7.out.lt
       have HC7 := Lib.hid (HB7.out.alloc HB7.out.size (.cells #[.int .i64 0, .int .u64 0] 26))
       clear hb)
    | (go_at_call 16; ((with_reducible refine (aw_or _).mono ?_); rintro e w8 ⟨rfl, hb⟩)
       have HB8 := Lib.hid (below_up HC7.out hb HC7.out.size)
       have r8 := Lib.hid ((r7.out.alloc _).below hb (r7.out.alloc _).lt)
       have r8c0 := r8.out.c0
       have r8c1 := r8.out.c1
       have r8f0 := r8.out.fz 0
       have r8f1 := r8.out.fz 1
       have r8l := r8.out.lt
       have q8 := Lib.hid ((q7.out.alloc _).below hb (q7.out.alloc _).lt)
       have q8c0 := q8.out.c0
       have q8c1 := q8.out.c1
       have q8f0 := q8.out.fz 0
       have q8f1 := q8.out.fz 1
       have q8l := q8.out.lt
       have d8 := Lib.hid ((d7.out.alloc _).below hb (d7.out.alloc _).lt)
       have d8c0 := d8.out.c0
       have d8c1 := d8.out.c1
       have d8f0 := d8.out.fz 0
       have d8f1 := d8.out.fz 1
       have d8l := d8.out.lt
       have HC8 := Lib.hid (HB8.out.alloc HB8.out.size (.cells #[.int .i64 10, .int .u64 514] 26))
       have o8 := Lib.hid (at_new w8 10 514)
       clear hb)
    | (go_at_call 24; ((with_reducible refine (aw_all _).mono ?_); rintro e w9 ⟨⟨a9, cap9, rfl⟩, hb⟩)
       have HB9 := Lib.hid (below_up HC8.out hb HC8.out.size)
       have r9 := Lib.hid ((r8.out.alloc _).below hb (r8.out.alloc _).lt)
       have r9c0 := r9.out.c0
       have r9c1 := r9.out.c1
       have r9f0 := r9.out.fz 0
       have r9f1 := r9.out.fz 1
       have r9l := r9.out.lt
       have d9 := Lib.hid ((d8.out.alloc _).below hb (d8.out.alloc _).lt)
       have d9c0 := d9.out.c0
       have d9c1 := d9.out.c1
       have d9f0 := d9.out.fz 0
       have d9f1 := d9.out.fz 1
       have d9l := d9.out.lt
       have o9 := Lib.hid ((o8.out).below hb (o8.out).lt)
       have o9c0 := o9.out.c0
       have o9c1 := o9.out.c1
       have o9f0 := o9.out.fz 0
       have o9f1 := o9.out.fz 1
       have o9l := o9.out.lt
       clear hb)
    | (go_at_call 28; ((with_reducible refine (aw_count _).mono ?_); rintro e w10 ⟨rfl, hb⟩)
       have HB10 := Lib.hid (below_up HB9.out hb HB9.out.size)
       have r10 := Lib.hid ((r9.out).below hb (r9.out).lt)
       have r10c0 := r10.out.c0
       have r10c1 := r10.out.c1
       have r10f0 := r10.out.fz 0
       have r10f1 := r10.out.fz 1
       have r10l := r10.out.lt
       have o10 := Lib.hid ((o9.out).below hb (o9.out).lt)
       have o10c0 := o10.out.c0
       have o10c1 := o10.out.c1
       have o10f0 := o10.out.fz 0
       have o10f1 := o10.out.fz 1
       have o10l := o10.out.lt
       clear hb)
    | (go_at_call 26; ((with_reducible refine (aw_has _).mono ?_); rintro e w11 ⟨rfl, hb⟩)
       have HB11 := Lib.hid (below_up HB10.out hb HB10.out.size)
       have r11 := Lib.hid ((r10.out).below hb (r10.out).lt)
       have r11c0 := r11.out.c0
       have r11c1 := r11.out.c1
       have r11f0 := r11.out.fz 0
       have r11f1 := r11.out.fz 1
       have r11l := r11.out.lt
       clear hb)
    | (go_at_call 22; ((with_reducible refine (aw_text _).mono ?_); rintro e w12 ⟨rfl, hb⟩)
       have HB12 := Lib.hid (below_up HB11.out hb HB11.out.size)
       have r12 := Lib.hid ((r11.out).below hb (r11.out).lt)
       have r12c0 := r12.out.c0
       have r12c1 := r12.out.c1
       have r12f0 := r12.out.fz 0
       have r12f1 := r12.out.fz 1
       have r12l := r12.out.lt
       clear hb)
    | (go_at_call 25; ((with_reducible refine (aw_len _).mono ?_); rintro e w13 ⟨rfl, hb⟩)
       have HB13 := Lib.hid (below_up HB12.out hb HB12.out.size)
       clear hb))
  go_ret
  exact ⟨rfl, HB13.out⟩
end Go.Proofs.Ytcdihcloihnpkaa.B
