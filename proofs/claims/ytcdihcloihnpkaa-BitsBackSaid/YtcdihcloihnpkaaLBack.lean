/-
  PROVED: a row's text is read as that row; a text that is read is that row's. CONDITIONS: none (any length, any places, any text).
-/
import Derived.Test.YtcdihcloihnpkaaBLaw
namespace Go.Proofs.Ytcdihcloihnpkaa.bitsBack
open Go.ChangeShapes Go.WideShapes Go.ChangeAt Go.RowKit Go.Joins B
open Go.ChangeMaps (open_string shut_string)
set_option linter.unusedVariables false
set_option linter.unusedSimpArgs false
set_option maxRecDepth 20000

theorem str_list (l : List UInt8) : (str l).data.toList = l := by simp [str]
theorem str_self (s : ByteArray) : str s.data.toList = s := by cases s; rfl

/-- what the same row tells twice: from whatever world behind w0 -/
theorem deeds (c m : Nat) (hc : c ≤ 64) (hm : m < 2 ^ c) (B : Nat) (w0 : World) (hB : B ≤ w0.heap.size) :
    (∀ w, Below B w0 w → Calls Try.prog 25 #[.agg #[.int .i64 (c : Int), .int .u64 (m : Int)]] w fun e w' => e = .returned (.int .i64 (c : Int)) ∧ Below B w0 w' ∧ Below w.heap.size w w') ∧
    (∀ w, Below B w0 w → Calls Try.prog 24 #[.agg #[.int .i64 (c : Int), .int .u64 (m : Int)]] w fun e w' => ∃ a cap, e = .returned (.slice a (M.all c m).length cap) ∧ Row w' a (M.all c m).length cap (ints (M.all c m)) ∧ Below B w0 w' ∧ Below w.heap.size w w') ∧
    (∀ w a1 c1 a2 c2, Below B w0 w → Row w a1 (M.all c m).length c1 (ints (M.all c m)) → Row w a2 (M.all c m).length c2 (ints (M.all c m)) → Calls Try.prog 23 #[.slice a1 (M.all c m).length c1, .slice a2 (M.all c m).length c2] w fun e w' => e = .returned (.bool true) ∧ Below B w0 w' ∧ Below w.heap.size w w') := by
  refine ⟨fun w hw => (len_any c m w).mono ?_, fun w hw => (all_any c m w hc hm).mono ?_, fun w a1 c1 a2 c2 hw h1 h2 => (ints_yes (M.all c m) _ a1 a2 c1 c2 w (by have := M.all_len c m; omega) h1 h2).mono ?_⟩
  · rintro e w' ⟨rfl, hb⟩
    exact ⟨rfl, below_up hw hb (Nat.le_trans hB hw.size), hb⟩
  · rintro e w' ⟨a, cap, rfl, ho, hb⟩
    exact ⟨a, cap, rfl, (own_row ho).1, below_up hw hb (Nat.le_trans hB hw.size), hb⟩
  · rintro e w' ⟨rfl, q, rfl⟩
    have hd : Below w.heap.size w (w.drewN q) := ⟨rfl, rfl, rfl, Nat.le_refl _, fun _ _ => rfl⟩
    exact ⟨rfl, below_up hw hd (Nat.le_trans hB hw.size), hd⟩
theorem below_self (B : Nat) (w : World) : Below B w w := Below.refl _ _

set_option maxHeartbeats 4000000 in
theorem walk (x0 : Int) (x1 : Int) (s2 : ByteArray) (w : World) (w0 : (Lit.int .i64 x0).wf = true) (w1 : (Lit.int .u64 x1).wf = true) (w2 : s2.size ≤ maxLen) :
    Calls Try.prog 5 #[.int .i64 x0, .int .u64 x1, .string s2] w fun e w' => e = .returned (.bool true) ∧ Below w.heap.size w w' := by
  obtain ⟨b, rfl, hb64⟩ := u64_nat w1
  by_cases hbig : 4096 < s2.size
  · have hbI : (4096 : Int) < (s2.size : Int) := by omega
    clear w0 w1
    go_enter Try.func5, Try.ntmps5
    go_wp2_with (go_at_call 10; refine (awake_any _).mono ?_; rintro e w1 ⟨rfl, hb⟩)
    go_ret
    exact ⟨rfl, by assumption⟩
  have hbI : decide ((4096 : Int) < (s2.size : Int)) = false := by simp; omega
  have hc := M.len_le x0
  have HR := fun w => Lib.hid (row_any x0 b w hb64)
  unfold V at HR
  generalize M.len x0 = c at *
  have hm : b % 2 ^ c < 2 ^ c := Nat.mod_lt _ (Nat.pow_pos (by omega))
  generalize b % 2 ^ c = m at *
  have HT : ∀ w, Hid (Calls Try.prog 22 #[.agg #[.int .i64 (c : Int), .int .u64 (m : Int)]] w fun e w' => e = .returned (.string (str (M.txt c m))) ∧ Below w.heap.size w w') := fun w => Lib.hid (text_any c m w hc hm)
  have HL : ∀ w, Hid (Calls Try.prog 19 #[.string (str (M.txt c m))] w fun e w' => e = .returned (.tuple #[.agg #[.int .i64 (c : Int), .int .u64 (m : Int)], .int .i64 0]) ∧ Below w.heap.size w w') := fun w => Lib.hid (by
    have := load_any (str (M.txt c m)) w (by have h1 := M.txt_len c m; have h2 : (str (M.txt c m)).size = (M.txt c m).length := by simp [str, ByteArray.size]
                                             unfold M.size at h1; simp only [maxLen]; omega)
    rw [str_list] at this
    unfold M.loadN M.loadM M.loadE at this
    rw [M.load_txt hc hm] at this
    exact this)
  have hLU := fun w => load_any s2 w w2
  have hs2 := str_self s2
  clear w0 w1 hb64 hbig w2
  cases hld : M.load s2.data.toList with
  | none =>
    have HU : ∀ w, Hid (Calls Try.prog 19 #[.string s2] w fun e w' => e = .returned (.tuple #[.agg #[.int .i64 0, .int .u64 0], .int .i64 4]) ∧ Below w.heap.size w w') := fun w => Lib.hid (by
      have := hLU w
      unfold M.loadN M.loadM M.loadE at this
      rw [hld] at this
      exact this)
    have HE : ∀ w, Hid (Calls Try.prog 25 #[.agg #[.int .i64 0, .int .u64 0]] w fun e w' => e = .returned (.int .i64 0) ∧ Below w.heap.size w w') := fun w => Lib.hid (len_any 0 0 w)
    clear hLU hld hs2
    generalize str (M.txt c m) = T at *
    go_enter Try.func5, Try.ntmps5
    go_wp2_with (first
      | (go_at_call 10; ((with_reducible refine (awake_any _).mono ?_); rintro e w1 ⟨rfl, hb⟩)
         have HB1 := Lib.hid hb
         clear hb)
      | (go_at_call 21; ((with_reducible refine ((HR _).out).mono ?_); rintro e w2 ⟨rfl, hb⟩)
         have HB2 := Lib.hid (below_up (HB1.out) hb (HB1.out).size)
         have HC2r := Lib.hid ((HB2.out).alloc (HB2.out).size (.cells #[.int .i64 (c : Int), .int .u64 (m : Int)] 26))
         have r2a := Lib.hid (at_new w2 c m)
         clear hb)
      | (go_at_call 22; ((with_reducible refine ((HT _).out).mono ?_); rintro e w3 ⟨rfl, hb⟩)
         have HB3 := Lib.hid (below_up (HC2r.out) hb (HC2r.out).size)
         have r3 := Lib.hid ((r2a.out).below hb (r2a.out).lt)
         have r3c0 := r3.out.c0
         have r3c1 := r3.out.c1
         have r3f0 := r3.out.fz 0
         have r3f1 := r3.out.fz 1
         have r3l := r3.out.lt
         clear hb)
      | (go_at_call 19; ((with_reducible refine ((HL _).out).mono ?_); rintro e w4 ⟨rfl, hb⟩)
         have HB4 := Lib.hid (below_up (HB3.out) hb (HB3.out).size)
         have r4 := Lib.hid ((r3.out).below hb (r3.out).lt)
         have r4c0 := r4.out.c0
         have r4c1 := r4.out.c1
         have r4f0 := r4.out.fz 0
         have r4f1 := r4.out.fz 1
         have r4l := r4.out.lt
         clear r3c0 r3c1 r3f0 r3f1
         have HC4t := Lib.hid ((HB4.out).alloc (HB4.out).size (.cells #[.int .i64 (c : Int), .int .u64 (m : Int)] 26))
         have t4a := Lib.hid (at_new w4 c m)
         clear hb)
      | (go_at_call 19; ((with_reducible refine ((HU _).out).mono ?_); rintro e w5 ⟨rfl, hb⟩)
         have HB5 := Lib.hid (below_up (HC4t.out) hb (HC4t.out).size)
         have r5 := Lib.hid (((r4.out).alloc _).below hb ((r4.out).alloc _).lt)
         have r5c0 := r5.out.c0
         have r5c1 := r5.out.c1
         have r5f0 := r5.out.fz 0
         have r5f1 := r5.out.fz 1
         have r5l := r5.out.lt
         have t5 := Lib.hid ((t4a.out).below hb (t4a.out).lt)
         have t5c0 := t5.out.c0
         have t5c1 := t5.out.c1
         have t5f0 := t5.out.fz 0
         have t5f1 := t5.out.fz 1
         have t5l := t5.out.lt
         clear r4c0 r4c1 r4f0 r4f1
         have HC5u := Lib.hid ((HB5.out).alloc (HB5.out).size (.cells #[.int .i64 ((0 : Nat) : Int), .int .u64 ((0 : Nat) : Int)] 26))
         have u5a := Lib.hid (at_new w5 0 0)
         clear hb))
    have HB6 := Lib.hid (HC5u.out)
    have r6 := Lib.hid (((r5.out).alloc (.cells #[.int .i64 ((0 : Nat) : Int), .int .u64 ((0 : Nat) : Int)] 26)))
    have t6 := Lib.hid (((t5.out).alloc (.cells #[.int .i64 ((0 : Nat) : Int), .int .u64 ((0 : Nat) : Int)] 26)))
    have u6 := Lib.hid u5a.out
    have hs6 := HC5u.out.size
    generalize w5.alloc (.cells #[.int .i64 ((0 : Nat) : Int), .int .u64 ((0 : Nat) : Int)] 26) = w6 at *
    have hr0 := r6.out.c0
    have hr1 := r6.out.c1
    have ht0 := t6.out.c0
    have ht1 := t6.out.c1
    have HK : Hid (∀ w', Below w6.heap.size w6 w' → (w'.cell? ⟨w2.heap.size, 0, none⟩ = some (.int .i64 (c : Int)) ∧ w'.cell? ⟨w2.heap.size, 1, none⟩ = some (.int .u64 (m : Int)) ∧ w'.cell? ⟨w4.heap.size, 0, none⟩ = some (.int .i64 (c : Int)) ∧ w'.cell? ⟨w4.heap.size, 1, none⟩ = some (.int .u64 (m : Int)))) := Lib.hid fun w' hb => by
      have a := r6.out.below hb r6.out.lt
      have b := t6.out.below hb t6.out.lt
      exact ⟨a.c0, a.c1, b.c0, b.c1⟩
    obtain ⟨dL, dA, dI⟩ := deeds c m hc hm w6.heap.size w6 (Nat.le_refl _)
    have D25 := Lib.hid dL
    have D24 := Lib.hid dA
    have D23 := Lib.hid dI
    have hb0 := below_self w6.heap.size w6
    have hal := M.all_len c m
    clear dL dA dI
    generalize M.all c m = L at *
    go_region_held3 (fun w' => w'.cell? ⟨w2.heap.size, 0, none⟩ = some (.int .i64 (c : Int)) ∧ w'.cell? ⟨w2.heap.size, 1, none⟩ = some (.int .u64 (m : Int)) ∧ w'.cell? ⟨w4.heap.size, 0, none⟩ = some (.int .i64 (c : Int)) ∧ w'.cell? ⟨w4.heap.size, 1, none⟩ = some (.int .u64 (m : Int)))
      (first | exact HK.out _ (by assumption) | exact HK.out _ (Below.drew (by assumption)))
      (first
        | (go_at_call 25; with_reducible refine (D25.out _ (by first | assumption | exact Below.drew (by assumption))).mono ?_; rintro e wl ⟨rfl, hl, hx⟩)
        | (go_at_call 24; with_reducible refine (D24.out _ (by first | assumption | exact Below.drew (by assumption))).mono ?_; rintro e wa ⟨a1, cap1, rfl, hq1, hl, hx⟩)
        | (go_at_call 23; with_reducible refine (D23.out _ _ _ _ _ (by assumption) (by first | assumption | exact row_below (by assumption) hx (Nat.le_refl _)) (by first | assumption | exact row_below (by assumption) hx (Nat.le_refl _))).mono ?_; rintro e wi ⟨rfl, hl, hx⟩))
    have hbl := below_up (HB6.out) hl hs6
    have u7 := u6.out.below hl u6.out.lt
    have u7c0 := u7.c0
    have u7c1 := u7.c1
    have HB7 := Lib.hid hbl
    clear hl hx hbl u7 HK D25 D24 D23
    go_wp2_with (go_at_call 25; ((with_reducible refine (HE _).out.mono ?_); rintro e w8 ⟨rfl, hb⟩); have HB8 := Lib.hid (below_up HB7.out hb HB7.out.size); clear hb)
    go_ret
    exact ⟨rfl, HB8.out⟩
  | some p =>
    obtain ⟨c2, m2⟩ := p
    obtain ⟨hc2, hm2, htx⟩ := M.load_is hld
    have HU : ∀ w, Hid (Calls Try.prog 19 #[.string s2] w fun e w' => e = .returned (.tuple #[.agg #[.int .i64 (c2 : Int), .int .u64 (m2 : Int)], .int .i64 0]) ∧ Below w.heap.size w w') := fun w => Lib.hid (by
      have := hLU w
      unfold M.loadN M.loadM M.loadE at this
      rw [hld] at this
      exact this)
    have HE : ∀ w, Hid (Calls Try.prog 22 #[.agg #[.int .i64 (c2 : Int), .int .u64 (m2 : Int)]] w fun e w' => e = .returned (.string s2) ∧ Below w.heap.size w w') := fun w => Lib.hid (by
      have := text_any c2 m2 w hc2 hm2
      rw [htx, hs2] at this
      exact this)
    clear hLU hld hs2 htx hc2 hm2
    generalize str (M.txt c m) = T at *
    go_enter Try.func5, Try.ntmps5
    go_wp2_with (first
      | (go_at_call 10; ((with_reducible refine (awake_any _).mono ?_); rintro e w1 ⟨rfl, hb⟩)
         have HB1 := Lib.hid hb
         clear hb)
      | (go_at_call 21; ((with_reducible refine ((HR _).out).mono ?_); rintro e w2 ⟨rfl, hb⟩)
         have HB2 := Lib.hid (below_up (HB1.out) hb (HB1.out).size)
         have HC2r := Lib.hid ((HB2.out).alloc (HB2.out).size (.cells #[.int .i64 (c : Int), .int .u64 (m : Int)] 26))
         have r2a := Lib.hid (at_new w2 c m)
         clear hb)
      | (go_at_call 22; ((with_reducible refine ((HT _).out).mono ?_); rintro e w3 ⟨rfl, hb⟩)
         have HB3 := Lib.hid (below_up (HC2r.out) hb (HC2r.out).size)
         have r3 := Lib.hid ((r2a.out).below hb (r2a.out).lt)
         have r3c0 := r3.out.c0
         have r3c1 := r3.out.c1
         have r3f0 := r3.out.fz 0
         have r3f1 := r3.out.fz 1
         have r3l := r3.out.lt
         clear hb)
      | (go_at_call 19; ((with_reducible refine ((HL _).out).mono ?_); rintro e w4 ⟨rfl, hb⟩)
         have HB4 := Lib.hid (below_up (HB3.out) hb (HB3.out).size)
         have r4 := Lib.hid ((r3.out).below hb (r3.out).lt)
         have r4c0 := r4.out.c0
         have r4c1 := r4.out.c1
         have r4f0 := r4.out.fz 0
         have r4f1 := r4.out.fz 1
         have r4l := r4.out.lt
         clear r3c0 r3c1 r3f0 r3f1
         have HC4t := Lib.hid ((HB4.out).alloc (HB4.out).size (.cells #[.int .i64 (c : Int), .int .u64 (m : Int)] 26))
         have t4a := Lib.hid (at_new w4 c m)
         clear hb)
      | (go_at_call 19; ((with_reducible refine ((HU _).out).mono ?_); rintro e w5 ⟨rfl, hb⟩)
         have HB5 := Lib.hid (below_up (HC4t.out) hb (HC4t.out).size)
         have r5 := Lib.hid (((r4.out).alloc _).below hb ((r4.out).alloc _).lt)
         have r5c0 := r5.out.c0
         have r5c1 := r5.out.c1
         have r5f0 := r5.out.fz 0
         have r5f1 := r5.out.fz 1
         have r5l := r5.out.lt
         have t5 := Lib.hid ((t4a.out).below hb (t4a.out).lt)
         have t5c0 := t5.out.c0
         have t5c1 := t5.out.c1
         have t5f0 := t5.out.fz 0
         have t5f1 := t5.out.fz 1
         have t5l := t5.out.lt
         clear r4c0 r4c1 r4f0 r4f1
         have HC5u := Lib.hid ((HB5.out).alloc (HB5.out).size (.cells #[.int .i64 (c2 : Int), .int .u64 (m2 : Int)] 26))
         have u5a := Lib.hid (at_new w5 c2 m2)
         clear hb))
    have HB6 := Lib.hid (HC5u.out)
    have r6 := Lib.hid (((r5.out).alloc (.cells #[.int .i64 (c2 : Int), .int .u64 (m2 : Int)] 26)))
    have t6 := Lib.hid (((t5.out).alloc (.cells #[.int .i64 (c2 : Int), .int .u64 (m2 : Int)] 26)))
    have u6 := Lib.hid u5a.out
    have hs6 := HC5u.out.size
    generalize w5.alloc (.cells #[.int .i64 (c2 : Int), .int .u64 (m2 : Int)] 26) = w6 at *
    have hr0 := r6.out.c0
    have hr1 := r6.out.c1
    have ht0 := t6.out.c0
    have ht1 := t6.out.c1
    have HK : Hid (∀ w', Below w6.heap.size w6 w' → (w'.cell? ⟨w2.heap.size, 0, none⟩ = some (.int .i64 (c : Int)) ∧ w'.cell? ⟨w2.heap.size, 1, none⟩ = some (.int .u64 (m : Int)) ∧ w'.cell? ⟨w4.heap.size, 0, none⟩ = some (.int .i64 (c : Int)) ∧ w'.cell? ⟨w4.heap.size, 1, none⟩ = some (.int .u64 (m : Int)))) := Lib.hid fun w' hb => by
      have a := r6.out.below hb r6.out.lt
      have b := t6.out.below hb t6.out.lt
      exact ⟨a.c0, a.c1, b.c0, b.c1⟩
    obtain ⟨dL, dA, dI⟩ := deeds c m hc hm w6.heap.size w6 (Nat.le_refl _)
    have D25 := Lib.hid dL
    have D24 := Lib.hid dA
    have D23 := Lib.hid dI
    have hb0 := below_self w6.heap.size w6
    have hal := M.all_len c m
    clear dL dA dI
    generalize M.all c m = L at *
    go_region_held3 (fun w' => w'.cell? ⟨w2.heap.size, 0, none⟩ = some (.int .i64 (c : Int)) ∧ w'.cell? ⟨w2.heap.size, 1, none⟩ = some (.int .u64 (m : Int)) ∧ w'.cell? ⟨w4.heap.size, 0, none⟩ = some (.int .i64 (c : Int)) ∧ w'.cell? ⟨w4.heap.size, 1, none⟩ = some (.int .u64 (m : Int)))
      (first | exact HK.out _ (by assumption) | exact HK.out _ (Below.drew (by assumption)))
      (first
        | (go_at_call 25; with_reducible refine (D25.out _ (by first | assumption | exact Below.drew (by assumption))).mono ?_; rintro e wl ⟨rfl, hl, hx⟩)
        | (go_at_call 24; with_reducible refine (D24.out _ (by first | assumption | exact Below.drew (by assumption))).mono ?_; rintro e wa ⟨a1, cap1, rfl, hq1, hl, hx⟩)
        | (go_at_call 23; with_reducible refine (D23.out _ _ _ _ _ (by assumption) (by first | assumption | exact row_below (by assumption) hx (Nat.le_refl _)) (by first | assumption | exact row_below (by assumption) hx (Nat.le_refl _))).mono ?_; rintro e wi ⟨rfl, hl, hx⟩))
    have hbl := below_up (HB6.out) hl hs6
    have u7 := u6.out.below hl u6.out.lt
    have u7c0 := u7.c0
    have u7c1 := u7.c1
    have HB7 := Lib.hid hbl
    clear hl hx hbl u7 HK D25 D24 D23
    go_wp2_with (go_at_call 22; ((with_reducible refine (HE _).out.mono ?_); rintro e w8 ⟨rfl, hb⟩); have HB8 := Lib.hid (below_up HB7.out hb HB7.out.size); clear hb)
    go_ret
    exact ⟨rfl, HB8.out⟩

set_option maxRecDepth 100000 in
theorem lifted (os : Os) (started : os.Started) (H : Type) (enc : TypeId × Value → H) :
    ReturnsInHanded {} Try.checked os 5 .any (Rows.bitsBackSpec.pre6 enc Try.prog Try.f5 Rows.bitsBackRow.domain false) (Rows.bitsBackSpec.post enc Try.prog Try.f5 false true false false) := by
  refine returnsInHanded_of_change (C := Try.checked) own started (by kernel_rfl) Try.func5
    (ChangeSpec.witness6 (enc := enc) (C := Try.checked) false ⟨#[], #[.int .i64 0, .int .u64 0, .string ⟨#[]⟩], []⟩ 8 (by kernel_rfl) (by kernel_rfl) (by kernel_rfl) (by kernel_rfl)) ?_
  intro W base args ds gs before hval0 hW hcnd _
  have hval : ∀ (j : Nat) t v, Try.f5.params[j]? = some t → args[j]? = some v → Value.okWide Try.prog W .any base t v := hval0
  have hW' := hW
  obtain ⟨p, q, hA0, hV, rfl, hfz, hnd⟩ := hW
  have hA : DataW.TrodAll enc Try.prog W 0 (fun _ => true) true Try.f5.params.toList args.toList ds p := hA0
  rw [Try.params5] at hA hval
  obtain ⟨v0, vs0, d0, ds0, p0, q0, hargs, rfl, rfl, h0, r0'⟩ := trodAll_cons hA
  obtain ⟨v1, vs1, d1, ds1, p1, q1, rfl, rfl, rfl, h1, r1'⟩ := trodAll_cons r0'
  obtain ⟨v2, vs2, d2, ds2, p2, q2, rfl, rfl, rfl, h2, r2'⟩ := trodAll_cons r1'
  obtain ⟨rfl, rfl, rfl⟩ := trodAll_nil r2'
  obtain rfl : args = #[v0, v1, v2] := by cases args; simp_all
  obtain ⟨rfl, rfl⟩ := trodVars_none hV
  obtain ⟨x0, rfl, rfl, rfl, w0⟩ := open_int Try.underlying3 (hval 0 3 v0 rfl rfl) h0
  obtain ⟨x1, rfl, rfl, rfl, w1⟩ := open_int Try.underlying24 (hval 1 24 v1 rfl rfl) h1
  obtain ⟨s2, rfl, rfl, rfl, w2⟩ := open_string Try.underlying9 (hval 2 9 v2 rfl rfl) h2
  clear hA0 hval0
  refine (walk x0 x1 s2 W w0 w1 w2).mono fun e W' ⟨he, bel⟩ => ?_
  subst he
  exact ⟨_, rfl, _, _, _, [], _, [], hW', trodAll_mk1 (shut_bool Try.underlying4 _), (trodAll_cons_mk (shut_int Try.underlying3 w0) (trodAll_cons_mk (shut_int Try.underlying24 w1) (trodAll_cons_mk (shut_string Try.underlying9 w2) trodAll_mk0))), rfl, bel.frame _, fun h => by cases h⟩

theorem over : Rows.bitsBackRow.holds Try.pinned (OpenSpec.ofChange Rows.bitsBackSpec) :=
  OpenClaim.holds_of_wide 5 Try.f5 rfl rfl rfl rfl rfl rfl rfl ⟨rfl, rfl, rfl, rfl, rfl⟩ rfl rfl rfl rfl rfl (by kernel_rfl) Try.func5 (by kernel_rfl)
    (of_decide_eq_true (by kernel_rfl)) (by unfold Func.isWrapper; first | (rw [if_pos (by decide +kernel)]; kernel_rfl) | (rw [if_neg (by decide +kernel)]; exact ⟨rfl, rfl⟩))
    (fun os started H enc _ => lifted os started H enc)

/-- the statement -/
theorem proved : Rows.BitsBackSaid := over
#print axioms proved
end Go.Proofs.Ytcdihcloihnpkaa.bitsBack
