/-
  PROVED: gone through by Next a row is All; Put and Del change one place. CONDITIONS: none (any length, any places, any place).
-/
import Derived.Test.YtcdihcloihnpkaaBLaw
namespace Go.Proofs.Ytcdihcloihnpkaa.bitsNext
open Go.ChangeShapes Go.WideShapes Go.ChangeAt Go.RowKit Go.Joins B
open Go.ChangeMaps (open_string shut_string)
set_option linter.unusedVariables false
set_option linter.unusedSimpArgs false
set_option maxRecDepth 20000

theorem at_two (w : World) (o : Obj) (n m : Nat) : At ((w.alloc o).alloc (.cells #[.int .i64 (n : Int), .int .u64 (m : Int)] 26)) (w.heap.size + 1) n m := by
  have := at_new (w.alloc o) n m
  rw [size1] at this
  exact this
theorem below_self (B : Nat) (w : World) : Below B w w := Below.refl _ _
/-- a call that only makes memory, from whatever world behind w0 -/
theorem kp {f : Nat} {args : Array Value} {e0 : Ending} (w0 : World) (H : ∀ w, Hid (Calls Try.prog f args w fun e w' => e = e0 ∧ Below w.heap.size w w')) :
    Hid (∀ w, Below w0.heap.size w0 w → Calls Try.prog f args w fun e w' => e = e0 ∧ Below w0.heap.size w0 w') := Lib.hid fun w hw => (H w).out.mono (by
  rintro e w' ⟨rfl, hb⟩
  exact ⟨rfl, below_up hw hb hw.size⟩)
theorem next_at {c m q k : Nat} (h : M.next c m (q : Int) = some k) : q ≤ k ∧ k < c ∧ M.all (k + 1) m = M.all q m ++ [k] := by
  obtain ⟨h1, h2, h3, h4⟩ := M.next_is h
  have hq : q ≤ k := by omega
  refine ⟨hq, h1, ?_⟩
  rw [M.all_yes h3, M.all_gap hq fun x h5 h6 => h4 x h6 (by omega)]
theorem next_end {c m q : Nat} (hq : q ≤ c) (h : M.next c m (q : Int) = none) : M.all c m = M.all q m :=
  M.all_gap hq fun x h5 h6 => M.next_isn h x h6 (by omega)

set_option maxHeartbeats 4000000 in
theorem walk (x0 : Int) (x1 : Int) (x2 : Int) (w : World) (w0 : (Lit.int .i64 x0).wf = true) (w1 : (Lit.int .u64 x1).wf = true) (w2 : (Lit.int .i64 x2).wf = true) :
    Calls Try.prog 7 #[.int .i64 x0, .int .u64 x1, .int .i64 x2] w fun e w' => e = .returned (.bool true) ∧ Below w.heap.size w w' := by
  obtain ⟨b, rfl, hb64⟩ := u64_nat w1
  obtain ⟨hi1, hi2⟩ := wf_i64 w2
  have hc := M.len_le x0
  have HR := fun w => Lib.hid (row_any x0 b w hb64)
  unfold V at HR
  generalize M.len x0 = c at *
  have hm : b % 2 ^ c < 2 ^ c := Nat.mod_lt _ (Nat.pow_pos (by omega))
  generalize b % 2 ^ c = m at *
  clear w0 w1 w2 hb64
  have hcI : (c : Int) ≤ 64 := by omega
  go_enter Try.func7, Try.ntmps7
  go_wp2_with (first
    | (go_at_call 10; ((with_reducible refine (awake_any _).mono ?_); rintro e w1 ⟨rfl, hb⟩)
       have HB1 := Lib.hid hb
       clear hb)
    | (go_at_call 21; ((with_reducible refine ((HR _).out).mono ?_); rintro e w2 ⟨rfl, hb⟩)
       have HB2 := Lib.hid (below_up (HB1.out) hb (HB1.out).size)
       have HC2r := Lib.hid ((HB2.out).alloc (HB2.out).size (.cells #[.int .i64 (c : Int), .int .u64 (m : Int)] 26))
       have r2a := Lib.hid (at_new w2 c m)
       clear hb))
  have r3 := Lib.hid ((r2a.out).alloc (.cells #[] 3))
  have HB3 := Lib.hid ((HC2r.out).alloc (HC2r.out).size (.cells #[] 3))
  have hsz : (w2.alloc (.cells #[.int .i64 (c : Int), .int .u64 (m : Int)] 26)).heap.size = w2.heap.size + 1 := size1 _ _
  have ho := own_lit 3 (w2.alloc (.cells #[.int .i64 (c : Int), .int .u64 (m : Int)] 26)) (w2.heap.size + 1) [] (by rw [hsz]; omega) (by simp)
  rw [hsz] at ho
  have O3 := Lib.hid ho
  have hs2 := HB2.out.size
  clear hsz ho HR HB1 HB2 HC2r r2a
  generalize hgR : w2.heap.size = R at *
  generalize hgw : (w2.alloc (.cells #[.int .i64 (c : Int), .int .u64 (m : Int)] 26)).alloc (.cells #[] 3) = w3 at *
  go_wp2
  go_loopw [8, 9] (fun v t wr => ∃ (q cnt cap : Nat) (a : Option Addr), q ≤ c ∧ t = .int .i64 q ∧ v = .slice a cnt cap ∧ cnt = (M.all q m).length ∧ Own 3 wr (R + 1) a cnt cap (ints (M.all q m)) ∧ At wr R c m ∧ Below w.heap.size w wr) (fun _ t _ => c - (intOf t).toNat)
  case atStart => exact ⟨0, 0, 0, _, by omega, rfl, rfl, rfl, O3.out, r3.out, HB3.out⟩
  case round =>
    obtain ⟨q, cnt, cap, a, hq, rfl, rfl, hcnt, ho, hat, hbw⟩ := hrel
    have Ho := Lib.hid ho
    have Hat := Lib.hid hat
    have Hbw := Lib.hid hbw
    have hcl : cnt ≤ 64 := by have := M.all_len q m; omega
    have hclI : (cnt : Int) ≤ 64 := by omega
    have Hc := Lib.hid hcnt
    obtain ⟨c0, c1, cf⟩ := hat
    clear ho hbw cf hcnt O3 r3 HB3
    have hNX := fun w => next_any c m (q : Int) w hc hm
    unfold M.nextI M.nextB V at hNX
    cases hnx : M.next c m (q : Int) with
    | some k =>
      obtain ⟨hqk, hkc, hall⟩ := next_at hnx
      have HNX : ∀ w, Hid (Calls Try.prog 27 #[.agg #[.int .i64 (c : Int), .int .u64 (m : Int)], .int .i64 (q : Int)] w fun e w' => e = .returned (.tuple #[.int .i64 (k : Int), .bool true]) ∧ Below w.heap.size w w') := fun w => Lib.hid (by
        have := hNX w
        rw [hnx] at this
        exact this)
      have HM2 := Lib.hid hall
      clear hNX hnx hall
      have hkI : (k : Int) < 64 := by omega
      go_wp2_with (first
        | (go_at_call 27
           ((with_reducible refine (HNX _).out.mono ?_); rintro e w4 ⟨rfl, hb⟩)
           have Ho1 := Lib.hid (own_alloc (own_below Ho.out hb (Nat.le_refl _)) (.cells #[.int .i64 (k : Int)] 3))
           have Hat1 := Lib.hid (Hat.out.below hb Hat.out.lt)
           have Hb1 := Lib.hid (below_up Hbw.out hb Hbw.out.size)
           have hs1 := Hat1.out.lt
           clear hb)
        | (at_builtin
           refine wpList_append_int _ rfl (.tmp 34) (.tmp 36) rfl (R + 1) a cnt cap (M.all q m) rfl Ho1.out _ 1 k rfl (row_one _ 3 _) (by omega) (by simp; omega) ?_
           intro a2 cap2 w5 ho2 hb2
           have Ho2 := Lib.hid ho2
           have Hb2 := Lib.hid hb2
           clear ho2 hb2))
      go_roundw
      case rel => exact ⟨k + 1, cnt + 1, cap2, a2, by omega, by go_num, rfl, by rw [HM2.out, Hc.out]; simp, by rw [HM2.out]; exact Ho2.out, (Hat1.out.alloc _).below Hb2.out (by omega), (Hb1.out.alloc Hb1.out.size _).trans (Hb2.out.mono (by omega))⟩
      case measure => simp [intOf]; omega
    | none =>
      have hall := next_end hq hnx
      have HNX : ∀ w, Hid (Calls Try.prog 27 #[.agg #[.int .i64 (c : Int), .int .u64 (m : Int)], .int .i64 (q : Int)] w fun e w' => e = .returned (.tuple #[.int .i64 0, .bool false]) ∧ Below w.heap.size w w') := fun w => Lib.hid (by
        have := hNX w
        rw [hnx] at this
        exact this)
      have HQ : Hid (Row wr a cnt cap (ints (M.all c m))) := Lib.hid (by rw [hall]; exact (own_row Ho.out).1)
      have hcnt : cnt = (M.all c m).length := by rw [hall]; exact Hc.out
      have HI : ∀ w a2 c2, Row w a cnt cap (ints (M.all c m)) → Row w a2 cnt c2 (ints (M.all c m)) → Hid (Calls Try.prog 23 #[.slice a cnt cap, .slice a2 cnt c2] w fun e w' => e = .returned (.bool true) ∧ Below w.heap.size w w') := fun w a2 c2 h1 h2 => Lib.hid ((ints_yes _ _ _ _ _ _ w hcl h1 h2).mono (by
        rintro e w' ⟨rfl, q, rfl⟩
        exact ⟨rfl, rfl, rfl, rfl, Nat.le_refl _, fun _ _ => rfl⟩))
      have HA : ∀ w, Hid (Calls Try.prog 24 #[.agg #[.int .i64 (c : Int), .int .u64 (m : Int)]] w fun e w' => (∃ a2 c2, e = .returned (.slice a2 cnt c2) ∧ Row w' a2 cnt c2 (ints (M.all c m))) ∧ Below w.heap.size w w') := fun w => Lib.hid ((all_any c m w hc hm).mono (by
        rintro e w' ⟨a2, c2, rfl, ho, hb⟩
        rw [← hcnt] at ho ⊢
        exact ⟨⟨a2, c2, rfl, (own_row ho).1⟩, hb⟩))
      have HCt : ∀ w, Hid (Calls Try.prog 28 #[.agg #[.int .i64 (c : Int), .int .u64 (m : Int)]] w fun e w' => e = .returned (.int .i64 (cnt : Int)) ∧ Below w.heap.size w w') := fun w => Lib.hid (by
        have := count_any c m w hc hm
        rw [← hcnt] at this
        exact this)
      have HL : ∀ w, Hid (Calls Try.prog 25 #[.agg #[.int .i64 (c : Int), .int .u64 (m : Int)]] w fun e w' => e = .returned (.int .i64 (c : Int)) ∧ Below w.heap.size w w') := fun w => Lib.hid (len_any c m w)
      have HIh := Lib.hid HI
      have Hm := Lib.hid hm
      generalize M.all c m = L at *
      clear hNX hnx hall Ho Hc HI hm hcnt
      by_cases hin : 0 ≤ x2 ∧ x2 < (c : Int)
      · obtain ⟨hx1, hx2⟩ := hin
        obtain ⟨z, rfl⟩ := Int.eq_ofNat_of_zero_le hx1
        have hz : z < c := by omega
        have hP : ∀ w, Hid (Calls Try.prog 13 #[.agg #[.int .i64 (c : Int), .int .u64 (m : Int)], .int .i64 (z : Int)] w fun e w' => e = .returned (.tuple #[.agg #[.int .i64 (c : Int), .int .u64 ((M.put m z : Nat) : Int)], .int .i64 0]) ∧ Below w.heap.size w w') := fun w => Lib.hid (by
          have := put_any c m z w hc Hm.out
          obtain ⟨e1, e2, e3⟩ := putM_in (n := c) (m := m) hz
          rw [e1, e2, e3] at this
          exact this)
        have hD : ∀ w, Hid (Calls Try.prog 15 #[.agg #[.int .i64 (c : Int), .int .u64 (m : Int)], .int .i64 (z : Int)] w fun e w' => e = .returned (.tuple #[.agg #[.int .i64 (c : Int), .int .u64 ((M.del m z : Nat) : Int)], .int .i64 0]) ∧ Below w.heap.size w w') := fun w => Lib.hid (by
          have := del_any c m z w hc Hm.out
          unfold putN delM putE at this
          rw [if_pos ⟨by omega, by omega⟩, if_pos ⟨by omega, by omega⟩, if_pos ⟨by omega, by omega⟩] at this
          exact this)
        have hput := M.put_lt Hm.out hz
        have hdel := M.del_lt (i := z) Hm.out
        have hmb := M.lt64 hc Hm.out
        have HB := Lib.hid (fun k => (⟨M.put_bit m z k, M.del_bit (i := z) (by omega) hmb k⟩ : _ ∧ _))
        have HHp := fun (k : Nat) w => Lib.hid (has_any c (M.put m z) (k : Int) w hc hput)
        have HHd := fun (k : Nat) w => Lib.hid (has_any c (M.del m z) (k : Int) w hc hdel)
        have HHr := fun (k : Nat) w => Lib.hid (has_any c m (k : Int) w hc Hm.out)
        unfold V at HHp HHd HHr
        clear hput hdel hmb
        have HK3 : ∀ k, k < c → Hid (has c (M.put m z) (k : Int) = (m.testBit k || decide (z = k)) ∧ has c (M.del m z) (k : Int) = (m.testBit k && !decide (z = k)) ∧ has c m (k : Int) = m.testBit k) := fun k hk => Lib.hid ⟨by rw [has_bit hk, (HB.out k).1], by rw [has_bit hk, (HB.out k).2], has_bit hk⟩
        clear HB
        generalize M.put m z = pm at *
        generalize M.del m z = dm at *
        go_wp2_with (first
          | (go_at_call 27; ((with_reducible refine ((HNX _).out).mono ?_); rintro e w6 ⟨rfl, hb⟩)
             have HB6 := Lib.hid (below_up (Hbw.out) hb (Hbw.out).size)
             have r6 := Lib.hid ((Hat.out).below hb (Hat.out).lt)
             have r6c0 := r6.out.c0
             have r6c1 := r6.out.c1
             have r6f0 := r6.out.fz 0
             have r6f1 := r6.out.fz 1
             have r6l := r6.out.lt
             have Qg6 := Lib.hid (row_below (HQ.out) hb (Nat.le_refl _))
             clear hb)
          | (go_at_call 13; ((with_reducible refine ((hP _).out).mono ?_); rintro e w7 ⟨rfl, hb⟩)
             have HB7 := Lib.hid (below_up (HB6.out) hb (HB6.out).size)
             have r7 := Lib.hid ((r6.out).below hb (r6.out).lt)
             have r7c0 := r7.out.c0
             have r7c1 := r7.out.c1
             have r7f0 := r7.out.fz 0
             have r7f1 := r7.out.fz 1
             have r7l := r7.out.lt
             have Qg7 := Lib.hid (row_below (Qg6.out) hb (Nat.le_refl _))
             clear r6c0 r6c1 r6f0 r6f1
             have HC7p := Lib.hid ((HB7.out).alloc (HB7.out).size (.cells #[.int .i64 (c : Int), .int .u64 (pm : Int)] 26))
             have p7a := Lib.hid (at_new w7 c pm)
             clear hb)
          | (go_at_call 15; ((with_reducible refine ((hD _).out).mono ?_); rintro e w8 ⟨rfl, hb⟩)
             have HB8 := Lib.hid (below_up (HC7p.out) hb (HC7p.out).size)
             have r8 := Lib.hid (((r7.out).alloc _).below hb ((r7.out).alloc _).lt)
             have r8c0 := r8.out.c0
             have r8c1 := r8.out.c1
             have r8f0 := r8.out.fz 0
             have r8f1 := r8.out.fz 1
             have r8l := r8.out.lt
             have Qg8 := Lib.hid (row_below (row_below (Qg7.out) (bel1 _ _) (Nat.le_refl _)) hb (Nat.le_refl _))
             have p8 := Lib.hid ((p7a.out).below hb (p7a.out).lt)
             have p8c0 := p8.out.c0
             have p8c1 := p8.out.c1
             have p8f0 := p8.out.fz 0
             have p8f1 := p8.out.fz 1
             have p8l := p8.out.lt
             clear r7c0 r7c1 r7f0 r7f1
             have HC8d := Lib.hid ((HB8.out).alloc (HB8.out).size (.cells #[.int .i64 (c : Int), .int .u64 (dm : Int)] 26))
             have d8a := Lib.hid (at_new w8 c dm)
             clear hb)
          | (go_at_call 25; ((with_reducible refine ((HL _).out).mono ?_); rintro e w9 ⟨rfl, hb⟩)
             have HB9 := Lib.hid (below_up (HC8d.out) hb (HC8d.out).size)
             have r9 := Lib.hid (((r8.out).alloc _).below hb ((r8.out).alloc _).lt)
             have r9c0 := r9.out.c0
             have r9c1 := r9.out.c1
             have r9f0 := r9.out.fz 0
             have r9f1 := r9.out.fz 1
             have r9l := r9.out.lt
             have Qg9 := Lib.hid (row_below (row_below (Qg8.out) (bel1 _ _) (Nat.le_refl _)) hb (Nat.le_refl _))
             have p9 := Lib.hid (((p8.out).alloc _).below hb ((p8.out).alloc _).lt)
             have p9c0 := p9.out.c0
             have p9c1 := p9.out.c1
             have p9f0 := p9.out.fz 0
             have p9f1 := p9.out.fz 1
             have p9l := p9.out.lt
             have d9 := Lib.hid ((d8a.out).below hb (d8a.out).lt)
             have d9c0 := d9.out.c0
             have d9c1 := d9.out.c1
             have d9f0 := d9.out.fz 0
             have d9f1 := d9.out.fz 1
             have d9l := d9.out.lt
             clear r8c0 r8c1 r8f0 r8f1 p8c0 p8c1 p8f0 p8f1
             clear hb))
        have GP := p9.out
        have GD := d9.out
        generalize hgP : w7.heap.size = P at *
        generalize hgD : w8.heap.size = D at *
        clear hgP hgD
        go_loopw [16] (fun t wr => ∃ k : Nat, k ≤ c ∧ t = .int .i64 k ∧ At wr P c pm ∧ At wr D c dm ∧ Row wr a cnt cap (ints L) ∧ At wr R c m ∧ Below w.heap.size w wr) (fun t _ => c - (intOf t).toNat)
        case atStart => exact ⟨0, by omega, rfl, GP, GD, Qg9.out, r9.out, HB9.out⟩
        case round =>
          obtain ⟨k, hk, rfl, gp, gd, gq, gr, gb⟩ := hrel
          have Gp := Lib.hid gp
          have Gd := Lib.hid gd
          have Gq := Lib.hid gq
          have Gr := Lib.hid gr
          have Gb := Lib.hid gb
          have g0 := gr.c0
          have g1 := gr.c1
          clear gp gd gq gr gb
          by_cases hkc : k < c
          · have hxp := HHp k
            have hxd := HHd k
            have hxr := HHr k
            obtain ⟨e1, e2, e3⟩ := (HK3 k hkc).out
            rw [e1] at hxp
            rw [e2] at hxd
            rw [e3] at hxr
            have hkz : ((k : Int) == (z : Int)) = decide (z = k) := by rw [Bool.eq_iff_iff]; simp; omega
            have hkz2 : ((k : Int) != (z : Int)) = !decide (z = k) := by rw [bne, hkz]
            clear e1 e2 e3 HHp HHd HHr HK3 hP hD HNX
            generalize m.testBit k = u at *
            generalize decide (z = k) = v at *
            cases u with
            | true =>
              simp only [Bool.true_or, Bool.false_or, Bool.true_and, Bool.false_and] at hxp hxd
              cases v <;> simp only [Bool.not_true, Bool.not_false] at hxd hkz2
              all_goals
                go_wp2_with (go_at_call 25; ((with_reducible refine (HL _).out.mono ?_); rintro e w10 ⟨rfl, hb⟩); have HP2 := Lib.hid (Gp.out.below hb Gp.out.lt); have HD2 := Lib.hid (Gd.out.below hb Gd.out.lt); have HQ2 := Lib.hid (row_below Gq.out hb (Nat.le_refl _)); have HR2 := Lib.hid (Gr.out.below hb Gr.out.lt); have HB2 := Lib.hid (below_up Gb.out hb Gb.out.size); clear hb)
                have KP := kp w10 hxp
                have KD := kp w10 hxd
                have KR := kp w10 hxr
                clear hxp hxd hxr
                have HK : Hid (∀ w', Below w10.heap.size w10 w' → (w'.cell? ⟨P, 0, none⟩ = some (.int .i64 (c : Int)) ∧ w'.cell? ⟨P, 1, none⟩ = some (.int .u64 (pm : Int)) ∧ w'.cell? ⟨R, 0, none⟩ = some (.int .i64 (c : Int)) ∧ w'.cell? ⟨R, 1, none⟩ = some (.int .u64 (m : Int)) ∧ w'.cell? ⟨D, 0, none⟩ = some (.int .i64 (c : Int)) ∧ w'.cell? ⟨D, 1, none⟩ = some (.int .u64 (dm : Int)))) := Lib.hid fun w' hb => by
                  have a0 := (HP2.out).below hb (HP2.out).lt
                  have a1 := (HR2.out).below hb (HR2.out).lt
                  have a2 := (HD2.out).below hb (HD2.out).lt
                  exact ⟨a0.c0, a0.c1, a1.c0, a1.c1, a2.c0, a2.c1⟩
                have hb0 := Below.drew (below_self w10.heap.size w10)
                refine wp_region_noPanic ?_
                refine wp_region_held_drew (S := fun w' => w'.cell? ⟨P, 0, none⟩ = some (.int .i64 (c : Int)) ∧ w'.cell? ⟨P, 1, none⟩ = some (.int .u64 (pm : Int)) ∧ w'.cell? ⟨R, 0, none⟩ = some (.int .i64 (c : Int)) ∧ w'.cell? ⟨R, 1, none⟩ = some (.int .u64 (m : Int)) ∧ w'.cell? ⟨D, 0, none⟩ = some (.int .i64 (c : Int)) ∧ w'.cell? ⟨D, 1, none⟩ = some (.int .u64 (dm : Int))) (by kernel_rfl) (HK.out _ hb0) (fun hHeld => ?_)
                refine wpAnyH_take (i := 0) (v := ?_) rfl (by kernel_rfl) (by kernel_rfl) (by kernel_rfl) (fun _ _ _ h => h) (Or.inl ⟨by rfl, ?_⟩) hHeld ?_
                rotate_left 1
                · (intro w hSw; (try dsimp only at hSw); go_simp; try with_reducible rfl)
                change wpAnyH _ _ _ _ _ _ _ (Act.put _ (some 78) _) _
                try simp only [Act.put, List.setIfInBounds_toArray, List.set_cons_zero, List.set_cons_succ]
                refine wpAnyH_take (i := 1) (v := ?_) rfl (by kernel_rfl) (by kernel_rfl) (by kernel_rfl) (fun _ _ _ h => h) (Or.inl ⟨by rfl, ?_⟩) hHeld ?_
                rotate_left 1
                · (intro w hSw; (try dsimp only at hSw); go_simp; try with_reducible rfl)
                change wpAnyH _ _ _ _ _ _ _ (Act.put _ (some 79) _) _
                try simp only [Act.put, List.setIfInBounds_toArray, List.set_cons_zero, List.set_cons_succ]
                refine wpAnyH_take (i := 3) (v := ?_) rfl (by kernel_rfl) (by kernel_rfl) (by kernel_rfl) (fun _ _ _ h => h) (Or.inl ⟨by rfl, ?_⟩) hHeld ?_
                rotate_left 1
                · (intro w hSw; (try dsimp only at hSw); go_simp; try with_reducible rfl)
                change wpAnyH _ _ _ _ _ _ _ (Act.put _ (some 81) _) _
                try simp only [Act.put, List.setIfInBounds_toArray, List.set_cons_zero, List.set_cons_succ]
                refine wpAnyH_take (i := 4) (v := ?_) rfl (by kernel_rfl) (by kernel_rfl) (by kernel_rfl) (fun _ _ _ h => h) (Or.inl ⟨by rfl, ?_⟩) hHeld ?_
                rotate_left 1
                · (intro w hSw; (try dsimp only at hSw); go_simp; try with_reducible rfl)
                change wpAnyH _ _ _ _ _ _ _ (Act.put _ (some 82) _) _
                try simp only [Act.put, List.setIfInBounds_toArray, List.set_cons_zero, List.set_cons_succ]
                refine wpAnyH_ready (rs := [2]) (by kernel_rfl) (by simp) ?_
                refine AllReadyH.cons rfl (fun K hK => ?_) AllReadyH.nil
                go_simp
                with_reducible refine (KP.out _ hb0).mono ?_
                rintro e wl ⟨rfl, hl⟩
                refine hK.out _ _ (HK.out _ hl) (fun hHeld => ?_)
                clear hK K
                try simp only [Act.put, List.setIfInBounds_toArray, List.set_cons_zero, List.set_cons_succ]
                replace hb0 := hl
                refine wpAnyH_ready (rs := [5]) (by kernel_rfl) (by simp) ?_
                refine AllReadyH.cons rfl (fun K hK => ?_) AllReadyH.nil
                go_simp
                with_reducible refine (KR.out _ hb0).mono ?_
                rintro e wl ⟨rfl, hl⟩
                refine hK.out _ _ (HK.out _ hl) (fun hHeld => ?_)
                clear hK K
                try simp only [Act.put, List.setIfInBounds_toArray, List.set_cons_zero, List.set_cons_succ]
                replace hb0 := hl
                refine wpAnyH_take (i := 6) (v := ?_) rfl (by kernel_rfl) (by kernel_rfl) (by kernel_rfl) (fun _ _ _ h => h) (Or.inl ⟨by rfl, ?_⟩) hHeld ?_
                rotate_left 1
                · (intro w hSw; (try dsimp only at hSw); go_simp; try with_reducible rfl)
                change wpAnyH _ _ _ _ _ _ _ (Act.put _ (some 84) _) _
                try simp only [Act.put, List.setIfInBounds_toArray, List.set_cons_zero, List.set_cons_succ]
                refine wpAnyH_take (i := 7) (v := undef) rfl (by kernel_rfl) (by kernel_rfl) (by kernel_rfl) (fun _ _ _ h => h) (Or.inr ⟨by rfl, rfl⟩) hHeld ?_
                change wpAnyH _ _ _ _ _ _ _ (Act.put _ (some 85) _) _
                try simp only [Act.put, List.setIfInBounds_toArray, List.set_cons_zero, List.set_cons_succ]
                refine wpAnyH_take (i := 8) (v := undef) rfl (by kernel_rfl) (by kernel_rfl) (by kernel_rfl) (fun _ _ _ h => h) (Or.inr ⟨by rfl, rfl⟩) hHeld ?_
                change wpAnyH _ _ _ _ _ _ _ (Act.put _ (some 86) _) _
                try simp only [Act.put, List.setIfInBounds_toArray, List.set_cons_zero, List.set_cons_succ]
                refine wpAnyH_take (i := 9) (v := undef) rfl (by kernel_rfl) (by kernel_rfl) (by kernel_rfl) (fun _ _ _ h => h) (Or.inr ⟨by rfl, rfl⟩) hHeld ?_
                change wpAnyH _ _ _ _ _ _ _ (Act.put _ (some 87) _) _
                try simp only [Act.put, List.setIfInBounds_toArray, List.set_cons_zero, List.set_cons_succ]
                refine wpAnyH_take (i := 10) (v := ?_) rfl (by kernel_rfl) (by kernel_rfl) (by kernel_rfl) (fun _ _ _ h => h) (Or.inl ⟨by rfl, ?_⟩) hHeld ?_
                rotate_left 1
                · (intro w hSw; (try dsimp only at hSw); go_simp; try with_reducible rfl)
                change wpAnyH _ _ _ _ _ _ _ (Act.put _ (some 88) _) _
                try simp only [Act.put, List.setIfInBounds_toArray, List.set_cons_zero, List.set_cons_succ]
                refine wpAnyH_take (i := 11) (v := ?_) rfl (by kernel_rfl) (by kernel_rfl) (by kernel_rfl) (fun _ _ _ h => h) (Or.inl ⟨by rfl, ?_⟩) hHeld ?_
                rotate_left 1
                · (intro w hSw; (try dsimp only at hSw); go_simp; try with_reducible rfl)
                change wpAnyH _ _ _ _ _ _ _ (Act.put _ (some 89) _) _
                try simp only [Act.put, List.setIfInBounds_toArray, List.set_cons_zero, List.set_cons_succ]
                refine wpAnyH_take (i := 12) (v := ?_) rfl (by kernel_rfl) (by kernel_rfl) (by kernel_rfl) (fun _ _ _ h => h) (Or.inl ⟨by rfl, ?_⟩) hHeld ?_
                rotate_left 1
                · (intro w hSw; (try dsimp only at hSw); go_simp; try with_reducible rfl)
                change wpAnyH _ _ _ _ _ _ _ (Act.put _ (some 90) _) _
                try simp only [Act.put, List.setIfInBounds_toArray, List.set_cons_zero, List.set_cons_succ]
                refine wpAnyH_take (i := 13) (v := ?_) rfl (by kernel_rfl) (by kernel_rfl) (by kernel_rfl) (fun _ _ _ h => h) (Or.inl ⟨by rfl, ?_⟩) hHeld ?_
                rotate_left 1
                · (intro w hSw; (try dsimp only at hSw); go_simp; try with_reducible rfl)
                change wpAnyH _ _ _ _ _ _ _ (Act.put _ (some 91) _) _
                try simp only [Act.put, List.setIfInBounds_toArray, List.set_cons_zero, List.set_cons_succ]
                refine wpAnyH_take (i := 14) (v := ?_) rfl (by kernel_rfl) (by kernel_rfl) (by kernel_rfl) (fun _ _ _ h => h) (Or.inl ⟨by rfl, ?_⟩) hHeld ?_
                rotate_left 1
                · (intro w hSw; (try dsimp only at hSw); go_simp; try with_reducible rfl)
                change wpAnyH _ _ _ _ _ _ _ (Act.put _ (some 92) _) _
                try simp only [Act.put, List.setIfInBounds_toArray, List.set_cons_zero, List.set_cons_succ]
                refine wpAnyH_take (i := 16) (v := ?_) rfl (by kernel_rfl) (by kernel_rfl) (by kernel_rfl) (fun _ _ _ h => h) (Or.inl ⟨by rfl, ?_⟩) hHeld ?_
                rotate_left 1
                · (intro w hSw; (try dsimp only at hSw); go_simp; try with_reducible rfl)
                change wpAnyH _ _ _ _ _ _ _ (Act.put _ (some 94) _) _
                try simp only [Act.put, List.setIfInBounds_toArray, List.set_cons_zero, List.set_cons_succ]
                refine wpAnyH_take (i := 17) (v := ?_) rfl (by kernel_rfl) (by kernel_rfl) (by kernel_rfl) (fun _ _ _ h => h) (Or.inl ⟨by rfl, ?_⟩) hHeld ?_
                rotate_left 1
                · (intro w hSw; (try dsimp only at hSw); go_simp; try with_reducible rfl)
                change wpAnyH _ _ _ _ _ _ _ (Act.put _ (some 95) _) _
                try simp only [Act.put, List.setIfInBounds_toArray, List.set_cons_zero, List.set_cons_succ]
                refine wpAnyH_ready (rs := [15]) (by kernel_rfl) (by simp) ?_
                refine AllReadyH.cons rfl (fun K hK => ?_) AllReadyH.nil
                go_simp
                with_reducible refine (KD.out _ hb0).mono ?_
                rintro e wl ⟨rfl, hl⟩
                refine hK.out _ _ (HK.out _ hl) (fun hHeld => ?_)
                clear hK K
                try simp only [Act.put, List.setIfInBounds_toArray, List.set_cons_zero, List.set_cons_succ]
                replace hb0 := hl
                refine wpAnyH_ready (rs := [18]) (by kernel_rfl) (by simp) ?_
                refine AllReadyH.cons rfl (fun K hK => ?_) AllReadyH.nil
                go_simp
                with_reducible refine (KR.out _ hb0).mono ?_
                rintro e wl ⟨rfl, hl⟩
                refine hK.out _ _ (HK.out _ hl) (fun hHeld => ?_)
                clear hK K
                try simp only [Act.put, List.setIfInBounds_toArray, List.set_cons_zero, List.set_cons_succ]
                replace hb0 := hl
                refine wpAnyH_take (i := 19) (v := ?_) rfl (by kernel_rfl) (by kernel_rfl) (by kernel_rfl) (fun _ _ _ h => h) (Or.inl ⟨by rfl, ?_⟩) hHeld ?_
                rotate_left 1
                · (intro w hSw; (try dsimp only at hSw); go_simp; try with_reducible rfl)
                change wpAnyH _ _ _ _ _ _ _ (Act.put _ (some 97) _) _
                try simp only [Act.put, List.setIfInBounds_toArray, List.set_cons_zero, List.set_cons_succ]
                refine wpAnyH_take (i := 20) (v := ?_) rfl (by kernel_rfl) (by kernel_rfl) (by kernel_rfl) (fun _ _ _ h => h) (Or.inl ⟨by rfl, ?_⟩) hHeld ?_
                rotate_left 1
                · (intro w hSw; (try dsimp only at hSw); go_simp; try with_reducible rfl)
                change wpAnyH _ _ _ _ _ _ _ (Act.put _ (some 98) _) _
                try simp only [Act.put, List.setIfInBounds_toArray, List.set_cons_zero, List.set_cons_succ]
                refine wpAnyH_take (i := 21) (v := ?_) rfl (by kernel_rfl) (by kernel_rfl) (by kernel_rfl) (fun _ _ _ h => h) (Or.inl ⟨by rfl, ?_⟩) hHeld ?_
                rotate_left 1
                · (intro w hSw; (try dsimp only at hSw); go_simp; try with_reducible rfl)
                change wpAnyH _ _ _ _ _ _ _ (Act.put _ (some 99) _) _
                try simp only [Act.put, List.setIfInBounds_toArray, List.set_cons_zero, List.set_cons_succ]
                refine wpAnyH_take (i := 22) (v := ?_) rfl (by kernel_rfl) (by kernel_rfl) (by kernel_rfl) (fun _ _ _ h => h) (Or.inl ⟨by rfl, ?_⟩) hHeld ?_
                rotate_left 1
                · (intro w hSw; (try dsimp only at hSw); go_simp; try with_reducible rfl)
                change wpAnyH _ _ _ _ _ _ _ (Act.put _ (some 100) _) _
                try simp only [Act.put, List.setIfInBounds_toArray, List.set_cons_zero, List.set_cons_succ]
                refine wpAnyH_take (i := 23) (v := ?_) rfl (by kernel_rfl) (by kernel_rfl) (by kernel_rfl) (fun _ _ _ h => h) (Or.inl ⟨by rfl, ?_⟩) hHeld ?_
                rotate_left 1
                · (intro w hSw; (try dsimp only at hSw); go_simp; try with_reducible rfl)
                change wpAnyH _ _ _ _ _ _ _ (Act.put _ (some 101) _) _
                try simp only [Act.put, List.setIfInBounds_toArray, List.set_cons_zero, List.set_cons_succ]
                refine wpAnyH_take (i := 24) (v := ?_) rfl (by kernel_rfl) (by kernel_rfl) (by kernel_rfl) (fun _ _ _ h => h) (Or.inl ⟨by rfl, ?_⟩) hHeld ?_
                rotate_left 1
                · (intro w hSw; (try dsimp only at hSw); go_simp; try with_reducible rfl)
                change wpAnyH _ _ _ _ _ _ _ (Act.put _ (some 102) _) _
                try simp only [Act.put, List.setIfInBounds_toArray, List.set_cons_zero, List.set_cons_succ]
                refine wpAnyH_take (i := 25) (v := ?_) rfl (by kernel_rfl) (by kernel_rfl) (by kernel_rfl) (fun _ _ _ h => h) (Or.inl ⟨by rfl, ?_⟩) hHeld ?_
                rotate_left 1
                · (intro w hSw; (try dsimp only at hSw); go_simp; try with_reducible rfl)
                change wpAnyH _ _ _ _ _ _ _ (Act.put _ (some 103) _) _
                try simp only [Act.put, List.setIfInBounds_toArray, List.set_cons_zero, List.set_cons_succ]
                refine wpAnyH_done (by kernel_rfl) ?_ _
                refine NoPanic.normal ?_
                have Hl := Lib.hid hl
                clear hl
                go_wp2
                go_roundw
                case rel => exact ⟨k + 1, by omega, by go_num, HP2.out.below Hl.out HP2.out.lt, HD2.out.below Hl.out HD2.out.lt, row_below HQ2.out Hl.out (Nat.le_refl _), HR2.out.below Hl.out HR2.out.lt, below_up HB2.out Hl.out HB2.out.size⟩
                case measure => simp [intOf]; omega
                        | false =>
              simp only [Bool.true_or, Bool.false_or, Bool.true_and, Bool.false_and] at hxp hxd
              cases v <;> simp only [Bool.not_true, Bool.not_false] at hxd hkz2
              all_goals
                go_wp2_with (go_at_call 25; ((with_reducible refine (HL _).out.mono ?_); rintro e w10 ⟨rfl, hb⟩); have HP2 := Lib.hid (Gp.out.below hb Gp.out.lt); have HD2 := Lib.hid (Gd.out.below hb Gd.out.lt); have HQ2 := Lib.hid (row_below Gq.out hb (Nat.le_refl _)); have HR2 := Lib.hid (Gr.out.below hb Gr.out.lt); have HB2 := Lib.hid (below_up Gb.out hb Gb.out.size); clear hb)
                have KP := kp w10 hxp
                have KD := kp w10 hxd
                have KR := kp w10 hxr
                clear hxp hxd hxr
                have HK : Hid (∀ w', Below w10.heap.size w10 w' → (w'.cell? ⟨P, 0, none⟩ = some (.int .i64 (c : Int)) ∧ w'.cell? ⟨P, 1, none⟩ = some (.int .u64 (pm : Int)) ∧ w'.cell? ⟨R, 0, none⟩ = some (.int .i64 (c : Int)) ∧ w'.cell? ⟨R, 1, none⟩ = some (.int .u64 (m : Int)) ∧ w'.cell? ⟨D, 0, none⟩ = some (.int .i64 (c : Int)) ∧ w'.cell? ⟨D, 1, none⟩ = some (.int .u64 (dm : Int)))) := Lib.hid fun w' hb => by
                  have a0 := (HP2.out).below hb (HP2.out).lt
                  have a1 := (HR2.out).below hb (HR2.out).lt
                  have a2 := (HD2.out).below hb (HD2.out).lt
                  exact ⟨a0.c0, a0.c1, a1.c0, a1.c1, a2.c0, a2.c1⟩
                have hb0 := Below.drew (below_self w10.heap.size w10)
                refine wp_region_noPanic ?_
                refine wp_region_held_drew (S := fun w' => w'.cell? ⟨P, 0, none⟩ = some (.int .i64 (c : Int)) ∧ w'.cell? ⟨P, 1, none⟩ = some (.int .u64 (pm : Int)) ∧ w'.cell? ⟨R, 0, none⟩ = some (.int .i64 (c : Int)) ∧ w'.cell? ⟨R, 1, none⟩ = some (.int .u64 (m : Int)) ∧ w'.cell? ⟨D, 0, none⟩ = some (.int .i64 (c : Int)) ∧ w'.cell? ⟨D, 1, none⟩ = some (.int .u64 (dm : Int))) (by kernel_rfl) (HK.out _ hb0) (fun hHeld => ?_)
                refine wpAnyH_take (i := 0) (v := ?_) rfl (by kernel_rfl) (by kernel_rfl) (by kernel_rfl) (fun _ _ _ h => h) (Or.inl ⟨by rfl, ?_⟩) hHeld ?_
                rotate_left 1
                · (intro w hSw; (try dsimp only at hSw); go_simp; try with_reducible rfl)
                change wpAnyH _ _ _ _ _ _ _ (Act.put _ (some 78) _) _
                try simp only [Act.put, List.setIfInBounds_toArray, List.set_cons_zero, List.set_cons_succ]
                refine wpAnyH_take (i := 1) (v := ?_) rfl (by kernel_rfl) (by kernel_rfl) (by kernel_rfl) (fun _ _ _ h => h) (Or.inl ⟨by rfl, ?_⟩) hHeld ?_
                rotate_left 1
                · (intro w hSw; (try dsimp only at hSw); go_simp; try with_reducible rfl)
                change wpAnyH _ _ _ _ _ _ _ (Act.put _ (some 79) _) _
                try simp only [Act.put, List.setIfInBounds_toArray, List.set_cons_zero, List.set_cons_succ]
                refine wpAnyH_take (i := 3) (v := ?_) rfl (by kernel_rfl) (by kernel_rfl) (by kernel_rfl) (fun _ _ _ h => h) (Or.inl ⟨by rfl, ?_⟩) hHeld ?_
                rotate_left 1
                · (intro w hSw; (try dsimp only at hSw); go_simp; try with_reducible rfl)
                change wpAnyH _ _ _ _ _ _ _ (Act.put _ (some 81) _) _
                try simp only [Act.put, List.setIfInBounds_toArray, List.set_cons_zero, List.set_cons_succ]
                refine wpAnyH_take (i := 4) (v := ?_) rfl (by kernel_rfl) (by kernel_rfl) (by kernel_rfl) (fun _ _ _ h => h) (Or.inl ⟨by rfl, ?_⟩) hHeld ?_
                rotate_left 1
                · (intro w hSw; (try dsimp only at hSw); go_simp; try with_reducible rfl)
                change wpAnyH _ _ _ _ _ _ _ (Act.put _ (some 82) _) _
                try simp only [Act.put, List.setIfInBounds_toArray, List.set_cons_zero, List.set_cons_succ]
                refine wpAnyH_ready (rs := [2]) (by kernel_rfl) (by simp) ?_
                refine AllReadyH.cons rfl (fun K hK => ?_) AllReadyH.nil
                go_simp
                with_reducible refine (KP.out _ hb0).mono ?_
                rintro e wl ⟨rfl, hl⟩
                refine hK.out _ _ (HK.out _ hl) (fun hHeld => ?_)
                clear hK K
                try simp only [Act.put, List.setIfInBounds_toArray, List.set_cons_zero, List.set_cons_succ]
                replace hb0 := hl
                refine wpAnyH_ready (rs := [5]) (by kernel_rfl) (by simp) ?_
                refine AllReadyH.cons rfl (fun K hK => ?_) AllReadyH.nil
                go_simp
                with_reducible refine (KR.out _ hb0).mono ?_
                rintro e wl ⟨rfl, hl⟩
                refine hK.out _ _ (HK.out _ hl) (fun hHeld => ?_)
                clear hK K
                try simp only [Act.put, List.setIfInBounds_toArray, List.set_cons_zero, List.set_cons_succ]
                replace hb0 := hl
                refine wpAnyH_take (i := 6) (v := ?_) rfl (by kernel_rfl) (by kernel_rfl) (by kernel_rfl) (fun _ _ _ h => h) (Or.inl ⟨by rfl, ?_⟩) hHeld ?_
                rotate_left 1
                · (intro w hSw; (try dsimp only at hSw); go_simp; try with_reducible rfl)
                change wpAnyH _ _ _ _ _ _ _ (Act.put _ (some 84) _) _
                try simp only [Act.put, List.setIfInBounds_toArray, List.set_cons_zero, List.set_cons_succ]
                refine wpAnyH_take (i := 7) (v := ?_) rfl (by kernel_rfl) (by kernel_rfl) (by kernel_rfl) (fun _ _ _ h => h) (Or.inl ⟨by rfl, ?_⟩) hHeld ?_
                rotate_left 1
                · (intro w hSw; (try dsimp only at hSw); go_simp; try with_reducible rfl)
                change wpAnyH _ _ _ _ _ _ _ (Act.put _ (some 85) _) _
                try simp only [Act.put, List.setIfInBounds_toArray, List.set_cons_zero, List.set_cons_succ]
                refine wpAnyH_take (i := 8) (v := ?_) rfl (by kernel_rfl) (by kernel_rfl) (by kernel_rfl) (fun _ _ _ h => h) (Or.inl ⟨by rfl, ?_⟩) hHeld ?_
                rotate_left 1
                · (intro w hSw; (try dsimp only at hSw); go_simp; try with_reducible rfl)
                change wpAnyH _ _ _ _ _ _ _ (Act.put _ (some 86) _) _
                try simp only [Act.put, List.setIfInBounds_toArray, List.set_cons_zero, List.set_cons_succ]
                refine wpAnyH_take (i := 9) (v := ?_) rfl (by kernel_rfl) (by kernel_rfl) (by kernel_rfl) (fun _ _ _ h => h) (Or.inl ⟨by rfl, ?_⟩) hHeld ?_
                rotate_left 1
                · (intro w hSw; (try dsimp only at hSw); go_simp; try with_reducible rfl)
                change wpAnyH _ _ _ _ _ _ _ (Act.put _ (some 87) _) _
                try simp only [Act.put, List.setIfInBounds_toArray, List.set_cons_zero, List.set_cons_succ]
                refine wpAnyH_take (i := 10) (v := ?_) rfl (by kernel_rfl) (by kernel_rfl) (by kernel_rfl) (fun _ _ _ h => h) (Or.inl ⟨by rfl, ?_⟩) hHeld ?_
                rotate_left 1
                · (intro w hSw; (try dsimp only at hSw); go_simp; try with_reducible rfl)
                change wpAnyH _ _ _ _ _ _ _ (Act.put _ (some 88) _) _
                try simp only [Act.put, List.setIfInBounds_toArray, List.set_cons_zero, List.set_cons_succ]
                refine wpAnyH_take (i := 11) (v := ?_) rfl (by kernel_rfl) (by kernel_rfl) (by kernel_rfl) (fun _ _ _ h => h) (Or.inl ⟨by rfl, ?_⟩) hHeld ?_
                rotate_left 1
                · (intro w hSw; (try dsimp only at hSw); go_simp; try with_reducible rfl)
                change wpAnyH _ _ _ _ _ _ _ (Act.put _ (some 89) _) _
                try simp only [Act.put, List.setIfInBounds_toArray, List.set_cons_zero, List.set_cons_succ]
                refine wpAnyH_take (i := 12) (v := ?_) rfl (by kernel_rfl) (by kernel_rfl) (by kernel_rfl) (fun _ _ _ h => h) (Or.inl ⟨by rfl, ?_⟩) hHeld ?_
                rotate_left 1
                · (intro w hSw; (try dsimp only at hSw); go_simp; try with_reducible rfl)
                change wpAnyH _ _ _ _ _ _ _ (Act.put _ (some 90) _) _
                try simp only [Act.put, List.setIfInBounds_toArray, List.set_cons_zero, List.set_cons_succ]
                refine wpAnyH_take (i := 13) (v := ?_) rfl (by kernel_rfl) (by kernel_rfl) (by kernel_rfl) (fun _ _ _ h => h) (Or.inl ⟨by rfl, ?_⟩) hHeld ?_
                rotate_left 1
                · (intro w hSw; (try dsimp only at hSw); go_simp; try with_reducible rfl)
                change wpAnyH _ _ _ _ _ _ _ (Act.put _ (some 91) _) _
                try simp only [Act.put, List.setIfInBounds_toArray, List.set_cons_zero, List.set_cons_succ]
                refine wpAnyH_take (i := 14) (v := ?_) rfl (by kernel_rfl) (by kernel_rfl) (by kernel_rfl) (fun _ _ _ h => h) (Or.inl ⟨by rfl, ?_⟩) hHeld ?_
                rotate_left 1
                · (intro w hSw; (try dsimp only at hSw); go_simp; try with_reducible rfl)
                change wpAnyH _ _ _ _ _ _ _ (Act.put _ (some 92) _) _
                try simp only [Act.put, List.setIfInBounds_toArray, List.set_cons_zero, List.set_cons_succ]
                refine wpAnyH_take (i := 16) (v := ?_) rfl (by kernel_rfl) (by kernel_rfl) (by kernel_rfl) (fun _ _ _ h => h) (Or.inl ⟨by rfl, ?_⟩) hHeld ?_
                rotate_left 1
                · (intro w hSw; (try dsimp only at hSw); go_simp; try with_reducible rfl)
                change wpAnyH _ _ _ _ _ _ _ (Act.put _ (some 94) _) _
                try simp only [Act.put, List.setIfInBounds_toArray, List.set_cons_zero, List.set_cons_succ]
                refine wpAnyH_take (i := 17) (v := ?_) rfl (by kernel_rfl) (by kernel_rfl) (by kernel_rfl) (fun _ _ _ h => h) (Or.inl ⟨by rfl, ?_⟩) hHeld ?_
                rotate_left 1
                · (intro w hSw; (try dsimp only at hSw); go_simp; try with_reducible rfl)
                change wpAnyH _ _ _ _ _ _ _ (Act.put _ (some 95) _) _
                try simp only [Act.put, List.setIfInBounds_toArray, List.set_cons_zero, List.set_cons_succ]
                refine wpAnyH_ready (rs := [15]) (by kernel_rfl) (by simp) ?_
                refine AllReadyH.cons rfl (fun K hK => ?_) AllReadyH.nil
                go_simp
                with_reducible refine (KD.out _ hb0).mono ?_
                rintro e wl ⟨rfl, hl⟩
                refine hK.out _ _ (HK.out _ hl) (fun hHeld => ?_)
                clear hK K
                try simp only [Act.put, List.setIfInBounds_toArray, List.set_cons_zero, List.set_cons_succ]
                replace hb0 := hl
                refine wpAnyH_ready (rs := [18]) (by kernel_rfl) (by simp) ?_
                refine AllReadyH.cons rfl (fun K hK => ?_) AllReadyH.nil
                go_simp
                with_reducible refine (KR.out _ hb0).mono ?_
                rintro e wl ⟨rfl, hl⟩
                refine hK.out _ _ (HK.out _ hl) (fun hHeld => ?_)
                clear hK K
                try simp only [Act.put, List.setIfInBounds_toArray, List.set_cons_zero, List.set_cons_succ]
                replace hb0 := hl
                refine wpAnyH_take (i := 19) (v := ?_) rfl (by kernel_rfl) (by kernel_rfl) (by kernel_rfl) (fun _ _ _ h => h) (Or.inl ⟨by rfl, ?_⟩) hHeld ?_
                rotate_left 1
                · (intro w hSw; (try dsimp only at hSw); go_simp; try with_reducible rfl)
                change wpAnyH _ _ _ _ _ _ _ (Act.put _ (some 97) _) _
                try simp only [Act.put, List.setIfInBounds_toArray, List.set_cons_zero, List.set_cons_succ]
                refine wpAnyH_take (i := 20) (v := undef) rfl (by kernel_rfl) (by kernel_rfl) (by kernel_rfl) (fun _ _ _ h => h) (Or.inr ⟨by rfl, rfl⟩) hHeld ?_
                change wpAnyH _ _ _ _ _ _ _ (Act.put _ (some 98) _) _
                try simp only [Act.put, List.setIfInBounds_toArray, List.set_cons_zero, List.set_cons_succ]
                refine wpAnyH_take (i := 21) (v := undef) rfl (by kernel_rfl) (by kernel_rfl) (by kernel_rfl) (fun _ _ _ h => h) (Or.inr ⟨by rfl, rfl⟩) hHeld ?_
                change wpAnyH _ _ _ _ _ _ _ (Act.put _ (some 99) _) _
                try simp only [Act.put, List.setIfInBounds_toArray, List.set_cons_zero, List.set_cons_succ]
                refine wpAnyH_take (i := 22) (v := undef) rfl (by kernel_rfl) (by kernel_rfl) (by kernel_rfl) (fun _ _ _ h => h) (Or.inr ⟨by rfl, rfl⟩) hHeld ?_
                change wpAnyH _ _ _ _ _ _ _ (Act.put _ (some 100) _) _
                try simp only [Act.put, List.setIfInBounds_toArray, List.set_cons_zero, List.set_cons_succ]
                refine wpAnyH_take (i := 23) (v := ?_) rfl (by kernel_rfl) (by kernel_rfl) (by kernel_rfl) (fun _ _ _ h => h) (Or.inl ⟨by rfl, ?_⟩) hHeld ?_
                rotate_left 1
                · (intro w hSw; (try dsimp only at hSw); go_simp; try with_reducible rfl)
                change wpAnyH _ _ _ _ _ _ _ (Act.put _ (some 101) _) _
                try simp only [Act.put, List.setIfInBounds_toArray, List.set_cons_zero, List.set_cons_succ]
                refine wpAnyH_take (i := 24) (v := ?_) rfl (by kernel_rfl) (by kernel_rfl) (by kernel_rfl) (fun _ _ _ h => h) (Or.inl ⟨by rfl, ?_⟩) hHeld ?_
                rotate_left 1
                · (intro w hSw; (try dsimp only at hSw); go_simp; try with_reducible rfl)
                change wpAnyH _ _ _ _ _ _ _ (Act.put _ (some 102) _) _
                try simp only [Act.put, List.setIfInBounds_toArray, List.set_cons_zero, List.set_cons_succ]
                refine wpAnyH_take (i := 25) (v := ?_) rfl (by kernel_rfl) (by kernel_rfl) (by kernel_rfl) (fun _ _ _ h => h) (Or.inl ⟨by rfl, ?_⟩) hHeld ?_
                rotate_left 1
                · (intro w hSw; (try dsimp only at hSw); go_simp; try with_reducible rfl)
                change wpAnyH _ _ _ _ _ _ _ (Act.put _ (some 103) _) _
                try simp only [Act.put, List.setIfInBounds_toArray, List.set_cons_zero, List.set_cons_succ]
                refine wpAnyH_done (by kernel_rfl) ?_ _
                refine NoPanic.normal ?_
                have Hl := Lib.hid hl
                clear hl
                go_wp2
                go_roundw
                case rel => exact ⟨k + 1, by omega, by go_num, HP2.out.below Hl.out HP2.out.lt, HD2.out.below Hl.out HD2.out.lt, row_below HQ2.out Hl.out (Nat.le_refl _), HR2.out.below Hl.out HR2.out.lt, below_up HB2.out Hl.out HB2.out.size⟩
                case measure => simp [intOf]; omega
          · have hkc2 : k = c := by omega
            have h0I : decide (k < c) = false := by simp; omega
            clear hkc hkc2 HHp HHd HHr HK3 hP hD HNX
            go_wp2_with (first
              | (go_at_call 25; ((with_reducible refine ((HL _).out).mono ?_); rintro e w21 ⟨rfl, hb⟩)
                 have HB21 := Lib.hid (below_up (Gb.out) hb (Gb.out).size)
                 have r21 := Lib.hid ((Gr.out).below hb (Gr.out).lt)
                 have r21c0 := r21.out.c0
                 have r21c1 := r21.out.c1
                 have r21f0 := r21.out.fz 0
                 have r21f1 := r21.out.fz 1
                 have r21l := r21.out.lt
                 have Qg21 := Lib.hid (row_below (Gq.out) hb (Nat.le_refl _))
                 clear hb)
              | (go_at_call 24; ((with_reducible refine ((HA _).out).mono ?_); rintro e w22 ⟨⟨a9, cap9, rfl, hq9⟩, hb⟩)
                 have HB22 := Lib.hid (below_up (HB21.out) hb (HB21.out).size)
                 have r22 := Lib.hid ((r21.out).below hb (r21.out).lt)
                 have r22c0 := r22.out.c0
                 have r22c1 := r22.out.c1
                 have r22f0 := r22.out.fz 0
                 have r22f1 := r22.out.fz 1
                 have r22l := r22.out.lt
                 have Qg22 := Lib.hid (row_below (Qg21.out) hb (Nat.le_refl _))
                 clear r21c0 r21c1 r21f0 r21f1
                 have Hq9 := Lib.hid hq9
                 clear hq9
                 clear hb)
              | (go_at_call 23; ((with_reducible refine ((HIh.out _ _ _ Qg22.out Hq9.out).out).mono ?_); rintro e w23 ⟨rfl, hb⟩)
                 have HB23 := Lib.hid (below_up (HB22.out) hb (HB22.out).size)
                 have r23 := Lib.hid ((r22.out).below hb (r22.out).lt)
                 have r23c0 := r23.out.c0
                 have r23c1 := r23.out.c1
                 have r23f0 := r23.out.fz 0
                 have r23f1 := r23.out.fz 1
                 have r23l := r23.out.lt
                 have Qg23 := Lib.hid (row_below (Qg22.out) hb (Nat.le_refl _))
                 clear r22c0 r22c1 r22f0 r22f1
                 clear hb)
              | (go_at_call 28; ((with_reducible refine ((HCt _).out).mono ?_); rintro e w24 ⟨rfl, hb⟩)
                 have HB24 := Lib.hid (below_up (HB23.out) hb (HB23.out).size)
                 have r24 := Lib.hid ((r23.out).below hb (r23.out).lt)
                 have r24c0 := r24.out.c0
                 have r24c1 := r24.out.c1
                 have r24f0 := r24.out.fz 0
                 have r24f1 := r24.out.fz 1
                 have r24l := r24.out.lt
                 have Qg24 := Lib.hid (row_below (Qg23.out) hb (Nat.le_refl _))
                 clear r23c0 r23c1 r23f0 r23f1
                 clear hb))
            go_ret
            exact ⟨rfl, HB24.out⟩
      · have hP : ∀ w, Hid (Calls Try.prog 13 #[.agg #[.int .i64 (c : Int), .int .u64 (m : Int)], .int .i64 x2] w fun e w' => e = .returned (.tuple #[.agg #[.int .i64 0, .int .u64 0], .int .i64 2]) ∧ Below w.heap.size w w') := fun w => Lib.hid (by
          have := put_any c m x2 w hc Hm.out
          unfold putN putM putE at this
          rw [if_neg hin, if_neg hin, if_neg hin] at this
          exact this)
        have hD : ∀ w, Hid (Calls Try.prog 15 #[.agg #[.int .i64 (c : Int), .int .u64 (m : Int)], .int .i64 x2] w fun e w' => e = .returned (.tuple #[.agg #[.int .i64 0, .int .u64 0], .int .i64 2]) ∧ Below w.heap.size w w') := fun w => Lib.hid (by
          have := del_any c m x2 w hc Hm.out
          unfold putN delM putE at this
          rw [if_neg hin, if_neg hin, if_neg hin] at this
          exact this)
        by_cases hx : 0 ≤ x2
        · have hx2 : decide (x2 < (c : Int)) = false := by simp; omega
          clear hin
          go_wp2_with (first
            | (go_at_call 27; ((with_reducible refine ((HNX _).out).mono ?_); rintro e w6 ⟨rfl, hb⟩)
               have HB6 := Lib.hid (below_up (Hbw.out) hb (Hbw.out).size)
               have r6 := Lib.hid ((Hat.out).below hb (Hat.out).lt)
               have r6c0 := r6.out.c0
               have r6c1 := r6.out.c1
               have r6f0 := r6.out.fz 0
               have r6f1 := r6.out.fz 1
               have r6l := r6.out.lt
               have Qg6 := Lib.hid (row_below (HQ.out) hb (Nat.le_refl _))
               clear hb)
            | (go_at_call 13; ((with_reducible refine ((hP _).out).mono ?_); rintro e w7 ⟨rfl, hb⟩)
               have HB7 := Lib.hid (below_up (HB6.out) hb (HB6.out).size)
               have r7 := Lib.hid ((r6.out).below hb (r6.out).lt)
               have r7c0 := r7.out.c0
               have r7c1 := r7.out.c1
               have r7f0 := r7.out.fz 0
               have r7f1 := r7.out.fz 1
               have r7l := r7.out.lt
               have Qg7 := Lib.hid (row_below (Qg6.out) hb (Nat.le_refl _))
               clear r6c0 r6c1 r6f0 r6f1
               have HC7p := Lib.hid ((HB7.out).alloc (HB7.out).size (.cells #[.int .i64 ((0 : Nat) : Int), .int .u64 ((0 : Nat) : Int)] 26))
               have p7a := Lib.hid (at_new w7 0 0)
               clear hb)
            | (go_at_call 15; ((with_reducible refine ((hD _).out).mono ?_); rintro e w8 ⟨rfl, hb⟩)
               have HB8 := Lib.hid (below_up (HC7p.out) hb (HC7p.out).size)
               have r8 := Lib.hid (((r7.out).alloc _).below hb ((r7.out).alloc _).lt)
               have r8c0 := r8.out.c0
               have r8c1 := r8.out.c1
               have r8f0 := r8.out.fz 0
               have r8f1 := r8.out.fz 1
               have r8l := r8.out.lt
               have Qg8 := Lib.hid (row_below (row_below (Qg7.out) (bel1 _ _) (Nat.le_refl _)) hb (Nat.le_refl _))
               have p8 := Lib.hid ((p7a.out).below hb (p7a.out).lt)
               have p8c0 := p8.out.c0
               have p8c1 := p8.out.c1
               have p8f0 := p8.out.fz 0
               have p8f1 := p8.out.fz 1
               have p8l := p8.out.lt
               clear r7c0 r7c1 r7f0 r7f1
               have HC8d := Lib.hid ((HB8.out).alloc (HB8.out).size (.cells #[.int .i64 ((0 : Nat) : Int), .int .u64 ((0 : Nat) : Int)] 26))
               have d8a := Lib.hid (at_new w8 0 0)
               clear hb)
            | (go_at_call 25; ((with_reducible refine ((HL _).out).mono ?_); rintro e w9 ⟨rfl, hb⟩)
               have HB9 := Lib.hid (below_up (HC8d.out) hb (HC8d.out).size)
               have r9 := Lib.hid (((r8.out).alloc _).below hb ((r8.out).alloc _).lt)
               have r9c0 := r9.out.c0
               have r9c1 := r9.out.c1
               have r9f0 := r9.out.fz 0
               have r9f1 := r9.out.fz 1
               have r9l := r9.out.lt
               have Qg9 := Lib.hid (row_below (row_below (Qg8.out) (bel1 _ _) (Nat.le_refl _)) hb (Nat.le_refl _))
               have p9 := Lib.hid (((p8.out).alloc _).below hb ((p8.out).alloc _).lt)
               have p9c0 := p9.out.c0
               have p9c1 := p9.out.c1
               have p9f0 := p9.out.fz 0
               have p9f1 := p9.out.fz 1
               have p9l := p9.out.lt
               have d9 := Lib.hid ((d8a.out).below hb (d8a.out).lt)
               have d9c0 := d9.out.c0
               have d9c1 := d9.out.c1
               have d9f0 := d9.out.fz 0
               have d9f1 := d9.out.fz 1
               have d9l := d9.out.lt
               clear r8c0 r8c1 r8f0 r8f1 p8c0 p8c1 p8f0 p8f1
               clear hb))
          go_loopw [16] (fun t wr => t = .int .i64 0 ∧ Row wr a cnt cap (ints L) ∧ At wr R c m ∧ Below w.heap.size w wr) (fun _ _ => 0)
          case atStart => exact ⟨rfl, Qg9.out, r9.out, HB9.out⟩
          case round =>
            obtain ⟨rfl, gq, gr, gb⟩ := hrel
            have Gq := Lib.hid gq
            have Gr := Lib.hid gr
            have Gb := Lib.hid gb
            have g0 := gr.c0
            have g1 := gr.c1
            clear gq gr gb
            by_cases h0 : 0 < c
            · have h0I : (0 : Int) < (c : Int) := by omega
              go_wp2_with (first
                | (go_at_call 25; ((with_reducible refine ((HL _).out).mono ?_); rintro e w21 ⟨rfl, hb⟩)
                   have HB21 := Lib.hid (below_up (Gb.out) hb (Gb.out).size)
                   have r21 := Lib.hid ((Gr.out).below hb (Gr.out).lt)
                   have r21c0 := r21.out.c0
                   have r21c1 := r21.out.c1
                   have r21f0 := r21.out.fz 0
                   have r21f1 := r21.out.fz 1
                   have r21l := r21.out.lt
                   have Qg21 := Lib.hid (row_below (Gq.out) hb (Nat.le_refl _))
                   clear hb)
                | (go_at_call 24; ((with_reducible refine ((HA _).out).mono ?_); rintro e w22 ⟨⟨a9, cap9, rfl, hq9⟩, hb⟩)
                   have HB22 := Lib.hid (below_up (HB21.out) hb (HB21.out).size)
                   have r22 := Lib.hid ((r21.out).below hb (r21.out).lt)
                   have r22c0 := r22.out.c0
                   have r22c1 := r22.out.c1
                   have r22f0 := r22.out.fz 0
                   have r22f1 := r22.out.fz 1
                   have r22l := r22.out.lt
                   have Qg22 := Lib.hid (row_below (Qg21.out) hb (Nat.le_refl _))
                   clear r21c0 r21c1 r21f0 r21f1
                   have Hq9 := Lib.hid hq9
                   clear hq9
                   clear hb)
                | (go_at_call 23; ((with_reducible refine ((HIh.out _ _ _ Qg22.out Hq9.out).out).mono ?_); rintro e w23 ⟨rfl, hb⟩)
                   have HB23 := Lib.hid (below_up (HB22.out) hb (HB22.out).size)
                   have r23 := Lib.hid ((r22.out).below hb (r22.out).lt)
                   have r23c0 := r23.out.c0
                   have r23c1 := r23.out.c1
                   have r23f0 := r23.out.fz 0
                   have r23f1 := r23.out.fz 1
                   have r23l := r23.out.lt
                   have Qg23 := Lib.hid (row_below (Qg22.out) hb (Nat.le_refl _))
                   clear r22c0 r22c1 r22f0 r22f1
                   clear hb)
                | (go_at_call 28; ((with_reducible refine ((HCt _).out).mono ?_); rintro e w24 ⟨rfl, hb⟩)
                   have HB24 := Lib.hid (below_up (HB23.out) hb (HB23.out).size)
                   have r24 := Lib.hid ((r23.out).below hb (r23.out).lt)
                   have r24c0 := r24.out.c0
                   have r24c1 := r24.out.c1
                   have r24f0 := r24.out.fz 0
                   have r24f1 := r24.out.fz 1
                   have r24l := r24.out.lt
                   have Qg24 := Lib.hid (row_below (Qg23.out) hb (Nat.le_refl _))
                   clear r23c0 r23c1 r23f0 r23f1
                   clear hb))
              go_ret
              exact ⟨rfl, HB24.out⟩
            · have h0I : decide (0 < c) = false := by simp; omega
              clear h0
              go_wp2_with (first
                | (go_at_call 25; ((with_reducible refine ((HL _).out).mono ?_); rintro e w21 ⟨rfl, hb⟩)
                   have HB21 := Lib.hid (below_up (Gb.out) hb (Gb.out).size)
                   have r21 := Lib.hid ((Gr.out).below hb (Gr.out).lt)
                   have r21c0 := r21.out.c0
                   have r21c1 := r21.out.c1
                   have r21f0 := r21.out.fz 0
                   have r21f1 := r21.out.fz 1
                   have r21l := r21.out.lt
                   have Qg21 := Lib.hid (row_below (Gq.out) hb (Nat.le_refl _))
                   clear hb)
                | (go_at_call 24; ((with_reducible refine ((HA _).out).mono ?_); rintro e w22 ⟨⟨a9, cap9, rfl, hq9⟩, hb⟩)
                   have HB22 := Lib.hid (below_up (HB21.out) hb (HB21.out).size)
                   have r22 := Lib.hid ((r21.out).below hb (r21.out).lt)
                   have r22c0 := r22.out.c0
                   have r22c1 := r22.out.c1
                   have r22f0 := r22.out.fz 0
                   have r22f1 := r22.out.fz 1
                   have r22l := r22.out.lt
                   have Qg22 := Lib.hid (row_below (Qg21.out) hb (Nat.le_refl _))
                   clear r21c0 r21c1 r21f0 r21f1
                   have Hq9 := Lib.hid hq9
                   clear hq9
                   clear hb)
                | (go_at_call 23; ((with_reducible refine ((HIh.out _ _ _ Qg22.out Hq9.out).out).mono ?_); rintro e w23 ⟨rfl, hb⟩)
                   have HB23 := Lib.hid (below_up (HB22.out) hb (HB22.out).size)
                   have r23 := Lib.hid ((r22.out).below hb (r22.out).lt)
                   have r23c0 := r23.out.c0
                   have r23c1 := r23.out.c1
                   have r23f0 := r23.out.fz 0
                   have r23f1 := r23.out.fz 1
                   have r23l := r23.out.lt
                   have Qg23 := Lib.hid (row_below (Qg22.out) hb (Nat.le_refl _))
                   clear r22c0 r22c1 r22f0 r22f1
                   clear hb)
                | (go_at_call 28; ((with_reducible refine ((HCt _).out).mono ?_); rintro e w24 ⟨rfl, hb⟩)
                   have HB24 := Lib.hid (below_up (HB23.out) hb (HB23.out).size)
                   have r24 := Lib.hid ((r23.out).below hb (r23.out).lt)
                   have r24c0 := r24.out.c0
                   have r24c1 := r24.out.c1
                   have r24f0 := r24.out.fz 0
                   have r24f1 := r24.out.fz 1
                   have r24l := r24.out.lt
                   have Qg24 := Lib.hid (row_below (Qg23.out) hb (Nat.le_refl _))
                   clear r23c0 r23c1 r23f0 r23f1
                   clear hb))
              go_ret
              exact ⟨rfl, HB24.out⟩
        · have hx2 : decide (0 ≤ x2) = false := by simpa using hx
          clear hin
          go_wp2_with (first
            | (go_at_call 27; ((with_reducible refine ((HNX _).out).mono ?_); rintro e w6 ⟨rfl, hb⟩)
               have HB6 := Lib.hid (below_up (Hbw.out) hb (Hbw.out).size)
               have r6 := Lib.hid ((Hat.out).below hb (Hat.out).lt)
               have r6c0 := r6.out.c0
               have r6c1 := r6.out.c1
               have r6f0 := r6.out.fz 0
               have r6f1 := r6.out.fz 1
               have r6l := r6.out.lt
               have Qg6 := Lib.hid (row_below (HQ.out) hb (Nat.le_refl _))
               clear hb)
            | (go_at_call 13; ((with_reducible refine ((hP _).out).mono ?_); rintro e w7 ⟨rfl, hb⟩)
               have HB7 := Lib.hid (below_up (HB6.out) hb (HB6.out).size)
               have r7 := Lib.hid ((r6.out).below hb (r6.out).lt)
               have r7c0 := r7.out.c0
               have r7c1 := r7.out.c1
               have r7f0 := r7.out.fz 0
               have r7f1 := r7.out.fz 1
               have r7l := r7.out.lt
               have Qg7 := Lib.hid (row_below (Qg6.out) hb (Nat.le_refl _))
               clear r6c0 r6c1 r6f0 r6f1
               have HC7p := Lib.hid ((HB7.out).alloc (HB7.out).size (.cells #[.int .i64 ((0 : Nat) : Int), .int .u64 ((0 : Nat) : Int)] 26))
               have p7a := Lib.hid (at_new w7 0 0)
               clear hb)
            | (go_at_call 15; ((with_reducible refine ((hD _).out).mono ?_); rintro e w8 ⟨rfl, hb⟩)
               have HB8 := Lib.hid (below_up (HC7p.out) hb (HC7p.out).size)
               have r8 := Lib.hid (((r7.out).alloc _).below hb ((r7.out).alloc _).lt)
               have r8c0 := r8.out.c0
               have r8c1 := r8.out.c1
               have r8f0 := r8.out.fz 0
               have r8f1 := r8.out.fz 1
               have r8l := r8.out.lt
               have Qg8 := Lib.hid (row_below (row_below (Qg7.out) (bel1 _ _) (Nat.le_refl _)) hb (Nat.le_refl _))
               have p8 := Lib.hid ((p7a.out).below hb (p7a.out).lt)
               have p8c0 := p8.out.c0
               have p8c1 := p8.out.c1
               have p8f0 := p8.out.fz 0
               have p8f1 := p8.out.fz 1
               have p8l := p8.out.lt
               clear r7c0 r7c1 r7f0 r7f1
               have HC8d := Lib.hid ((HB8.out).alloc (HB8.out).size (.cells #[.int .i64 ((0 : Nat) : Int), .int .u64 ((0 : Nat) : Int)] 26))
               have d8a := Lib.hid (at_new w8 0 0)
               clear hb))
          go_loopw [16] (fun t wr => t = .int .i64 0 ∧ Row wr a cnt cap (ints L) ∧ At wr R c m ∧ Below w.heap.size w wr) (fun _ _ => 0)
          case atStart => exact ⟨rfl, row_below (Qg8.out) (bel1 _ _) (Nat.le_refl _), (r8.out).alloc _, HC8d.out⟩
          case round =>
            obtain ⟨rfl, gq, gr, gb⟩ := hrel
            have Gq := Lib.hid gq
            have Gr := Lib.hid gr
            have Gb := Lib.hid gb
            have g0 := gr.c0
            have g1 := gr.c1
            clear gq gr gb
            by_cases h0 : 0 < c
            · have h0I : (0 : Int) < (c : Int) := by omega
              go_wp2_with (first
                | (go_at_call 25; ((with_reducible refine ((HL _).out).mono ?_); rintro e w21 ⟨rfl, hb⟩)
                   have HB21 := Lib.hid (below_up (Gb.out) hb (Gb.out).size)
                   have r21 := Lib.hid ((Gr.out).below hb (Gr.out).lt)
                   have r21c0 := r21.out.c0
                   have r21c1 := r21.out.c1
                   have r21f0 := r21.out.fz 0
                   have r21f1 := r21.out.fz 1
                   have r21l := r21.out.lt
                   have Qg21 := Lib.hid (row_below (Gq.out) hb (Nat.le_refl _))
                   clear hb)
                | (go_at_call 24; ((with_reducible refine ((HA _).out).mono ?_); rintro e w22 ⟨⟨a9, cap9, rfl, hq9⟩, hb⟩)
                   have HB22 := Lib.hid (below_up (HB21.out) hb (HB21.out).size)
                   have r22 := Lib.hid ((r21.out).below hb (r21.out).lt)
                   have r22c0 := r22.out.c0
                   have r22c1 := r22.out.c1
                   have r22f0 := r22.out.fz 0
                   have r22f1 := r22.out.fz 1
                   have r22l := r22.out.lt
                   have Qg22 := Lib.hid (row_below (Qg21.out) hb (Nat.le_refl _))
                   clear r21c0 r21c1 r21f0 r21f1
                   have Hq9 := Lib.hid hq9
                   clear hq9
                   clear hb)
                | (go_at_call 23; ((with_reducible refine ((HIh.out _ _ _ Qg22.out Hq9.out).out).mono ?_); rintro e w23 ⟨rfl, hb⟩)
                   have HB23 := Lib.hid (below_up (HB22.out) hb (HB22.out).size)
                   have r23 := Lib.hid ((r22.out).below hb (r22.out).lt)
                   have r23c0 := r23.out.c0
                   have r23c1 := r23.out.c1
                   have r23f0 := r23.out.fz 0
                   have r23f1 := r23.out.fz 1
                   have r23l := r23.out.lt
                   have Qg23 := Lib.hid (row_below (Qg22.out) hb (Nat.le_refl _))
                   clear r22c0 r22c1 r22f0 r22f1
                   clear hb)
                | (go_at_call 28; ((with_reducible refine ((HCt _).out).mono ?_); rintro e w24 ⟨rfl, hb⟩)
                   have HB24 := Lib.hid (below_up (HB23.out) hb (HB23.out).size)
                   have r24 := Lib.hid ((r23.out).below hb (r23.out).lt)
                   have r24c0 := r24.out.c0
                   have r24c1 := r24.out.c1
                   have r24f0 := r24.out.fz 0
                   have r24f1 := r24.out.fz 1
                   have r24l := r24.out.lt
                   have Qg24 := Lib.hid (row_below (Qg23.out) hb (Nat.le_refl _))
                   clear r23c0 r23c1 r23f0 r23f1
                   clear hb))
              go_ret
              exact ⟨rfl, HB24.out⟩
            · have h0I : decide (0 < c) = false := by simp; omega
              clear h0
              go_wp2_with (first
                | (go_at_call 25; ((with_reducible refine ((HL _).out).mono ?_); rintro e w21 ⟨rfl, hb⟩)
                   have HB21 := Lib.hid (below_up (Gb.out) hb (Gb.out).size)
                   have r21 := Lib.hid ((Gr.out).below hb (Gr.out).lt)
                   have r21c0 := r21.out.c0
                   have r21c1 := r21.out.c1
                   have r21f0 := r21.out.fz 0
                   have r21f1 := r21.out.fz 1
                   have r21l := r21.out.lt
                   have Qg21 := Lib.hid (row_below (Gq.out) hb (Nat.le_refl _))
                   clear hb)
                | (go_at_call 24; ((with_reducible refine ((HA _).out).mono ?_); rintro e w22 ⟨⟨a9, cap9, rfl, hq9⟩, hb⟩)
                   have HB22 := Lib.hid (below_up (HB21.out) hb (HB21.out).size)
                   have r22 := Lib.hid ((r21.out).below hb (r21.out).lt)
                   have r22c0 := r22.out.c0
                   have r22c1 := r22.out.c1
                   have r22f0 := r22.out.fz 0
                   have r22f1 := r22.out.fz 1
                   have r22l := r22.out.lt
                   have Qg22 := Lib.hid (row_below (Qg21.out) hb (Nat.le_refl _))
                   clear r21c0 r21c1 r21f0 r21f1
                   have Hq9 := Lib.hid hq9
                   clear hq9
                   clear hb)
                | (go_at_call 23; ((with_reducible refine ((HIh.out _ _ _ Qg22.out Hq9.out).out).mono ?_); rintro e w23 ⟨rfl, hb⟩)
                   have HB23 := Lib.hid (below_up (HB22.out) hb (HB22.out).size)
                   have r23 := Lib.hid ((r22.out).below hb (r22.out).lt)
                   have r23c0 := r23.out.c0
                   have r23c1 := r23.out.c1
                   have r23f0 := r23.out.fz 0
                   have r23f1 := r23.out.fz 1
                   have r23l := r23.out.lt
                   have Qg23 := Lib.hid (row_below (Qg22.out) hb (Nat.le_refl _))
                   clear r22c0 r22c1 r22f0 r22f1
                   clear hb)
                | (go_at_call 28; ((with_reducible refine ((HCt _).out).mono ?_); rintro e w24 ⟨rfl, hb⟩)
                   have HB24 := Lib.hid (below_up (HB23.out) hb (HB23.out).size)
                   have r24 := Lib.hid ((r23.out).below hb (r23.out).lt)
                   have r24c0 := r24.out.c0
                   have r24c1 := r24.out.c1
                   have r24f0 := r24.out.fz 0
                   have r24f1 := r24.out.fz 1
                   have r24l := r24.out.lt
                   have Qg24 := Lib.hid (row_below (Qg23.out) hb (Nat.le_refl _))
                   clear r23c0 r23c1 r23f0 r23f1
                   clear hb))
              go_ret
              exact ⟨rfl, HB24.out⟩

set_option maxRecDepth 100000 in
theorem lifted (os : Os) (started : os.Started) (H : Type) (enc : TypeId × Value → H) :
    ReturnsInHanded {} Try.checked os 7 .any (Rows.bitsNextSpec.pre6 enc Try.prog Try.f7 Rows.bitsNextRow.domain false) (Rows.bitsNextSpec.post enc Try.prog Try.f7 false true false false) := by
  refine returnsInHanded_of_change (C := Try.checked) own started (by kernel_rfl) Try.func7
    (ChangeSpec.witness6 (enc := enc) (C := Try.checked) false ⟨#[], #[.int .i64 0, .int .u64 0, .int .i64 0], []⟩ 8 (by kernel_rfl) (by kernel_rfl) (by kernel_rfl) (by kernel_rfl)) ?_
  intro W base args ds gs before hval0 hW hcnd _
  have hval : ∀ (j : Nat) t v, Try.f7.params[j]? = some t → args[j]? = some v → Value.okWide Try.prog W .any base t v := hval0
  have hW' := hW
  obtain ⟨p, q, hA0, hV, rfl, hfz, hnd⟩ := hW
  have hA : DataW.TrodAll enc Try.prog W 0 (fun _ => true) true Try.f7.params.toList args.toList ds p := hA0
  rw [Try.params7] at hA hval
  obtain ⟨v0, vs0, d0, ds0, p0, q0, hargs, rfl, rfl, h0, r0'⟩ := trodAll_cons hA
  obtain ⟨v1, vs1, d1, ds1, p1, q1, rfl, rfl, rfl, h1, r1'⟩ := trodAll_cons r0'
  obtain ⟨v2, vs2, d2, ds2, p2, q2, rfl, rfl, rfl, h2, r2'⟩ := trodAll_cons r1'
  obtain ⟨rfl, rfl, rfl⟩ := trodAll_nil r2'
  obtain rfl : args = #[v0, v1, v2] := by cases args; simp_all
  obtain ⟨rfl, rfl⟩ := trodVars_none hV
  obtain ⟨x0, rfl, rfl, rfl, w0⟩ := open_int Try.underlying3 (hval 0 3 v0 rfl rfl) h0
  obtain ⟨x1, rfl, rfl, rfl, w1⟩ := open_int Try.underlying24 (hval 1 24 v1 rfl rfl) h1
  obtain ⟨x2, rfl, rfl, rfl, w2⟩ := open_int Try.underlying3 (hval 2 3 v2 rfl rfl) h2
  clear hA0 hval0
  refine (walk x0 x1 x2 W w0 w1 w2).mono fun e W' ⟨he, bel⟩ => ?_
  subst he
  exact ⟨_, rfl, _, _, _, [], _, [], hW', trodAll_mk1 (shut_bool Try.underlying4 _), (trodAll_cons_mk (shut_int Try.underlying3 w0) (trodAll_cons_mk (shut_int Try.underlying24 w1) (trodAll_cons_mk (shut_int Try.underlying3 w2) trodAll_mk0))), rfl, bel.frame _, fun h => by cases h⟩

theorem over : Rows.bitsNextRow.holds Try.pinned (OpenSpec.ofChange Rows.bitsNextSpec) :=
  OpenClaim.holds_of_wide 7 Try.f7 rfl rfl rfl rfl rfl rfl rfl ⟨rfl, rfl, rfl, rfl, rfl⟩ rfl rfl rfl rfl rfl (by kernel_rfl) Try.func7 (by kernel_rfl)
    (of_decide_eq_true (by kernel_rfl)) (by unfold Func.isWrapper; first | (rw [if_pos (by decide +kernel)]; kernel_rfl) | (rw [if_neg (by decide +kernel)]; exact ⟨rfl, rfl⟩))
    (fun os started H enc _ => lifted os started H enc)

/-- the statement -/
theorem proved : Rows.BitsNextSaid := over
#print axioms proved
end Go.Proofs.Ytcdihcloihnpkaa.bitsNext
