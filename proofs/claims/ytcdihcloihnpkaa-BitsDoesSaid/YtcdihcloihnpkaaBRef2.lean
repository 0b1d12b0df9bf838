/-
  The document's own row: Next, All, Or.
-/
import Derived.Test.YtcdihcloihnpkaaBRef1
namespace Go.Proofs.Ytcdihcloihnpkaa.B
open Go.RowKit
set_option linter.unusedVariables false
set_option linter.unusedSimpArgs false
set_option maxRecDepth 20000

theorem rnext_any (n m : Nat) (i : Int) (w : World) (hn : n ≤ 64) : Calls Try.prog 30 #[RV n m, .int .i64 i] w fun e w' => e = .returned (.tuple #[.int .i64 (M.nextI n m i), .bool (M.nextB n m i)]) ∧ Below w.heap.size w w' := by
  have hnI : (n : Int) ≤ 64 := by omega
  go_enter Try.func30, Try.ntmps30
  go_wp2_with (refine wpList_box30 rfl _ rfl rfl ?_; intro w1 hw1; have H1 := Lib.hid (hw1 ▸ rat_new w n m); have B1 := Lib.hid (hw1 ▸ bel1 w _ : Below w.heap.size w w1); clear hw1)
  go_loopw [6] (fun t wr => ∃ (k : Nat), k ≤ n ∧ t = .int .i64 k ∧ Hid (∀ j, j < k → i ≤ (j : Int) → m.testBit j = false) ∧ RAt wr w.heap.size n m ∧ Below w.heap.size w wr) (fun t _ => n - (intOf t).toNat)
  case atStart => exact ⟨0, by omega, rfl, Lib.hid fun j hj => by omega, H1.out, B1.out⟩
  case round =>
    obtain ⟨k, hk, rfl, Hn, hat, hbw⟩ := hrel
    have Hat := Lib.hid hat
    have Hbw := Lib.hid hbw
    have z0 := hat.c0
    clear hbw hat H1 B1
    by_cases hlt : k < n
    · have hk64 : (k : Int) < 64 := by omega
      have z1 := Hat.out.bit (k := k) (by omega)
      generalize hv : m.testBit k = v at *
      have Hv := Lib.hid hv
      clear hv
      by_cases hi : i ≤ (k : Int)
      · cases v with
        | true =>
          go_wp2
          go_ret2
          refine ⟨?_, Hbw.out⟩
          show Ending.returned (.tuple #[.int .i64 (k : Int), .bool true]) = _
          unfold M.nextI M.nextB
          rw [M.next_some hlt hi Hv.out Hn.out]
          rfl
        | false =>
          go_wp2
          go_roundw
          case rel => exact ⟨k + 1, by omega, by go_num, Lib.hid fun j hj hij => by
            rcases Nat.lt_or_ge j k with h | h
            · exact Hn.out j h hij
            · obtain rfl : j = k := by omega
              exact Hv.out, Hat.out, Hbw.out⟩
          case measure => simp [intOf]; omega
      · have hi2 : decide (i ≤ (k : Int)) = false := by simpa using hi
        go_wp2_with fail
        go_roundw
        case rel => exact ⟨k + 1, by omega, by go_num, Lib.hid fun j hj hij => by
            rcases Nat.lt_or_ge j k with h | h
            · exact Hn.out j h hij
            · obtain rfl : j = k := by omega
              exact absurd hij hi, Hat.out, Hbw.out⟩
        case measure => simp [intOf]; omega
    · obtain rfl : n = k := by omega
      have hnn : decide (n < n) = false := by simp
      clear hlt
      go_wp2
      go_ret2
      refine ⟨?_, Hbw.out⟩
      show Ending.returned (.tuple #[.int .i64 0, .bool false]) = _
      unfold M.nextI M.nextB
      rw [M.next_none Hn.out]
      rfl

set_option maxHeartbeats 1000000 in
theorem rall_any (n m : Nat) (w : World) (hn : n ≤ 64) : Calls Try.prog 31 #[RV n m] w fun e w' => ∃ a cap, e = .returned (.slice a (M.all n m).length cap) ∧ Row w' a (M.all n m).length cap (ints (M.all n m)) ∧ Below w.heap.size w w' := by
  have hnI : (n : Int) ≤ 64 := by omega
  go_enter Try.func31, Try.ntmps31
  go_wp2_with (refine wpList_box30 rfl _ rfl rfl ?_; intro w1 hw1; have H1 := Lib.hid (hw1 ▸ rat_new w n m); have B1 := Lib.hid (hw1 ▸ bel1 w _ : Below w.heap.size w w1); have hs1 : w1.heap.size = w.heap.size + 1 := (by rw [hw1]; exact size1 _ _); clear hw1)
  have ho := own_lit 3 w1 (w.heap.size + 1) [] (by omega) (by simp)
  rw [hs1] at ho
  have O3 := Lib.hid ho
  have H2 := Lib.hid (H1.out.alloc (.cells #[] 3))
  have B2 := Lib.hid (B1.out.alloc B1.out.size (.cells #[] 3))
  clear ho
  generalize hgw : w1.alloc (.cells #[] 3) = w2 at *
  have ho2 := O3.out
  go_loopw [3, 4] (fun v t wr => ∃ (k c cap : Nat) (a : Option Addr), k ≤ n ∧ t = .int .i64 k ∧ v = .slice a c cap ∧ c = (M.all k m).length ∧ Own 3 wr (w.heap.size + 1) a c cap (ints (M.all k m)) ∧ RAt wr w.heap.size n m ∧ Below w.heap.size w wr) (fun _ t _ => n - (intOf t).toNat)
  case atStart => exact ⟨0, 0, 0, _, by omega, rfl, rfl, rfl, ho2, H2.out, B2.out⟩
  case round =>
    obtain ⟨k, c, cap, a, hk, rfl, rfl, hc, ho, hat, hbw⟩ := hrel
    have Ho := Lib.hid ho
    have Hat := Lib.hid hat
    have Hbw := Lib.hid hbw
    have hcl : c ≤ 64 := by have := M.all_len k m; omega
    have Hc := Lib.hid hc
    have z0 := hat.c0
    clear ho hbw hat hc ho2 hs1
    by_cases hlt : k < n
    · have hk64 : (k : Int) < 64 := by omega
      have z1 := Hat.out.bit (k := k) (by omega)
      have HY := Lib.hid (@M.all_yes k m)
      have HN := Lib.hid (@M.all_no k m)
      generalize hv : m.testBit k = v at *
      cases v with
      | true =>
        have HM2 := Lib.hid (HY.out rfl)
        clear hv HY HN
        go_wp2_with (at_builtin
                     have Ho1 := Lib.hid (own_alloc Ho.out (.cells #[.int .i64 (k : Int)] 3))
                     refine wpList_append_int _ rfl (.tmp 16) (.tmp 18) rfl (w.heap.size + 1) a c cap (M.all k m) rfl Ho1.out _ 1 k rfl (row_one _ 3 _) (by omega) (by have := Hat.out.lt; simp; omega) ?_
                     intro a2 cap2 w4 ho2 hb2
                     have Ho2 := Lib.hid ho2
                     have Hb2 := Lib.hid hb2
                     clear ho2 hb2 Ho1)
        go_roundw
        case rel => exact ⟨k + 1, c + 1, cap2, a2, by omega, by go_num, rfl, by rw [HM2.out, Hc.out]; simp, by rw [HM2.out]; exact Ho2.out, (Hat.out.alloc _).below Hb2.out (by omega), (Hbw.out.alloc Hbw.out.size _).trans (Hb2.out.mono (by omega))⟩
        case measure => simp [intOf]; omega
      | false =>
        have HM2 := Lib.hid (HN.out rfl)
        clear hv HY HN
        go_wp2
        go_roundw
        case rel => exact ⟨k + 1, c, cap, a, by omega, by go_num, rfl, by rw [HM2.out]; exact Hc.out, by rw [HM2.out]; exact Ho.out, Hat.out, Hbw.out⟩
        case measure => simp [intOf]; omega
    · obtain rfl : n = k := by omega
      have hnn : decide (n < n) = false := by simp
      clear hlt
      go_wp2
      go_ret
      refine ⟨a, cap, ?_, by rw [← Hc.out]; exact (own_row Ho.out).1, Hbw.out⟩
      show Ending.returned (.slice a c cap) = _
      rw [Hc.out]

theorem or_step {m j i : Nat} : ∀ x, (m ||| j % 2 ^ (i + 1)).testBit x = if x = i then (m.testBit i || j.testBit i) else (m ||| j % 2 ^ i).testBit x := fun x => by
  rw [Nat.testBit_or, Nat.testBit_or, Nat.testBit_mod_two_pow, Nat.testBit_mod_two_pow]
  by_cases e : x = i
  · subst e; simp
  · rw [if_neg e]
    by_cases h : x < i
    · have h2 : x < i + 1 := by omega
      simp [h, h2]
    · have h2 : ¬ x < i + 1 := by omega
      simp [h, h2]
theorem or_at {m j i : Nat} : (m ||| j % 2 ^ i).testBit i = m.testBit i := by
  rw [Nat.testBit_or, Nat.testBit_mod_two_pow]
  simp

set_option maxHeartbeats 1000000 in
theorem ror_any (n m k j : Nat) (w : World) (hn : n ≤ 64) (hj : j < 2 ^ k) : Calls Try.prog 17 #[RV n m, RV k j] w fun e w' => e = .returned (.tuple #[RV (orN n k) (orM n m k j), .int .i64 (orE n k)]) ∧ Below w.heap.size w w' := by
  unfold orN B.orM orE
  by_cases h1 : n = k
  · subst h1
    rw [if_pos rfl, if_pos rfl, if_pos rfl]
    have HJ := Lib.hid hj
    have hnI : (n : Int) ≤ 64 := by omega
    have hne : ((n : Int) != (n : Int)) = false := by simp
    clear hj
    go_enter Try.func17, Try.ntmps17
    go_wp2_with (first
      | (refine wpList_box30 rfl (.tmp 0) rfl rfl ?_; intro w1 hw1; have H1 := Lib.hid (hw1 ▸ rat_new w n m); have B1 := Lib.hid (hw1 ▸ bel1 w _ : Below w.heap.size w w1); have hs1 : w1.heap.size = w.heap.size + 1 := (by rw [hw1]; exact size1 _ _); clear hw1)
      | (refine wpList_box30 rfl (.tmp 1) rfl rfl ?_; intro w2 hw2; have K2 := Lib.hid (hs1 ▸ hw2 ▸ rat_new w1 n j : RAt w2 (w.heap.size + 1) n j); have H2 := Lib.hid (hw2 ▸ H1.out.alloc _ : RAt w2 w.heap.size n m); have B2 := Lib.hid (hw2 ▸ (B1.out.alloc B1.out.size _) : Below w.heap.size w w2); have hs2 : w2.heap.size = w.heap.size + 2 := (by rw [hw2, size1, hs1]); clear hw2)
      | (refine wpList_alloc30 rfl rfl ?_; intro w3 hw3; have R3 := Lib.hid (hs2 ▸ hw3 ▸ rat_new w2 0 0 : RAt w3 (w.heap.size + 2) 0 0); have K3 := Lib.hid (hw3 ▸ K2.out.alloc _ : RAt w3 (w.heap.size + 1) n j); have H3 := Lib.hid (hw3 ▸ H2.out.alloc _ : RAt w3 w.heap.size n m); have B3 := Lib.hid (hw3 ▸ (B2.out.alloc B2.out.size _) : Below w.heap.size w w3); have z0 := H3.out.c0; have z1 := K3.out.c0; clear hw3))
    go_loopw [6] (fun t wr => ∃ i : Nat, i ≤ n ∧ t = .int .i64 i ∧ RAt wr w.heap.size n (m ||| j % 2 ^ i) ∧ RAt wr (w.heap.size + 1) n j ∧ RAt wr (w.heap.size + 2) 0 0 ∧ Below w.heap.size w wr) (fun t _ => n - (intOf t).toNat)
    case atStart => exact ⟨0, by omega, rfl, by rw [Nat.pow_zero, Nat.mod_one, Nat.or_zero]; exact H3.out, K3.out, R3.out, B3.out⟩
    case round =>
      obtain ⟨i, hi, rfl, ga, gb, gr, gw⟩ := hrel
      have Ga := Lib.hid ga
      have Gb := Lib.hid gb
      have Gr := Lib.hid gr
      have Gw := Lib.hid gw
      have y0 := ga.c0
      clear ga gb gr gw z0 z1
      by_cases hlt : i < n
      · have hi64 : (i : Int) < 64 := by omega
        have hi64N : i < 64 := by omega
        have y1 := Ga.out.bit (k := i) (by omega)
        have y2 := Gb.out.bit (k := i) (by omega)
        have y3 := Ga.out.fz (1 + i)
        rw [or_at] at y1
        have HO := Lib.hid (@or_step m j i)
        generalize m ||| j % 2 ^ i = q at *
        generalize hq2 : m ||| j % 2 ^ (i + 1) = q2 at *
        have Hq2 := Lib.hid hq2
        clear hq2
        generalize m.testBit i = u at *
        generalize j.testBit i = v at *
        cases u with
        | true =>
          have HS := Lib.hid (Ga.out.setBit hi64N (m' := q2) (v := true) (fun x => by rw [HO.out x, Bool.true_or]))
          go_wp2
          go_roundw
          case rel => exact ⟨i + 1, by omega, by go_num, by rw [Hq2.out]; exact HS.out, Gb.out.far (by simp) _, Gr.out.far (by simp) _, Gw.out.setCell (by simp) _⟩
          case measure => simp [intOf]; omega
        | false =>
          have HS := Lib.hid (Ga.out.setBit hi64N (m' := q2) (v := v) (fun x => by rw [HO.out x, Bool.false_or]))
          go_wp2
          go_roundw
          case rel => exact ⟨i + 1, by omega, by go_num, by rw [Hq2.out]; exact HS.out, Gb.out.far (by simp) _, Gr.out.far (by simp) _, Gw.out.setCell (by simp) _⟩
          case measure => simp [intOf]; omega
      · obtain rfl : n = i := by omega
        have hnn : decide (n < n) = false := by simp
        rw [Nat.mod_eq_of_lt HJ.out] at Ga
        clear hlt
        go_wp2_with (first
          | (refine wpList_load30 rfl _ rfl w.heap.size rfl Ga.out ?_)
          | (refine wpList_store30 rfl _ _ rfl (w.heap.size + 2) rfl rfl Gr.out.there ?_; intro w5 hw5; have R5 := Lib.hid (hw5 ▸ RAt.store Gr.out n (m ||| j)); have B5 := Lib.hid (hw5 ▸ below_setCells (by omega) _ _ Gw.out : Below w.heap.size w w5); clear hw5))
        exact bodyPost_ret (results_two Try.results17 rfl rfl R5.out) rfl ⟨rfl, B5.out⟩
  · rw [if_neg h1, if_neg h1, if_neg h1]
    have hne : ((n : Int) != (k : Int)) = true := by simp; omega
    clear hj h1
    go_enter Try.func17, Try.ntmps17
    go_wp2_with (first
      | (refine wpList_box30 rfl (.tmp 0) rfl rfl ?_; intro w1 hw1; have H1 := Lib.hid (hw1 ▸ rat_new w n m); have B1 := Lib.hid (hw1 ▸ bel1 w _ : Below w.heap.size w w1); have hs1 : w1.heap.size = w.heap.size + 1 := (by rw [hw1]; exact size1 _ _); clear hw1)
      | (refine wpList_box30 rfl (.tmp 1) rfl rfl ?_; intro w2 hw2; have K2 := Lib.hid (hs1 ▸ hw2 ▸ rat_new w1 k j : RAt w2 (w.heap.size + 1) k j); have H2 := Lib.hid (hw2 ▸ H1.out.alloc _ : RAt w2 w.heap.size n m); have B2 := Lib.hid (hw2 ▸ (B1.out.alloc B1.out.size _) : Below w.heap.size w w2); have hs2 : w2.heap.size = w.heap.size + 2 := (by rw [hw2, size1, hs1]); clear hw2)
      | (refine wpList_alloc30 rfl rfl ?_; intro w3 hw3; have R3 := Lib.hid (hs2 ▸ hw3 ▸ rat_new w2 0 0 : RAt w3 (w.heap.size + 2) 0 0); have K3 := Lib.hid (hw3 ▸ K2.out.alloc _ : RAt w3 (w.heap.size + 1) k j); have H3 := Lib.hid (hw3 ▸ H2.out.alloc _ : RAt w3 w.heap.size n m); have B3 := Lib.hid (hw3 ▸ (B2.out.alloc B2.out.size _) : Below w.heap.size w w3); have z0 := H3.out.c0; have z1 := K3.out.c0; clear hw3)
      | (refine wpList_build30 rfl rfl ?_)
      | (refine wpList_store30 rfl _ _ rfl (w.heap.size + 2) rfl rfl R3.out.there ?_; intro w5 hw5; have R5 := Lib.hid (hw5 ▸ RAt.store R3.out 0 0); have B5 := Lib.hid (hw5 ▸ below_setCells (by omega) _ _ B3.out : Below w.heap.size w w5); clear hw5))
    exact bodyPost_ret (results_two Try.results17 rfl rfl R5.out) rfl ⟨rfl, B5.out⟩
end Go.Proofs.Ytcdihcloihnpkaa.B
