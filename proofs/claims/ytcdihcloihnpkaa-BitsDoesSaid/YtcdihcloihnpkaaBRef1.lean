/-
  The document's own row: New, Set, Has, Next, All.
-/
import Derived.Test.YtcdihcloihnpkaaBRef0
namespace Go.Proofs.Ytcdihcloihnpkaa.B
open Go.RowKit
set_option linter.unusedVariables false
set_option linter.unusedSimpArgs false
set_option maxRecDepth 20000

theorem rnew_any (n : Int) (w : World) : Calls Try.prog 12 #[.int .i64 n] w fun e w' => e = .returned (RV (M.len n) 0) ∧ Below w.heap.size w w' := by
  unfold M.len
  by_cases h1 : 0 ≤ n
  · by_cases h2 : n ≤ 64
    · rw [if_pos ⟨h1, h2⟩]
      obtain ⟨k, rfl⟩ := Int.eq_ofNat_of_zero_le h1
      go_enter Try.func12, Try.ntmps12
      go_wp2_with (first
        | (refine wpList_alloc30 rfl rfl ?_; intro w1 hw1; have H1 := Lib.hid (hw1 ▸ rat_new w 0 0); have B1 := Lib.hid (hw1 ▸ bel1 w _ : Below w.heap.size w w1); clear hw1)
        | (refine wpList_build30n rfl _ rfl rfl ?_)
        | (refine wpList_store30 rfl _ _ rfl w.heap.size rfl rfl H1.out.there ?_; intro w2 hw2; have H2 := Lib.hid (hw2 ▸ H1.out.store k 0); have B2 := Lib.hid (hw2 ▸ below_setCells (Nat.le_refl _) _ _ B1.out : Below w.heap.size w w2); clear hw2))
      exact bodyPost_ret (results_one Try.results12 rfl H2.out) rfl ⟨by simp, B2.out⟩
    · rw [if_neg (show ¬ (0 ≤ n ∧ n ≤ 64) from fun h => h2 h.2)]
      go_enter Try.func12, Try.ntmps12
      go_wp2_with (first
        | (refine wpList_alloc30 rfl rfl ?_; intro w1 hw1; have H1 := Lib.hid (hw1 ▸ rat_new w 0 0); have B1 := Lib.hid (hw1 ▸ bel1 w _ : Below w.heap.size w w1); clear hw1)
        | (refine wpList_build30 rfl rfl ?_)
        | (refine wpList_store30 rfl _ _ rfl w.heap.size rfl rfl H1.out.there ?_; intro w2 hw2; have H2 := Lib.hid (hw2 ▸ H1.out.store 0 0); have B2 := Lib.hid (hw2 ▸ below_setCells (Nat.le_refl _) _ _ B1.out : Below w.heap.size w w2); clear hw2))
      exact bodyPost_ret (results_one Try.results12 rfl H2.out) rfl ⟨by simp, B2.out⟩
  · rw [if_neg (show ¬ (0 ≤ n ∧ n ≤ 64) from fun h => h1 h.1)]
    go_enter Try.func12, Try.ntmps12
    go_wp2_with (first
      | (refine wpList_alloc30 rfl rfl ?_; intro w1 hw1; have H1 := Lib.hid (hw1 ▸ rat_new w 0 0); have B1 := Lib.hid (hw1 ▸ bel1 w _ : Below w.heap.size w w1); clear hw1)
      | (refine wpList_build30 rfl rfl ?_)
      | (refine wpList_store30 rfl _ _ rfl w.heap.size rfl rfl H1.out.there ?_; intro w2 hw2; have H2 := Lib.hid (hw2 ▸ H1.out.store 0 0); have B2 := Lib.hid (hw2 ▸ below_setCells (Nat.le_refl _) _ _ B1.out : Below w.heap.size w w2); clear hw2))
    exact bodyPost_ret (results_one Try.results12 rfl H2.out) rfl ⟨by simp, B2.out⟩

def setM (n m : Nat) (i : Int) (b : Bool) : Nat := if b then putM n m i else delM n m i
theorem setM_in {n m k : Nat} {b : Bool} (hk : k < n) (hn : n ≤ 64) (hm : m < 2 ^ n) : ∀ j, (setM n m (k : Int) b).testBit j = if j = k then b else m.testBit j := fun j => by
  have h : 0 ≤ (k : Int) ∧ (k : Int) < (n : Int) := ⟨by omega, by omega⟩
  unfold setM putM delM
  rw [if_pos h, if_pos h, Int.toNat_natCast]
  cases b with
  | true =>
    rw [if_pos rfl, M.put_bit]
    by_cases e : j = k
    · subst e; simp
    · have e2 : ¬ k = j := fun h => e h.symm
      simp [e, e2]
  | false =>
    rw [if_neg (by simp), M.del_bit (by omega) (M.lt64 hn hm)]
    by_cases e : j = k
    · subst e; simp
    · have e2 : ¬ k = j := fun h => e h.symm
      simp [e, e2]
theorem setM_out {n m : Nat} {i : Int} {b : Bool} (h : ¬ (0 ≤ i ∧ i < (n : Int))) : setM n m i b = 0 := by
  unfold setM putM delM
  rw [if_neg h, if_neg h]
  simp

theorem rset_any (n m : Nat) (i : Int) (b : Bool) (w : World) (hn : n ≤ 64) (hm : m < 2 ^ n) : Calls Try.prog 14 #[RV n m, .int .i64 i, .bool b] w fun e w' => e = .returned (.tuple #[RV (putN n i) (setM n m i b), .int .i64 (putE n i)]) ∧ Below w.heap.size w w' := by
  by_cases h1 : 0 ≤ i ∧ i < (n : Int)
  · obtain ⟨h2, h3⟩ := h1
    obtain ⟨k, rfl⟩ := Int.eq_ofNat_of_zero_le h2
    have hk : k < n := by omega
    have HS := Lib.hid (setM_in (b := b) hk hn hm)
    have hN : putN n (k : Int) = n := (putM_in (n := n) (m := m) hk).1
    have hE : putE n (k : Int) = 0 := (putM_in (n := n) (m := m) hk).2.2
    rw [hN, hE]
    generalize setM n m (k : Int) b = m2 at *
    have hk64 : (k : Int) < 64 := by omega
    have hk64N : k < 64 := by omega
    have hge : decide ((n : Int) ≤ (k : Int)) = false := by simp; omega
    have hgeN : decide (n ≤ k) = false := by simp; omega
    have hlt0 : decide ((k : Int) < 0) = false := by simp
    clear hm hN hE
    go_enter Try.func14, Try.ntmps14
    go_wp2_with (first
      | (refine wpList_box30 rfl _ rfl rfl ?_; intro w1 hw1; have H1 := Lib.hid (hw1 ▸ rat_new w n m); have B1 := Lib.hid (hw1 ▸ bel1 w _ : Below w.heap.size w w1); have hs1 : w1.heap.size = w.heap.size + 1 := (by rw [hw1]; exact size1 _ _); clear hw1)
      | (refine wpList_alloc30 rfl rfl ?_; intro w2 hw2; have R2 := Lib.hid (hs1 ▸ hw2 ▸ rat_new w1 0 0 : RAt w2 (w.heap.size + 1) 0 0); have H2 := Lib.hid (hw2 ▸ H1.out.alloc _ : RAt w2 w.heap.size n m); have B2 := Lib.hid (hw2 ▸ (B1.out.alloc B1.out.size _) : Below w.heap.size w w2); have z0 := H2.out.c0; have z1 := H2.out.bit hk64N; have z2 := H2.out.fz (1 + k); clear hw2)
      | (refine wpList_load30 rfl _ rfl w.heap.size rfl (H2.out.setBit hk64N HS.out) ?_)
      | (refine wpList_store30 rfl _ _ rfl (w.heap.size + 1) rfl rfl (RAt.there (R2.out.far (by simp) _)) ?_; intro w4 hw4; have R4 := Lib.hid (hw4 ▸ RAt.store (R2.out.far (p := ⟨w.heap.size, 1 + k, none⟩) (by simp) (.bool b)) n m2); have B4 := Lib.hid (hw4 ▸ below_setCells (Nat.le_succ _) _ _ (B2.out.setCell (p := ⟨w.heap.size, 1 + k, none⟩) (Nat.le_refl _) (.bool b)) : Below w.heap.size w w4); clear hw4))
    exact bodyPost_ret (results_two Try.results14 rfl rfl R4.out) rfl ⟨rfl, B4.out⟩
  · have hN : putN n i = 0 := by unfold putN; rw [if_neg h1]
    have hE : putE n i = 2 := by unfold putE; rw [if_neg h1]
    rw [hN, hE, setM_out h1]
    clear hm hN hE
    by_cases h2 : i < 0
    · have h3 : decide (i < 0) = true := by simpa using h2
      clear h1
      go_enter Try.func14, Try.ntmps14
      go_wp2_with (first
        | (refine wpList_box30 rfl _ rfl rfl ?_; intro w1 hw1; have H1 := Lib.hid (hw1 ▸ rat_new w n m); have B1 := Lib.hid (hw1 ▸ bel1 w _ : Below w.heap.size w w1); have hs1 : w1.heap.size = w.heap.size + 1 := (by rw [hw1]; exact size1 _ _); clear hw1)
        | (refine wpList_alloc30 rfl rfl ?_; intro w2 hw2; have R2 := Lib.hid (hs1 ▸ hw2 ▸ rat_new w1 0 0 : RAt w2 (w.heap.size + 1) 0 0); have H2 := Lib.hid (hw2 ▸ H1.out.alloc _ : RAt w2 w.heap.size n m); have B2 := Lib.hid (hw2 ▸ (B1.out.alloc B1.out.size _) : Below w.heap.size w w2); have z0 := H2.out.c0; clear hw2)
        | (refine wpList_build30 rfl rfl ?_)
        | (refine wpList_store30 rfl _ _ rfl (w.heap.size + 1) rfl rfl R2.out.there ?_; intro w4 hw4; have R4 := Lib.hid (hw4 ▸ RAt.store R2.out 0 0); have B4 := Lib.hid (hw4 ▸ below_setCells (Nat.le_succ _) _ _ B2.out : Below w.heap.size w w4); clear hw4))
      exact bodyPost_ret (results_two Try.results14 rfl rfl R4.out) rfl ⟨rfl, B4.out⟩
    · have h3 : decide (i < 0) = false := by simpa using h2
      have h4 : (n : Int) ≤ i := by omega
      clear h1 h2
      go_enter Try.func14, Try.ntmps14
      go_wp2_with (first
        | (refine wpList_box30 rfl _ rfl rfl ?_; intro w1 hw1; have H1 := Lib.hid (hw1 ▸ rat_new w n m); have B1 := Lib.hid (hw1 ▸ bel1 w _ : Below w.heap.size w w1); have hs1 : w1.heap.size = w.heap.size + 1 := (by rw [hw1]; exact size1 _ _); clear hw1)
        | (refine wpList_alloc30 rfl rfl ?_; intro w2 hw2; have R2 := Lib.hid (hs1 ▸ hw2 ▸ rat_new w1 0 0 : RAt w2 (w.heap.size + 1) 0 0); have H2 := Lib.hid (hw2 ▸ H1.out.alloc _ : RAt w2 w.heap.size n m); have B2 := Lib.hid (hw2 ▸ (B1.out.alloc B1.out.size _) : Below w.heap.size w w2); have z0 := H2.out.c0; clear hw2)
        | (refine wpList_build30 rfl rfl ?_)
        | (refine wpList_store30 rfl _ _ rfl (w.heap.size + 1) rfl rfl R2.out.there ?_; intro w4 hw4; have R4 := Lib.hid (hw4 ▸ RAt.store R2.out 0 0); have B4 := Lib.hid (hw4 ▸ below_setCells (Nat.le_succ _) _ _ B2.out : Below w.heap.size w w4); clear hw4))
      exact bodyPost_ret (results_two Try.results14 rfl rfl R4.out) rfl ⟨rfl, B4.out⟩

theorem rhas_any (n m : Nat) (i : Int) (w : World) (hn : n ≤ 64) : Calls Try.prog 32 #[RV n m, .int .i64 i] w fun e w' => e = .returned (.bool (has n m i)) ∧ Below w.heap.size w w' := by
  unfold has
  by_cases h1 : 0 ≤ i ∧ i < (n : Int)
  · rw [decide_eq_true h1]
    obtain ⟨h2, h3⟩ := h1
    obtain ⟨k, rfl⟩ := Int.eq_ofNat_of_zero_le h2
    have hk : k < n := by omega
    have hk64 : (k : Int) < 64 := by omega
    have hk64N : k < 64 := by omega
    rw [Int.toNat_natCast, Bool.true_and]
    generalize hv : m.testBit k = v
    have Hv := Lib.hid hv
    clear hv
    go_enter Try.func32, Try.ntmps32
    go_wp2_with (refine wpList_box30 rfl _ rfl rfl ?_; intro w1 hw1; have H1 := Lib.hid (hw1 ▸ rat_new w n m); have B1 := Lib.hid (hw1 ▸ bel1 w _ : Below w.heap.size w w1); have z0 := H1.out.c0; have z1 := H1.out.bit hk64N; rw [Hv.out] at z1; clear hw1)
    go_ret
    exact ⟨rfl, B1.out⟩
  · rw [decide_eq_false h1, Bool.false_and]
    by_cases h2 : 0 ≤ i
    · have h3 : decide (i < (n : Int)) = false := by simp; omega
      clear h1
      go_enter Try.func32, Try.ntmps32
      go_wp2_with (refine wpList_box30 rfl _ rfl rfl ?_; intro w1 hw1; have H1 := Lib.hid (hw1 ▸ rat_new w n m); have B1 := Lib.hid (hw1 ▸ bel1 w _ : Below w.heap.size w w1); have z0 := H1.out.c0; clear hw1)
      go_ret
      exact ⟨rfl, B1.out⟩
    · have h3 : decide (0 ≤ i) = false := by simpa using h2
      clear h1
      go_enter Try.func32, Try.ntmps32
      go_wp2_with (refine wpList_box30 rfl _ rfl rfl ?_; intro w1 hw1; have H1 := Lib.hid (hw1 ▸ rat_new w n m); have B1 := Lib.hid (hw1 ▸ bel1 w _ : Below w.heap.size w w1); have z0 := H1.out.c0; clear hw1)
      go_ret
      exact ⟨rfl, B1.out⟩
end Go.Proofs.Ytcdihcloihnpkaa.B
