/-
  The document's own row: Load.
-/
import Derived.Test.YtcdihcloihnpkaaBRef3
namespace Go.Proofs.Ytcdihcloihnpkaa.B
open Go.RowKit
set_option linter.unusedVariables false
set_option linter.unusedSimpArgs false
set_option maxRecDepth 20000

theorem rload_empty (s : ByteArray) (w : World) (h0 : s.size = 0) : Calls Try.prog 20 #[.string s] w fun e w' => e = .returned (.tuple #[RV 0 0, .int .i64 4]) ∧ Below w.heap.size w w' := by
  have h2 : ((s.size : Int) == 0) = true := by simp [h0]
  go_enter Try.func20, Try.ntmps20
  go_wp2_with (first
    | (refine wpList_alloc30 rfl rfl ?_; intro w1 hw1; have H1 := Lib.hid (hw1 ▸ rat_new w 0 0); have B1 := Lib.hid (hw1 ▸ bel1 w _ : Below w.heap.size w w1); clear hw1)
    | (refine wpList_build30 rfl rfl ?_)
    | (refine wpList_store30 rfl _ _ rfl w.heap.size rfl rfl H1.out.there ?_; intro w2 hw2; have H2 := Lib.hid (hw2 ▸ H1.out.store 0 0); have B2 := Lib.hid (hw2 ▸ below_setCells (Nat.le_refl _) _ _ B1.out : Below w.heap.size w w2); clear hw2))
  exact bodyPost_ret (results_two Try.results20 rfl rfl H2.out) rfl ⟨rfl, B2.out⟩

theorem rload_great (s : ByteArray) (w : World) (h0 : 0 < s.size) (hm : s.size ≤ maxLen) (h1 : 64 < s[0].toNat) : Calls Try.prog 20 #[.string s] w fun e w' => e = .returned (.tuple #[RV 0 0, .int .i64 4]) ∧ Below w.heap.size w w' := by
  have h2 : ((s.size : Int) == 0) = false := beq_eq_false_iff_ne.2 (by omega)
  have h3 : (64 : Int) < (s[0].toNat : Int) := by omega
  unfold maxLen at hm
  go_enter Try.func20, Try.ntmps20
  go_wp2_with (first
    | (refine wpList_alloc30 rfl rfl ?_; intro w1 hw1; have H1 := Lib.hid (hw1 ▸ rat_new w 0 0); have B1 := Lib.hid (hw1 ▸ bel1 w _ : Below w.heap.size w w1); clear hw1)
    | (refine wpList_build30 rfl rfl ?_)
    | (refine wpList_store30 rfl _ _ rfl w.heap.size rfl rfl H1.out.there ?_; intro w2 hw2; have H2 := Lib.hid (hw2 ▸ H1.out.store 0 0); have B2 := Lib.hid (hw2 ▸ below_setCells (Nat.le_refl _) _ _ B1.out : Below w.heap.size w w2); clear hw2))
  exact bodyPost_ret (results_two Try.results20 rfl rfl H2.out) rfl ⟨rfl, B2.out⟩

theorem rload_long (s : ByteArray) (w : World) (h0 : 0 < s.size) (hm : s.size ≤ 281474976710656) (h1 : ¬ 64 < s[0].toNat) (h2 : s.size ≠ M.size s[0].toNat) : Calls Try.prog 20 #[.string s] w fun e w' => e = .returned (.tuple #[RV 0 0, .int .i64 4]) ∧ Below w.heap.size w w' := by
  have h4 : ((s.size : Int) == 0) = false := beq_eq_false_iff_ne.2 (by omega)
  have h3 : decide ((64 : Int) < (s[0].toNat : Int)) = false := by simp; omega
  have hI : (s[0].toNat : Int) ≤ 64 := by omega
  have hmI : (s.size : Int) ≤ 281474976710656 := by omega
  have hpI : (1 : Int) ≤ (s.size : Int) := by omega
  have HN : ∀ w, Hid (Calls Try.prog 12 #[.int .i64 (s[0].toNat : Int)] w fun e w' => e = .returned (RV s[0].toNat 0) ∧ Below w.heap.size w w') := fun w => Lib.hid (by
    have := rnew_any (s[0].toNat : Int) w
    rw [show M.len (s[0].toNat : Int) = s[0].toNat by unfold M.len; rw [if_pos ⟨by omega, by omega⟩]; simp] at this
    exact this)
  have h5 : ((s.size : Int) - 1 != ((s[0].toNat : Int) + 7) / 8) = true := by unfold M.size at h2; simp; omega
  clear h1 h2
  go_enter Try.func20, Try.ntmps20
  go_wp2_with (first
    | (refine wpList_alloc30 rfl (o := ⟨some 2, _, _, _, _, _⟩) rfl ?_; intro w1 hw1; have H1 := Lib.hid (hw1 ▸ rat_new w 0 0); have B1 := Lib.hid (hw1 ▸ bel1 w _ : Below w.heap.size w w1); clear hw1)
    | (go_at_call 12; ((with_reducible refine (HN _).out.mono ?_); rintro e w3 ⟨rfl, hb⟩); have H3 := Lib.hid (H1.out.below hb H1.out.lt); have B3 := Lib.hid (below_up B1.out hb B1.out.size); have hs3 := H3.out.lt; clear hb)
    | (refine wpList_alloc30 rfl (o := ⟨some 4, _, _, _, _, _⟩) rfl ?_; intro w4 hw4; have K4 := Lib.hid (hw4 ▸ rat_new w3 0 0 : RAt w4 w3.heap.size 0 0); have H4 := Lib.hid (hw4 ▸ H3.out.alloc _ : RAt w4 w.heap.size 0 0); have B4 := Lib.hid (hw4 ▸ (B3.out.alloc B3.out.size _) : Below w.heap.size w w4); clear hw4)
    | (refine wpList_build30 rfl rfl ?_)
    | (refine wpList_store30 rfl (.tmp 4) _ rfl w3.heap.size rfl rfl K4.out.there ?_; intro w5 hw5; have K5 := Lib.hid (hw5 ▸ K4.out.store s[0].toNat 0 : RAt w5 w3.heap.size s[0].toNat 0); have H5 := Lib.hid (hw5 ▸ H4.out.of_block (heap_setCells _ _ _ _ _ (by omega)) : RAt w5 w.heap.size 0 0); have B5 := Lib.hid (hw5 ▸ below_setCells (by omega) _ _ B4.out : Below w.heap.size w w5); have z0 := K5.out.c0; clear hw5)
    | (refine wpList_store30 rfl (.tmp 2) _ rfl w.heap.size rfl rfl H5.out.there ?_; intro w6 hw6; have H6 := Lib.hid (hw6 ▸ H5.out.store 0 0 : RAt w6 w.heap.size 0 0); have B6 := Lib.hid (hw6 ▸ below_setCells (Nat.le_refl _) _ _ B5.out : Below w.heap.size w w6); clear hw6))
  exact bodyPost_ret (results_two Try.results20 rfl rfl H6.out) rfl ⟨rfl, B6.out⟩
end Go.Proofs.Ytcdihcloihnpkaa.B
