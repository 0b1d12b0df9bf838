/-
  What Pending tells: the numbers of the sectors that have something pending, rising, in a slice of its own.
-/
import Derived.Test.YtpoolpckabpnfaaGreatSMem
import Derived.Test.YtpoolpckabpnfaaGreatSShelf
namespace Go.Proofs.YtpoolpckabpnfaaGreat
open Go.RowKit Go.Maps Go.Sort Go.Shelf
set_option linter.unusedVariables false
set_option linter.unusedSimpArgs false
set_option maxRecDepth 20000

/-- slices.Sort's two contracts at this dump, at the fence that asks nothing. -/
theorem sorts_ok (m : Nat) : AnyZI.SortsIn Tryz.prog Tryz.sortedA_ren Fence.wide m :=
  ⟨fun blk off cap ss W hH hblk hsz => callsIn_wide.2 (AnyM.slices_Sort_int Tryz.sortA blk off cap ss W hH hblk hsz),
   fun p cap W => callsIn_wide.2 (AnyM.slices_Sort_int_none Tryz.sortA p cap W)⟩

def ints (l : List Int) : List Value := l.map encZ

set_option maxHeartbeats 1000000 in
theorem pending_own (dB mB nn : Nat) (D0 : DataW Unit) (w : World) (hmap : w.cell? ⟨dB, 1, none⟩ = some (.map (some mB))) (hown : w.ownsMap (H := Unit) Tryz.prog 3 secR mB nn D0) (hmax : Maps.size D0 ≤ 512) :
    Calls Tryz.prog 42 #[.pointer (some ⟨dB, 0, none⟩)] w fun e w' => ∃ (v : Value) (ss : List Int), e = .returned v ∧ ss.Perm (intKeys D0) ∧
      w'.ownsRow w.heap.size 3 1 v ss.length (ints (ss.mergeSort (fun x y => decide (x ≤ y)))) ∧ (v = .slice none 0 0 ↔ ss = []) ∧ Below w.heap.size w w' := by
  refine (callsIn_wide (n := 6)).1 ?_
  have hbl := hown.lt
  have hseq : SeqGives Fence.wide 2 Tryz.prog 83 #[.pointer (some ⟨w.heap.size, 0, none⟩)] encZ (fun ss => ss.Perm (intKeys D0)) (Maps.size D0) (w.alloc (.cells #[.map (some mB)] 60)) :=
    AnyZI.keys_gives (ρ := Tryz.keysA_ren) { Tryz.keysA with } Fence.wide _ trivial rfl (by omega) w.heap.size mB nn D0 _ (by simp) (by simp) (by
      obtain ⟨es, clock, hb, Ft, hs, hD⟩ := hown
      exact ⟨es, clock, (Below.heap_alloc _ _ mB hbl).trans hb, Ft, hs, hD⟩)
  have cK : ∀ mb W, CallsIn Fence.wide 5 Tryz.prog 64 #[.map mb] W fun e w' => e = .returned (.func (.func 83) #[] #[.pointer (some ⟨W.heap.size, 0, none⟩)]) ∧ w' = W.alloc (.cells #[.map mb] 60) := fun mb W => AnyZI.keys_in Tryz.keysA Fence.wide 5 trivial rfl mb W
  have cS := AnyZI.sorted_in Tryz.sortedA Fence.wide 5 trivial trivial trivial trivial rfl (by omega) (sorts_ok _) (enters_of Tryz.func82 (by kernel_rfl) rfl) 83 #[.pointer (some ⟨w.heap.size, 0, none⟩)] trivial (enters_of Tryz.func83 (by kernel_rfl) rfl) _ _ (show Maps.size D0 ≤ maxLen by simp only [maxLen]; omega) (by omega) _ hseq
  change CallsIn _ _ Tryz.prog 63 _ _ _ at cS
  have hfK : Fence.wide.fn 64 := trivial
  have hfS : Fence.wide.fn 63 := trivial
  refine callsIn_of_wp Tryz.func42 rfl trivial ?_ rfl
  simp only [Tryz.ntmps42, List.size_toArray, List.length_cons, List.length_nil, Nat.reduceAdd, Nat.reduceSub, Array.replicate_succ, Array.replicate_zero, List.push_toArray, List.append_toArray, List.nil_append, List.cons_append]
  gi_wp2_with (first
    | (gi_at_call 64; refine (cK _ _).mono ?_; rintro e w' ⟨rfl, rfl⟩)
    | (gi_at_call 63; refine cS.mono ?_; rintro e w' ⟨v, ss, rfl, hS, hrow, hnil, hb⟩))
  go_ret
  exact ⟨v, ss, rfl, hS, ownsRow_base_a hrow (by simp), hnil, ((Below.refl _ w).alloc (Nat.le_refl _) _).trans (hb.mono (by simp))⟩

theorem pending_any {dB sB mB n : Nat} {d : M.Dv} (w : World) (h : DevAt w dB sB mB n d) :
    Calls Tryz.prog 42 #[.pointer (some ⟨dB, 0, none⟩)] w fun e w' => ∃ v : Value, e = .returned v ∧
      w'.ownsRow w.heap.size 3 1 v (M.pendL n d.P).length (ints (M.pendL n d.P)) ∧ Below w.heap.size w w' := by
  obtain ⟨N, D, hown, hr⟩ := h.pend
  have hP : ∀ k s, d.P k = some s → 0 ≤ k ∧ k < (n : Int) := fun k s hk => ⟨(h.wf.pend k s hk).1, (h.wf.pend k s hk).2.1⟩
  refine (pending_own dB mB N D w h.map hown (Nat.le_trans (keys_count hown hr hP) h.n512)).mono ?_
  rintro e w' ⟨v, ss, rfl, hp, hrow, _, hb⟩
  have e1 := keys_sorted hown hr hP
  have e2 : ss.mergeSort (fun x y => decide (x ≤ y)) = M.pendL n d.P := (mergeSort_of_perm_i hp).trans e1
  have e3 : ss.length = (M.pendL n d.P).length := by rw [← e2, List.length_mergeSort]
  rw [e2, e3] at hrow
  exact ⟨v, rfl, hrow, hb⟩
end Go.Proofs.YtpoolpckabpnfaaGreat
