/-
  A device that is made, and one that loses all.
-/
import Derived.Test.YtpoolpckabpnfaaGreatSDev1
import Derived.Laws.MakeOwn
namespace Go.Proofs.YtpoolpckabpnfaaGreat
open Go.RowKit Go.Maps
set_option linter.unusedVariables false
set_option linter.unusedSimpArgs false
set_option maxRecDepth 20000

variable {dB sB mB n : Nat} {d : M.Dv}

theorem made_get (k j : Nat) (hj : j < k) : (madeCells (u8s M.zero).toArray k)[j]? = some (u8 0) := by
  rw [zero_is]
  have : ((Array.replicate 144 (Value.int .u8 0))[j % 144]!) = u8 0 := by
    rw [getElem!_pos _ _ (by simp; omega)]
    simp [u8]
  simp [madeCells, hj, this]

theorem made_toList (k : Nat) : (madeCells (u8s M.zero).toArray k).toList = u8s (List.replicate k 0) := by
  apply List.ext_getElem?
  intro j
  rw [Array.getElem?_toList]
  by_cases hj : j < k
  · rw [made_get k j hj]; simp [u8s, hj]
  · rw [Array.getElem?_eq_none (by rw [size_madeCells]; omega), List.getElem?_eq_none (by rw [u8s_length, List.length_replicate]; omega)]

theorem zero_range {w : World} {k : Nat} (h : ∀ j, j < k → w.cell? ⟨sB, j, none⟩ = some (u8 0)) (i : Nat) (hi : i * 144 + 144 ≤ k) : w.rangeAt sB (i * 144) (u8s M.zero) := fun j v hv => by
  have hj : j < 144 := by have := (List.getElem?_eq_some_iff.1 hv).1; rw [u8s_length, M.zero_len] at this; exact this
  rw [h _ (by omega), ← hv]
  unfold u8s M.zero
  rw [List.map_replicate, List.getElem?_replicate, if_pos hj]

theorem new_no (k : Int) (hk : k < 0 ∨ 512 < k) (w : World) : Calls Tryz.prog 5 #[.int .i64 k] w fun e w' => e = .returned (.pointer none) ∧ w = w' := by
  rcases hk with hk | hk
  · go_enter Tryz.func5, Tryz.ntmps5
    go_wp2
    go_ret
    exact ⟨rfl, rfl⟩
  · have h0 : 0 ≤ k := by omega
    go_enter Tryz.func5, Tryz.ntmps5
    go_wp2
    go_ret
    exact ⟨rfl, rfl⟩

theorem new_yes (n : Nat) (hn : n ≤ 512) (w : World) : Calls Tryz.prog 5 #[.int .i64 n] w fun e w' =>
    ∃ dB sB mB, e = .returned (.pointer (some ⟨dB, 0, none⟩)) ∧ DevAt w' dB sB mB n M.fresh ∧ Below w.heap.size w w' ∧ w.heap.size ≤ dB ∧ w.heap.size ≤ sB ∧ w.heap.size ≤ mB := by
  obtain ⟨i0, hi0, hz0, hs0, hb0⟩ : ∃ i0, Tryz.prog.info? 95 = some i0 ∧ i0.zero = some (.agg (u8s M.zero).toArray) ∧ i0.size = 144 ∧ i0.bytes = 144 := by
    have h1 := sec_info
    have h2 := sec_size
    have h3 : (Tryz.prog.info? 95).map (·.bytes) = some 144 := by kernel_rfl
    cases hi : Tryz.prog.info? 95 with
    | none => simp [hi] at h1
    | some i => simp [hi] at h1 h2 h3; exact ⟨i, rfl, h1, h2, h3⟩
  have hm := run_makeSlice w 59 95 i0 _ Tryz.underlying59 hi0 hz0 .i64 .i64 n n (by omega) (by omega) (by rw [hs0]; omega) (by rw [hb0]; omega) (by omega)
  rw [hs0] at hm
  simp only [Int.toNat_natCast] at hm
  have HC : Hid (∀ j, j < n * 144 → (madeCells (Value.agg (u8s M.zero).toArray).cells (n * 144))[j]? = some (u8 0)) := Lib.hid (made_get (n * 144))
  generalize madeCells (Value.agg (u8s M.zero).toArray).cells (n * 144) = C at hm HC
  have hn0 : (0 : Int) ≤ (n : Int) := by omega
  have hn1 : (n : Int) ≤ 512 := by omega
  have Hn := Lib.hid hn
  clear hi0 hz0 hs0 hb0 hn
  have hmm := @run_makeMap Tryz.prog
  go_enter Tryz.func5, Tryz.ntmps5
  go_wp2
  go_ret
  refine ⟨_, w.heap.size, w.heap.size + 1, rfl, ?_, (((Below.refl _ _).alloc (Nat.le_refl _) _).alloc (by simp) _).alloc (by simp; omega) _, by omega, by omega, by omega⟩
  have hcell : ∀ j, j < n * 144 → (((w.alloc (.cells C 95)).alloc (.map #[] 0)).alloc (.cells #[.slice (some ⟨w.heap.size, 0, none⟩) n n, .map (some (w.heap.size + 1)), .bool false, .int .i64 (-1)] 62)).cell? ⟨w.heap.size, j, none⟩ = some (u8 0) := fun j hj => by
    rw [World.cell?_alloc_lt _ _ _ (by simp; omega), World.cell?_alloc_lt _ _ _ (by simp), World.cell?_alloc_mark]
    simpa using HC.out j hj
  have hfz : ∀ b o, w.heap.size ≤ b → (((w.alloc (.cells C 95)).alloc (.map #[] 0)).alloc (.cells #[.slice (some ⟨w.heap.size, 0, none⟩) n n, .map (some (w.heap.size + 1)), .bool false, .int .i64 (-1)] 62)).frozen? ⟨b, o, none⟩ = false := fun b o hb => by
    simp only [World.frozen?, World.alloc, Array.getElem?_push, Array.size_push]
    by_cases e1 : b = w.heap.size + 1 + 1
    · simp [e1]
    · by_cases e2 : b = w.heap.size + 1
      · simp [e2]
      · by_cases e3 : b = w.heap.size
        · simp [e3, show ¬ w.heap.size = w.heap.size + 1 + 1 by omega]
        · simp [e1, e2, e3, show ¬ b < w.heap.size by omega]
  exact { sec := by first | rfl | (rw [show w.heap.size + 1 + 1 = ((w.alloc (.cells C 95)).alloc (.map #[] 0)).heap.size from by simp, World.cell?_alloc_mark]; rfl)
          map := by first | rfl | (rw [show w.heap.size + 1 + 1 = ((w.alloc (.cells C 95)).alloc (.map #[] 0)).heap.size from by simp, World.cell?_alloc_mark]; rfl)
          dead := by first | rfl | (rw [show w.heap.size + 1 + 1 = ((w.alloc (.cells C 95)).alloc (.map #[] 0)).heap.size from by simp, World.cell?_alloc_mark]; rfl)
          fuse := by first | rfl | (rw [show w.heap.size + 1 + 1 = ((w.alloc (.cells C 95)).alloc (.map #[] 0)).heap.size from by simp, World.cell?_alloc_mark]; rfl)
          fz := fun o => hfz _ _ (by omega)
          ds := by omega
          dm := by omega
          sm := by omega
          lt := by simp; omega
          bytes := fun i hi => zero_range hcell i (by have : (i + 1) * 144 ≤ n * 144 := Nat.mul_le_mul_right _ hi; omega)
          there := fun j hj => ⟨by rw [Nat.zero_add, hcell j hj]; rfl, hfz _ _ (Nat.le_refl _)⟩
          pend := by
            have := mapis_made (w.alloc (.cells C 95))
            rw [show (w.alloc (.cells C 95)).heap.size = w.heap.size + 1 from by simp] at this
            exact this.of_block (Below.heap_alloc _ _ _ (by simp))
          wf := M.fresh_wf n
          n512 := Hn.out }

end Go.Proofs.YtpoolpckabpnfaaGreat
