/-
  slices.Delete from the front, of an own row of records.
-/
import Derived.Test.YtmcalgnpinolmaaGreatLmem
import Derived.Laws.IdiomCopy
namespace Go.Proofs.YtmcalgnpinolmaaGreat
open Go.RowKit
set_option linter.unusedVariables false
set_option linter.unusedSimpArgs false
set_option maxRecDepth 20000

def zeros (k : Nat) : List Value := recs (List.replicate k ⟨0, ⟨#[]⟩⟩)
theorem zeros_len (k : Nat) : (zeros k).length = k * 2 := by unfold zeros; rw [recs_length, List.length_replicate]
theorem zeros_is (k : Nat) : (Builtin.zeroCells #[.int .i64 0, .string ⟨#[]⟩] k).toList = zeros k := by
  apply List.ext_getElem?
  intro i
  by_cases hi : i < k * 2
  · have h2 : (List.replicate k (⟨0, ⟨#[]⟩⟩ : M.Rl))[i / 2]? = some ⟨0, ⟨#[]⟩⟩ := by
      rw [List.getElem?_replicate, if_pos (by omega)]
    obtain ⟨k1, k2⟩ := recs_get h2
    have e0 : (Builtin.zeroCells #[.int .i64 0, .string ⟨#[]⟩] k).toList[i]? = some ((#[.int .i64 0, .string ⟨#[]⟩] : Array Value)[i % 2]!) := by
      simp [Builtin.zeroCells, hi]
    rw [e0]
    unfold zeros
    rcases Nat.mod_two_eq_zero_or_one i with h | h
    · rw [h, show i = i / 2 * 2 by omega, k1]
      rfl
    · rw [h, show i = i / 2 * 2 + 1 by omega, k2]
      rfl
  · rw [List.getElem?_eq_none (by simp [Builtin.zeroCells]; omega), List.getElem?_eq_none (by rw [zeros_len]; omega)]

theorem zero70 (w : World) : (zeroValue 139).run Tryz.prog w = .ok (.agg #[.int .i64 0, .string ⟨#[]⟩]) w := by
  obtain ⟨i0, hi0, hz0, hz1, hz2⟩ := info_parts rec_info
  simp [zeroValue, typeInfo, hi0, hz0]

theorem clear_recs (w : World) (ty : TypeId) (g o k c : Nat) (hk : 0 < k) (hc : ∀ j, j < k * 2 → (w.cell? ⟨g, o + j, none⟩).isSome = true) (hf : ∀ j, j < k * 2 → w.frozen? ⟨g, o + j, none⟩ = false) :
    (Builtin.clear_ #[129] ty #[.slice (some ⟨g, o, none⟩) k c]).run Tryz.prog w = .ok (.tuple #[]) (w.setCells g o (zeros k)) := by
  have hst := run_storeCells_cells (P := Tryz.prog) g o (zeros k) 0 w (by simpa [zeros_len] using hc) (by simpa [zeros_len] using hf) (recs_one _)
  simp only [Nat.add_zero] at hst
  have hz := zeros_is k
  obtain ⟨m, rfl⟩ : ∃ m, k = m + 1 := ⟨k - 1, by omega⟩
  have hcl : (Value.agg #[.int .i64 0, .string ⟨#[]⟩]).cells = #[.int .i64 0, .string ⟨#[]⟩] := by rfl
  simp [Builtin.clear_, run_underlying Tryz.underlying129, zero70, hcl, hz, hst]

set_option maxHeartbeats 2000000 in
theorem delete_any (w : World) (a : Option Addr) (cap : Nat) (l : List M.Rl) (k : Nat) (h : OwnR w a cap l) (hk : k ≤ l.length) :
    Calls Tryz.prog 139 #[.slice a l.length cap, .int .i64 0, .int .i64 (k : Int)] w fun e w' => e = .returned (.slice a (l.length - k) cap) ∧ OwnR w' a cap (l.drop k) ∧ ∀ lB, But [blk lB a] w w' := by
  have hl6 := h.2
  rcases h.ways with ⟨rfl, rfl, rfl⟩ | ⟨g, cur, rfl, h1, h2, h3, h4, h5⟩
  · obtain rfl : k = 0 := by simpa using hk
    clear h hk hl6
    go_enter Tryz.func139, Tryz.ntmps139
    go_wp2
    go_ret
    exact ⟨rfl, OwnR.nil _, fun _ => But.refl _ _⟩
  · by_cases h0 : k = 0
    · subst h0
      have H := Lib.hid h
      have hn : (l.length : Int) ≤ (cap : Int) := by omega
      have hn0 : (0 : Int) ≤ (l.length : Int) := by omega
      clear h h1 h3 h4 h5 hk
      go_enter Tryz.func139, Tryz.ntmps139
      go_wp2
      go_ret
      exact ⟨rfl, H.out, fun _ => But.refl _ _⟩
    · have hkp : 0 < k := by omega
      obtain ⟨i0, hi0, hz0, hz1, hz2⟩ := info_parts rec_info
      have hg := lt_of_heap h1
      -- the cells that are moved
      have hcur : ∀ j, j < l.length * 2 → cur[j]? = (recs l)[j]? := fun j hj => by rw [← h5, List.getElem?_take, if_pos hj, Array.getElem?_toList]
      have hcell : ∀ j, j < l.length * 2 → w.drew.cell? ⟨g, j, none⟩ = (recs l)[j]? := fun j hj => by rw [← hcur j hj]; show w.cell? _ = _; simp [World.cell?, h1]
      have hsome : ∀ j, j < l.length * 2 → (w.drew.cell? ⟨g, j, none⟩).isSome = true := fun j hj => by
        rw [hcell j hj, List.getElem?_eq_getElem (by rw [recs_length]; exact hj)]; rfl
      have hfrz : ∀ j, w.drew.frozen? ⟨g, j, none⟩ = false := fun j => by show w.frozen? _ = _; simp [World.frozen?, h1]
      obtain ⟨news, hnews⟩ : ∃ news, news = recs (l.drop k) := ⟨_, rfl⟩
      have hlen : news.length = (l.length - k) * 2 := by rw [hnews, recs_length, List.length_drop]
      have hnget : ∀ t u, news[t]? = some u → t < (l.length - k) * 2 ∧ (recs l)[k * 2 + t]? = some u := fun t u hu => by
        have ht := (List.getElem?_eq_some_iff.1 hu).1
        rw [hlen] at ht
        rw [hnews, ← recs_drop, List.getElem?_drop] at hu
        exact ⟨ht, hu⟩
      obtain ⟨A, hA, hsrc⟩ : ∃ A : Addr, (if cap = k then some (⟨g, 0, none⟩ : Addr) else some ⟨g, 0 + k * 2, none⟩) = some A ∧ Hid (∀ t u, news[t]? = some u → w.drew.cell? (A.add t) = some u) := by
        by_cases hc : cap = k
        · refine ⟨⟨g, 0, none⟩, by simp [hc], fun t u hu => ?_⟩
          have := (hnget t u hu).1
          omega
        · refine ⟨⟨g, 0 + k * 2, none⟩, by simp [hc], fun t u hu => ?_⟩
          obtain ⟨g1, g2⟩ := hnget t u hu
          rw [show ((⟨g, 0 + k * 2, none⟩ : Addr).add t) = ⟨g, k * 2 + t, none⟩ from by by_cases z : t = 0 <;> simp [Addr.add, z]]
          rw [hcell _ (by omega)]; exact g2
      have s1 : Hid (news.length = (l.length - k) * 2) := hlen
      have s2 : Hid (∀ u ∈ news, u.oneCell' = true) := by rw [hnews]; exact recs_one _
      have s3 : Hid (∀ t, t < news.length → (w.drew.cell? ⟨g, 0 + 0 * 2 + t, none⟩).isSome = true ∧ w.drew.frozen? ⟨g, 0 + 0 * 2 + t, none⟩ = false) := fun t ht => by
        rw [hlen] at ht
        rw [show 0 + 0 * 2 + t = t by omega]
        exact ⟨hsome t (by omega), hfrz t⟩
      obtain ⟨W1, hW1⟩ : ∃ W1, W1 = w.drew.setCells g (0 + 0 * 2) news := ⟨_, rfl⟩
      obtain ⟨cur1, c1, c2, c3⟩ := obj_setCells news (0 + 0 * 2) w.drew cur h1 (by rw [hlen]; omega)
      rw [← hW1] at c1
      have hW1c : ∀ j, j < cap * 2 → (W1.cell? ⟨g, j, none⟩).isSome = true := fun j hj => by
        simp only [World.cell?, c1]
        rw [Array.getElem?_eq_getElem (by omega)]; rfl
      have hW1f : ∀ j, W1.frozen? ⟨g, j, none⟩ = false := fun j => by simp [World.frozen?, c1]
      have hcl : ∀ ty, (Builtin.clear_ #[129] ty #[.slice (some ⟨g, 0 + (l.length - k) * 2, none⟩) (l.length - (l.length - k)) (cap - (l.length - k))]).run Tryz.prog W1 = .ok (.tuple #[]) (W1.setCells g (0 + (l.length - k) * 2) (zeros (l.length - (l.length - k)))) :=
        fun ty => clear_recs W1 ty g _ _ _ (by omega) (fun j hj => by rw [show 0 + (l.length - k) * 2 + j = (l.length - k) * 2 + j by omega]; exact hW1c _ (by omega)) (fun j hj => hW1f _)
      obtain ⟨cur2, e1, e2, e3⟩ := obj_setCells (zeros (l.length - (l.length - k))) (0 + (l.length - k) * 2) W1 cur1 c1 (by rw [zeros_len]; omega)
      have HE : Hid (OwnR (W1.setCells g (0 + (l.length - k) * 2) (zeros (l.length - (l.length - k)))) (some ⟨g, 0, none⟩) cap (l.drop k)) := Lib.hid (OwnR.mk' e1 (by rw [List.length_drop]; omega) h3 (by omega) (by
        rw [List.length_drop, e3, c3, List.take_append_of_le_length (by rw [List.length_append, List.length_take, List.length_append, List.length_append]; omega)]
        rw [List.take_append_of_le_length (by rw [List.length_take, List.length_append, List.length_append]; omega), Nat.zero_add, List.take_take, Nat.min_self]
        simp only [Nat.zero_mul, Nat.add_zero, List.take_zero, List.nil_append]
        rw [List.take_append_of_le_length (Nat.le_of_eq hlen.symm), ← hlen, List.take_length, hnews]) (by rw [List.length_drop]; omega))
      have HB : Hid (∀ lB, But [blk lB (some ⟨g, 0, none⟩)] w (W1.setCells g (0 + (l.length - k) * 2) (zeros (l.length - (l.length - k))))) := Lib.hid fun lB => by
        rw [hW1]
        exact (((But.refl _ w).drew).sets g _ _ (.inl (by simp [blk]))).sets g _ _ (.inl (by simp [blk]))
      have hW : Hid (W1 = w.drew.setCells g (0 + 0 * 2) news) := hW1
      have hkI : (0 : Int) < (k : Int) := by omega
      have hkl : (k : Int) ≤ (l.length : Int) := by omega
      have hlc : (l.length : Int) ≤ (cap : Int) := by omega
      have hkc : (k : Int) ≤ (cap : Int) := by omega
      have hne : ((0 : Int) == (k : Int)) = false := by rw [beq_eq_false_iff_ne]; omega
      generalize l.length = q at *
      have hqk : ¬ cap = q - k := by omega
      have hqk2 : q - k ≤ q := by omega
      have hqkI : ((q : Int) - (k : Int)).toNat = q - k := by omega
      simp only [Nat.zero_add] at hcl HE HB
      clear hW1 hcur hcell hsome hfrz hnget hnews hlen h1 h2 h3 h4 h5 hl6 h c1 c2 c3 e1 e2 e3 hW1c hW1f
      go_enter Tryz.func139, Tryz.ntmps139
      go_wp2_with fail
      go_region_law (refine step_append_room rfl (.tmp 22) (.tmp 25) 129 rfl 139 i0 2 Tryz.underlying129 hi0 hz1 g 0 0 cap (by simp [Act.eval, Act.put]) A (q - k) (cap - k) news (by simp only [Nat.zero_add] at hA; simp [Act.eval, Act.put]; exact hA) s1.out hsrc.out s2.out (by omega) s3.out ?_; rw [← hW.out])
      go_wp2
      all_goals (go_ret; first | exact ⟨rfl, HE.out, HB.out⟩ | (subst h; exact ⟨rfl, HE.out, HB.out⟩))
end Go.Proofs.YtmcalgnpinolmaaGreat
