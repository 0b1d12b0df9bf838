/-
  The document's own net: Take.
-/
import Derived.Test.YthbgabmmfokioaaNtRef2
namespace Go.Proofs.Ythbgabmmfokioaa.Nt
open Go.RowKit
set_option linter.unusedVariables false
set_option linter.unusedSimpArgs false
set_option maxRecDepth 100000
section
variable {w : World} {p : Nat} {a : Option Addr} {l : List Lt}

theorem rtake_none (h : NAt tR w p a []) (i : Int) : Calls Try.prog 14 #[.pointer (some ⟨p, 0, none⟩), .int .i64 i] w fun e w' => e = .returned (.tuple #[ltV default, .bool false]) ∧ Below w.heap.size w w' := by
  have HA := Lib.hid (rat_none (h.below ((Below.refl _ _).alloc (Nat.le_refl _) (.cells #[.int .i64 0, .int .i64 0, .string ⟨#[]⟩] 31)) (Nat.le_refl _)) i)
  clear h
  go_enter Try.func14, Try.ntmps14
  go_wp2_with (go_at_call 26; with_reducible refine HA.out.mono ?_; rintro e w' ⟨rfl, rfl⟩)
  refine bodyPost_ret_by ?_ rfl ⟨rfl, (Below.refl _ _).alloc (Nat.le_refl _) _⟩
  simp [results, Try.results14, go_sem]
  rfl

/-- a beginning of the row without the letter at k -/
def pre (l : List Lt) (k j : Nat) : List Lt := if j ≤ k then l.take j else l.take k ++ (l.take j).drop (k + 1)
theorem pre_zero (l : List Lt) (k : Nat) : pre l k 0 = [] := by simp [pre]
theorem pre_len (l : List Lt) (k j : Nat) : (pre l k j).length ≤ l.length := by
  unfold pre
  split <;> simp <;> omega
theorem pre_skip (l : List Lt) (k : Nat) : pre l k (k + 1) = pre l k k := by
  unfold pre
  rw [if_neg (by omega), if_pos (Nat.le_refl k), List.drop_of_length_le (by simp; omega), List.append_nil]
theorem pre_more {l : List Lt} {k j : Nat} {x : Lt} (h : l[j]? = some x) (hj : j ≠ k) : pre l k (j + 1) = pre l k j ++ [x] := by
  have hjl := (List.getElem?_eq_some_iff.1 h).1
  have ht : l.take (j + 1) = l.take j ++ [x] := by
    rw [List.take_succ_eq_append_getElem hjl]
    congr 2
    exact (List.getElem?_eq_some_iff.1 h).2
  unfold pre
  by_cases h1 : j + 1 ≤ k
  · rw [if_pos h1, if_pos (by omega), ht]
  · rw [if_neg h1, if_neg (by omega), ht, List.drop_append_of_le_length (by simp; omega), List.append_assoc]
theorem pre_all {l : List Lt} {k : Nat} (hk : k < l.length) : pre l k l.length = cutL l k := by
  unfold pre cutL
  rw [if_neg (by omega), List.take_length]

set_option maxHeartbeats 2000000 in
theorem rtake_some (h : NAt tR w p a l) (hl : l ≠ []) (i : Int) : Calls Try.prog 14 #[.pointer (some ⟨p, 0, none⟩), .int .i64 i] w fun e w' => e = .returned (.tuple #[ltV (takeV l i), .bool true]) ∧
    ∃ a', NAt tR w' p a' (takeL l i) ∧ Anew w a a' ∧ But [p, blk p a] w w' := by
  have h0 : 0 < l.length := by cases l; contradiction; simp
  obtain ⟨k, hk⟩ : ∃ k, ix i l.length = k := ⟨_, rfl⟩
  have hkl : k < l.length := by rw [← hk]; exact ix_lt i h0
  have hx0 := takeV_get i hl
  rw [hk] at hx0
  obtain ⟨⟨fr, to, body⟩, hx⟩ : ∃ x, takeV l i = x := ⟨_, rfl⟩
  rw [hx] at hx0 ⊢
  have hb1 := (Below.refl w.heap.size w).alloc (Nat.le_refl _) (.cells #[.int .i64 0, .int .i64 0, .string ⟨#[]⟩] 31)
  have hA := rat_some (h.below hb1 (Nat.le_refl _)) hl i
  rw [hk] at hA
  have HA := Lib.hid hA
  obtain ⟨cap, hc, hf, ho, hk1, hk2⟩ := h.cell
  have hl3 := h.len
  obtain ⟨b, off, rfl, hbl, c1, c2, c3⟩ := (ho.below hb1 (Nat.le_refl _)).rd.at hx0
  obtain ⟨rfl⟩ : off = 0 := by
    rcases ho with ⟨h1, _⟩ | ⟨g, cur, h1, _⟩
    · cases h1
    · injection h1 with h1; injection h1
  rw [Nat.zero_add] at c1 c2 c3
  simp only at c1 c2 c3
  obtain ⟨W2, hW2⟩ : ∃ W2, W2 = (w.alloc (.cells #[.int .i64 0, .int .i64 0, .string ⟨#[]⟩] 31)).alloc (.cells #[.int .i64 fr, .int .i64 to, .string body] 31) := ⟨_, rfl⟩
  have hs2 : W2.heap.size = w.heap.size + 2 := by rw [hW2]; simp
  have hbW : Below w.heap.size w W2 := by rw [hW2]; exact hb1.alloc hb1.size _
  have r0 : W2.heap[w.heap.size]? = some (.cells #[.int .i64 0, .int .i64 0, .string ⟨#[]⟩] 31 (0, 0)) := by
    rw [hW2]; exact (deep_at (by simp)).trans (top_at rfl)
  have r1 : W2.heap[w.heap.size + 1]? = some (.cells #[.int .i64 fr, .int .i64 to, .string body] 31 (0, 0)) := by
    rw [hW2]; exact top_at (by simp)
  -- what holds in each world behind
  have HK : Hid (∀ W, Below W2.heap.size W2 W → W.cell? ⟨p, 0, none⟩ = some (.slice (some ⟨b, 0, none⟩) l.length cap) ∧ Rd W (some ⟨b, 0, none⟩) l.length l) := Lib.hid fun W hb =>
    ⟨(hb.cell (p := ⟨p, 0, none⟩) (by have := h.lt; simp; omega)).trans ((hbW.cell (p := ⟨p, 0, none⟩) h.lt).trans hc), (ho.rd.below hbW (Nat.le_refl _)).below hb (Nat.le_refl _)⟩
  have HR : Hid (∀ W, Below W2.heap.size W2 W → W.heap[w.heap.size]? = some (.cells #[.int .i64 0, .int .i64 0, .string ⟨#[]⟩] 31 (0, 0)) ∧ W.heap[w.heap.size + 1]? = some (.cells #[.int .i64 fr, .int .i64 to, .string body] 31 (0, 0))) := Lib.hid fun W hb =>
    ⟨(hb.block _ (by omega)).trans r0, (hb.block _ (by omega)).trans r1⟩
  have HW2 := Lib.hid hW2
  have HS2 := Lib.hid hs2
  have HBW := Lib.hid hbW
  have HH := Lib.hid h
  have HL : Hid (l.length ≤ 300 ∧ k < l.length ∧ takeL l i = cutL l k ∧ pre l k l.length = cutL l k ∧ (cutL l k).length ≤ 300) := Lib.hid ⟨hl3, hkl, by unfold takeL; rw [hk], pre_all hkl, by have := cutL_le l k; omega⟩
  have hpw : p < w.heap.size := h.lt
  have hI0' : decide ((k : Int) < 0) = false := by simp
  have hI0 : (0 : Int) ≤ (k : Int) := by omega
  have hI1 : (k : Int) < (l.length : Int) := by omega
  have hI2 : (l.length : Int) ≤ 300 := by omega
  have hpc : (w.alloc (.cells #[.int .i64 0, .int .i64 0, .string ⟨#[]⟩] 31)).cell? ⟨p, 0, none⟩ = some (.slice (some ⟨b, 0, none⟩) l.length cap) := (hb1.cell (p := ⟨p, 0, none⟩) h.lt).trans hc
  simp only [ltV]
  clear h hl h0 hx0 hA ho hk1 hk2 hk hl3 hb1 hc hf hbl hkl hx hW2 hs2 hbW r0 r1
  go_enter Try.func14, Try.ntmps14
  go_wp2_with (go_at_call 26; with_reducible refine HA.out.mono ?_; rintro e w' ⟨rfl, rfl⟩)
  go_loopw [8, 9] (fun sl j wr => ∃ (q : Nat) (s : Option Addr) (cs : Nat), q ≤ l.length ∧ j = .int .i64 (q : Int) ∧ sl = .slice s (pre l k q).length cs ∧ OwnL wr s cs (pre l k q) ∧ Fresh W2.heap.size s ∧ s ≠ none ∧ Below W2.heap.size W2 wr) (fun _ j _ => l.length - (intOf j).toNat)
  case atStart =>
    refine ⟨0, some ⟨w.heap.size + 1 + 1, 0, none⟩, 0, by omega, rfl, rfl, ?_, ?_, by simp, ?_⟩
    · rw [pre_zero]; exact own_at (top_at (by simp))
    · intro x hx; injection hx with hx; subst hx; rw [HS2.out]; simp
    · rw [HW2.out]; exact (Below.refl _ _).alloc (Nat.le_refl _) _
  case round =>
    obtain ⟨q, s, cs, hq, rfl, rfl, ho, hfr, hsn, hb⟩ := hrel
    have HO := Lib.hid ho
    have HF := Lib.hid hfr
    have HN := Lib.hid hsn
    have HB := Lib.hid hb
    have pc := (HK.out wr hb).1
    have hpl := pre_len l k q
    clear ho hfr hsn hb
    by_cases hlt : q < l.length
    · have hltI : (q : Int) < (l.length : Int) := by omega
      by_cases hqk : q = k
      · have hqe : ((q : Int) != (k : Int)) = false := by simp; omega
        have HE : Hid (pre l k (q + 1) = pre l k q) := Lib.hid (by rw [hqk]; exact pre_skip l k)
        clear hqk
        go_wp2
        go_roundw
        case rel => exact ⟨q + 1, s, cs, by omega, by go_num, by rw [HE.out], by rw [HE.out]; exact HO.out, HF.out, HN.out, HB.out⟩
        case measure => simp [intOf]; omega
      · have hqe : ((q : Int) != (k : Int)) = true := by simp; omega
        have HQ := Lib.hid hqk
        clear hqk
        obtain ⟨⟨f2, t2, y2⟩, hx2⟩ : ∃ x, l[q]? = some x := ⟨_, List.getElem?_eq_getElem hlt⟩
        obtain ⟨b', off', hbe, _, d1, d2, d3⟩ := (HK.out wr HB.out).2.at hx2
        injection hbe with hbe
        injection hbe with e1 e2
        subst e1 e2
        rw [Nat.zero_add] at d1 d2 d3
        simp only at d1 d2 d3
        have HM := Lib.hid (pre_more hx2 HQ.out)
        have hpl2 : (pre l k q).length ≤ 300 := by have := HL.out.1; omega
        have HPL := Lib.hid hpl2
        have HO2 : Hid (OwnL (wr.alloc (.cells #[.int .i64 f2, .int .i64 t2, .string y2] 31)) s cs (pre l k q)) := Lib.hid (HO.out.below ((Below.refl _ _).alloc (Nat.le_refl _) _) (Nat.le_refl _))
        have HRd := Lib.hid (rd_one (x := ⟨f2, t2, y2⟩) (heap_alloc_new wr (.cells #[.int .i64 f2, .int .i64 t2, .string y2] 31)))
        clear hx2
        go_wp2_with (at_builtin
                     refine wpList_append_L _ rfl (.tmp 36) (.tmp 44) rfl s _ cs _ rfl rfl HO2.out _ 1 1 [⟨f2, t2, y2⟩] rfl HRd.out (by have := HPL.out; omega) ?_
                     intro s' c' w5 o g an
                     have H5 := Lib.hid o
                     have G5 := Lib.hid g
                     have N5 := Lib.hid an
                     clear o g an)
        go_roundw
        case rel =>
          have hsz := HB.out.size
          refine ⟨q + 1, s', c', by omega, by go_num, by rw [HM.out]; simp, by rw [HM.out]; exact H5.out, HF.out.anew N5.out (by simp; omega), ?_, ?_⟩
          · rintro rfl
            rcases H5.out with ⟨_, _, h⟩ | ⟨_, _, h, _⟩
            · simp at h
            · cases h
          · exact (HB.out.alloc hsz _).grown G5.out (by simp; omega) (fun k hk => HF.out.rb k (own_rb hk))
        case measure => simp [intOf]; omega
    · have hqe : q = l.length := by omega
      have HP : Hid (OwnL wr s cs (cutL l k) ∧ (pre l k q).length = (cutL l k).length) := Lib.hid (by
        rw [← HL.out.2.2.2.1, ← hqe]; exact ⟨HO.out, rfl⟩)
      have hb' : Below w.heap.size w wr := HBW.out.trans (HB.out.mono (by have := HS2.out; omega))
      have HA4 := Lib.hid (after_store (by decide) HH.out hb' HP.out.1 (HF.out.mono (by have := HS2.out; omega)) HN.out HL.out.2.2.2.2)
      have hpe := HP.out.2
      have f4 := HA4.out.2.1
      have r0 := (HR.out wr HB.out).1
      have r1 := (HR.out wr HB.out).2
      have q0 := cell_of_row _ _ 0 _ _ _ r1
      have q1 := cell_of_row _ _ 1 _ _ _ r1
      have q2 := cell_of_row _ _ 2 _ _ _ r1
      have s0 := cell_of_row _ _ 0 _ _ _ r0
      have s1 := cell_of_row _ _ 1 _ _ _ r0
      have s2 := cell_of_row _ _ 2 _ _ _ r0
      have z0 : wr.frozen? ⟨w.heap.size, 0, none⟩ = false := by simp [World.frozen?, r0]
      have z1 : wr.frozen? ⟨w.heap.size, 1, none⟩ = false := by simp [World.frozen?, r0]
      have z2 : wr.frozen? ⟨w.heap.size, 2, none⟩ = false := by simp [World.frozen?, r0]
      have R0 := Lib.hid r0
      simp at q0 q1 q2 s0 s1 s2
      rw [hpe]
      clear r0 r1 hb' hqe hpe hpl
      go_wp2
      have A2 := HA4.out.2.2
      refine bodyPost_ret_by ?_ rfl ⟨rfl, s, ?_, A2.2.1, ?_⟩
      · have x0 : (wr.setCell ⟨p, 0, none⟩ (.slice s (cutL l k).length cs)).cell? ⟨w.heap.size, 0, none⟩ = some (.int .i64 0) := by rw [World.cell?_setCell_other _ _ _ _ (by intro e; injection e; omega)]; exact s0
        have x1 : (wr.setCell ⟨p, 0, none⟩ (.slice s (cutL l k).length cs)).cell? ⟨w.heap.size, 1, none⟩ = some (.int .i64 0) := by rw [World.cell?_setCell_other _ _ _ _ (by intro e; injection e; omega)]; exact s1
        have x2 : (wr.setCell ⟨p, 0, none⟩ (.slice s (cutL l k).length cs)).cell? ⟨w.heap.size, 2, none⟩ = some (.string ⟨#[]⟩) := by rw [World.cell?_setCell_other _ _ _ _ (by intro e; injection e; omega)]; exact s2
        simp [results, Try.results14, go_sem, x0, x1, x2]
      · rw [HL.out.2.2.1]
        exact A2.1.but (q := [w.heap.size]) (((((But.refl _ _).set _ (.inl (by simp)))).set _ (.inl (by simp))).set _ (.inl (by simp))) (by simp; omega) (by
          obtain ⟨g, hg⟩ : ∃ g, s = some g := Option.ne_none_iff_exists'.1 HN.out
          have := HF.out g hg
          have := HS2.out
          rw [hg]; simp [blk]; omega)
      · exact ((A2.2.2.set _ (.inr (Nat.le_refl _))).set _ (.inr (Nat.le_refl _))).set _ (.inr (Nat.le_refl _))

/-- Take, whatever number comes -/
theorem rtake_any (h : NAt tR w p a l) (i : Int) : Calls Try.prog 14 #[.pointer (some ⟨p, 0, none⟩), .int .i64 i] w fun e w' => e = .returned (.tuple #[ltV (takeV l i), .bool (takeB l)]) ∧
    ∃ a', NAt tR w' p a' (takeL l i) ∧ Anew w a a' ∧ But [p, blk p a] w w' := by
  by_cases hl : l = []
  · subst hl
    refine (rtake_none h i).mono ?_
    rintro e w' ⟨rfl, hb⟩
    rw [takeL_nil]
    exact ⟨rfl, a, h.below hb (Nat.le_refl _), Anew.refl _ _, (But.of_below hb).mono (by simp)⟩
  · have e : takeB l = true := by cases l; contradiction; rfl
    rw [e]
    exact rtake_some h hl i
end
end Go.Proofs.Ythbgabmmfokioaa.Nt
