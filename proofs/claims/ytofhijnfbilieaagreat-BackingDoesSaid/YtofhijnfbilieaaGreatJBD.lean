/-
  A store is opened.
  A store on a device without a fuse, none of whose writes pend: what a message makes of it.
  What the statements have in common: a store on a device of its own, versions and tables compared.
  The calls whose answers the document fixes.
-/
import Derived.Test.YtofhijnfbilieaaGreatJBA
import Derived.Test.YtofhijnfbilieaaGreatJBC
import Derived.Test.YtofhijnfbilieaaGreatMlAwk
import Derived.Test.YtofhijnfbilieaaGreatOpens
namespace Go.Proofs.YtofhijnfbilieaaGreat.Bk
open Go.RowKit
set_option linter.unusedVariables false
set_option linter.unusedSimpArgs false
set_option maxRecDepth 20000

variable {dB sB mB n : Nat} {d : M.Dv}

/-- the cells that lie there -/
def there (d : M.Dv) (f : Nat) : Cs := fun k => M.found (M.rdS (M.seen d (f + 2 * k))) (M.rdS (M.seen d (f + 2 * k + 1)))

theorem copen_dead (w : World) (h : DevAt w dB sB mB n d) (hdead : d.dead = true) (a b : Nat) (hab : a ≠ b) (ha : a < n) (hb : b < n) :
    Calls Tryz.prog 49 #[.pointer (some ⟨dB, 0, none⟩), .int .i64 (a : Int), .int .i64 (b : Int)] w fun e w' => e = .returned (.tuple #[.pointer none, .int .i64 30]) ∧ Below w.heap.size w w' := by
  have HD := Lib.hid h
  have HA := Lib.hid (has_yes w h a ha)
  have HB := Lib.hid (has_yes w h b hb)
  have hne : ((a : Int) == (b : Int)) = false := by rw [beq_eq_false_iff_ne]; omega
  have hr : M.reach n d (a : Int) = 30 := by unfold M.reach; rw [hdead]; rfl
  have hn := h.n512
  have hnl : n ≤ 512 := hn
  have HRd : Hid (∀ w', Below w.heap.size w w' → Calls Tryz.prog 23 #[.pointer (some ⟨dB, 0, none⟩), .int .i64 (a : Int)] w' fun e w'' => e = .returned (.tuple #[.slice none 0 0, .int .i64 30]) ∧ Below w'.heap.size w' w'') := Lib.hid fun w' hb' => by
    have := read_no w' (h.but (But.of_below hb') (by simp) (by simp) (by simp)) (a : Int) (by omega) (by omega) (by rw [hr]; omega)
    rw [hr] at this
    refine this.mono ?_
    rintro e w'' ⟨rfl, rfl⟩
    exact ⟨rfl, Below.refl _ _⟩
  have ix0 : ∀ w, (Instr.index 140 (.agg #[.int .i64 (a : Int), .int .i64 (b : Int)]) (.int .i64 0)).run Tryz.prog w = .ok (.int .i64 (a : Int)) w := fun _ => by kernel_rfl
  have HB0 : Hid (Below w.heap.size w (w.alloc (.cells #[.pointer (some ⟨dB, 0, none⟩), .int .i64 (a : Int), .int .i64 (b : Int), .int .i64 0, .int .i64 0, .string ⟨#[]⟩] 142))) := Lib.hid ((Below.refl _ w).alloc (Nat.le_refl _) _)
  have HC := Lib.hid (cell_new w dB a b)
  clear h hdead hab ha hb hr hn hnl
  go_enter Tryz.func49, Tryz.ntmps49
  go_wp2_with (go_at_call 68; first | (with_reducible refine HA.out.mono ?_; rintro e w' ⟨rfl, rfl⟩) | (with_reducible refine HB.out.mono ?_; rintro e w' ⟨rfl, rfl⟩))
  clear HA HB
  go_loopw [44] (fun i wr => i = .int .i64 0 ∧ wr = w.alloc (.cells #[.pointer (some ⟨dB, 0, none⟩), .int .i64 (a : Int), .int .i64 (b : Int), .int .i64 0, .int .i64 0, .string ⟨#[]⟩] 142)) (fun i _ => 2 - (intOf i).toNat)
  case atStart => exact ⟨rfl, rfl⟩
  case round =>
    obtain ⟨rfl, rfl⟩ := hrel
    go_wp2_with (go_at_call 23; refine (HRd.out _ HB0.out).mono ?_; rintro e w2 ⟨rfl, hb2⟩; have HB2 := Lib.hid (HB0.out.trans (hb2.mono HB0.out.size)); clear hb2)
    go_ret2
    exact ⟨rfl, HB2.out⟩

theorem bo_yes (w : World) (h : DevAt w dB sB mB n d) (hdead : d.dead = false) (a : Nat) (ha : a + 1 < n) :
    Calls Tryz.prog 26 #[.pointer (some ⟨dB, 0, none⟩), .int .i64 (a : Int)] w fun e w' => ∃ cB, e = .returned (.tuple #[.pointer (some ⟨cB, 0, none⟩), .int .i64 0]) ∧ w.heap.size ≤ cB ∧
      CellAt w' cB dB a (a + 1) (M.found (M.rdS (M.seen d a)) (M.rdS (M.seen d (a + 1)))) ∧ Below w.heap.size w w' := by
  have HC := Lib.hid (open_yes w h hdead a (a + 1) (by omega) (by omega) ha)
  have hn := h.n512
  have hs : ((a + 1 : Nat) : Int) = (a : Int) + 1 := by omega
  have hb : (a : Int) ≤ 512 := by omega
  rw [hs] at HC
  clear h hn ha hs
  go_enter Tryz.func26, Tryz.ntmps26
  go_wp2_with (go_at_call 49; refine HC.out.mono ?_; rintro e w2 ⟨cB, rfl, h1, h2, h3⟩)
  go_ret2
  exact ⟨cB, rfl, h1, h2, h3⟩
theorem bo_dead (w : World) (h : DevAt w dB sB mB n d) (hdead : d.dead = true) (a : Nat) (ha : a + 1 < n) :
    Calls Tryz.prog 26 #[.pointer (some ⟨dB, 0, none⟩), .int .i64 (a : Int)] w fun e w' => e = .returned (.tuple #[.pointer none, .int .i64 30]) ∧ Below w.heap.size w w' := by
  have HC := Lib.hid (copen_dead w h hdead a (a + 1) (by omega) (by omega) ha)
  have hn := h.n512
  have hs : ((a + 1 : Nat) : Int) = (a : Int) + 1 := by omega
  have hb : (a : Int) ≤ 512 := by omega
  rw [hs] at HC
  clear h hn ha hs
  go_enter Tryz.func26, Tryz.ntmps26
  go_wp2_with (go_at_call 49; refine HC.out.mono ?_; rintro e w2 ⟨rfl, h3⟩)
  go_ret2
  exact ⟨rfl, h3⟩

theorem bopen_arg (w : World) (h : DevAt w dB sB mB n d) (f bl : Int) (hw : -9223372036854775808 ≤ f ∧ f ≤ 9223372036854775807) (hbad : bl < 1 ∨ 32 < bl ∨ f < 0 ∨ (n : Int) - 2 * (1 + bl) < f) :
    Calls Tryz.prog 7 #[.pointer (some ⟨dB, 0, none⟩), .int .i64 f, .int .i64 bl] w fun e w' => e = .returned (.tuple #[.pointer none, .int .i64 1]) ∧ w = w' := by
  have HS := Lib.hid (sectors_any w h)
  have hn := h.n512
  have hn' : (n : Int) ≤ 512 := by omega
  have hn0 : 0 ≤ (n : Int) := by omega
  have hc : bl < 1 ∨ (1 ≤ bl ∧ ¬ bl < 1 ∧ 32 < bl) ∨ (1 ≤ bl ∧ ¬ bl < 1 ∧ ¬ 32 < bl ∧ f < 0) ∨ (1 ≤ bl ∧ bl ≤ 32 ∧ ¬ bl < 1 ∧ ¬ 32 < bl ∧ ¬ f < 0 ∧ (n : Int) - 2 * (1 + bl) < f) := by omega
  clear h hn hbad
  rcases hc with h1 | ⟨h0, h1, h2⟩ | ⟨h0, h1, h2, h3⟩ | ⟨h0, h00, h1, h2, h3, h4⟩
  all_goals
    go_enter Tryz.func7, Tryz.ntmps7
    go_wp2_with (go_at_call 25; refine HS.out.mono ?_; rintro e w' ⟨rfl, rfl⟩)
    go_ret2
    exact ⟨rfl, rfl⟩
theorem bopen_dead (w : World) (h : DevAt w dB sB mB n d) (hdead : d.dead = true) (f bl : Nat) (hbl : 1 ≤ bl ∧ bl ≤ 32) (hf : f + 2 * (1 + bl) ≤ n) :
    Calls Tryz.prog 7 #[.pointer (some ⟨dB, 0, none⟩), .int .i64 (f : Int), .int .i64 (bl : Int)] w fun e w' => e = .returned (.tuple #[.pointer none, .int .i64 30]) ∧ Below w.heap.size w w' := by
  have HS := Lib.hid (sectors_any w h)
  have HO := Lib.hid (bo_dead w h hdead f (by omega))
  have hn := h.n512
  have hn' : (n : Int) ≤ 512 := by omega
  have hn0 : 0 ≤ (n : Int) := by omega
  have h1 : ¬ (bl : Int) < 1 := by omega
  have h2 : ¬ 32 < (bl : Int) := by omega
  have h2' : (bl : Int) ≤ 32 := by omega
  have h2'' : 1 ≤ (bl : Int) := by omega
  have h3 : ¬ (f : Int) < 0 := by omega
  have h4 : ¬ (n : Int) - 2 * (1 + (bl : Int)) < (f : Int) := by omega
  clear h hn hbl hf hdead
  go_enter Tryz.func7, Tryz.ntmps7
  go_wp2_with (first
    | (go_at_call 25; refine HS.out.mono ?_; rintro e w' ⟨rfl, rfl⟩)
    | (go_at_call 26; refine HO.out.mono ?_; rintro e w2 ⟨rfl, hb2⟩))
  go_ret2
  exact ⟨rfl, hb2⟩

/-- a store that is being made -/
structure PO (w : World) (tB bl i : Nat) (K : Nat → Nat) : Prop where
  q0 : w.cell? ⟨tB, 0, none⟩ = some (.pointer (some ⟨K 0, 0, none⟩))
  qb : ∀ j, j < i → w.cell? ⟨tB, 1 + j, none⟩ = some (.pointer (some ⟨K (j + 1), 0, none⟩))
  qr : ∀ j, i ≤ j → j < 32 → w.cell? ⟨tB, 1 + j, none⟩ = some (.pointer none)
  qn : w.cell? ⟨tB, 33, none⟩ = some (.int .i64 (bl : Int))
  fz : ∀ o, w.frozen? ⟨tB, o, none⟩ = false
theorem PO.lt {w : World} {tB bl i : Nat} {K : Nat → Nat} (h : PO w tB bl i K) : tB < w.heap.size := World.block_lt_of_cell? w _ h.q0
theorem PO.below {w w' : World} {tB bl i B : Nat} {K : Nat → Nat} (h : PO w tB bl i K) (hb : Below B w w') (hB : tB < B) : PO w' tB bl i K where
  q0 := (hb.cell (p := ⟨tB, 0, none⟩) hB).trans h.q0
  qb := fun j hj => (hb.cell (p := ⟨tB, 1 + j, none⟩) hB).trans (h.qb j hj)
  qr := fun j h1 h2 => (hb.cell (p := ⟨tB, 1 + j, none⟩) hB).trans (h.qr j h1 h2)
  qn := (hb.cell (p := ⟨tB, 33, none⟩) hB).trans h.qn
  fz := fun o => (hb.frozen (p := ⟨tB, o, none⟩) hB).trans (h.fz o)
theorem PO.put {w : World} {tB bl i : Nat} {K : Nat → Nat} (h : PO w tB bl i K) (hi : i < 32) (cB : Nat) : PO (w.setCell ⟨tB, 1 + i, none⟩ (.pointer (some ⟨cB, 0, none⟩))) tB bl (i + 1) (Ks.set K (i + 1) cB) where
  q0 := by rw [World.cell?_setCell_other _ _ _ _ (by simp; try omega), Ks.set_other _ _ (by omega)]; exact h.q0
  qb := fun j hj => by
    by_cases hji : j = i
    · subst hji
      rw [Ks.set_same]
      exact World.cell?_setCell_same _ _ _ (h.qr j (Nat.le_refl _) hi)
    · rw [World.cell?_setCell_other _ _ _ _ (by simp; try omega), Ks.set_other _ _ (by omega)]
      exact h.qb j (by omega)
  qr := fun j h1 h2 => by
    rw [World.cell?_setCell_other _ _ _ _ (by simp; try omega)]
    exact h.qr j (by omega) h2
  qn := by rw [World.cell?_setCell_other _ _ _ _ (by simp; try omega)]; exact h.qn
  fz := fun o => by rw [World.frozen?_setCell]; exact h.fz o
def st34 (k bl : Nat) : Array Value := (#[.pointer (some ⟨k, 0, none⟩)] ++ Array.replicate 32 (.pointer none)) ++ #[.int .i64 (bl : Int)]
theorem po_new (w : World) (k bl : Nat) : PO (w.alloc (.cells (st34 k bl) 79)) w.heap.size bl 0 (fun _ => k) where
  q0 := by
    rw [World.cell?_alloc_mark]
    show (st34 k bl)[0]? = some (.pointer (some ⟨k, 0, none⟩))
    unfold st34
    rw [Array.getElem?_append_left (by simp), Array.getElem?_append_left (by simp)]
    rfl
  qb := fun j hj => by omega
  qr := fun j _ h2 => by
    rw [World.cell?_alloc_mark]
    show (st34 k bl)[1 + j]? = some (.pointer none)
    unfold st34
    rw [Array.getElem?_append_left (by simp; omega), Array.getElem?_append_right (by simp)]
    simp [h2]
  qn := by
    rw [World.cell?_alloc_mark]
    show (st34 k bl)[33]? = some (.int .i64 (bl : Int))
    unfold st34
    rw [Array.getElem?_append_right (by simp)]
    simp
  fz := fun o => World.frozen?_alloc_at _ _ _ _ rfl

theorem st34_is (k bl : Nat) : st34 k bl = #[.pointer (some ⟨k, 0, none⟩), .pointer none, .pointer none, .pointer none, .pointer none, .pointer none, .pointer none, .pointer none, .pointer none, .pointer none, .pointer none, .pointer none, .pointer none, .pointer none, .pointer none, .pointer none, .pointer none, .pointer none, .pointer none, .pointer none, .pointer none, .pointer none, .pointer none, .pointer none, .pointer none, .pointer none, .pointer none, .pointer none, .pointer none, .pointer none, .pointer none, .pointer none, .pointer none, .int .i64 (bl : Int)] := by kernel_rfl

/-- what Open has made of the first i blocks -/
structure OI (w wr : World) (dB tB bl f i : Nat) (d : M.Dv) (K : Nat → Nat) : Prop where
  be : Below w.heap.size w wr
  po : PO wr tB bl i K
  tl : w.heap.size ≤ tB
  cel : ∀ k, k ≤ i → CellAt wr (K k) dB (f + 2 * k) (f + 2 * k + 1) (there d f k)
  kl : ∀ k, k ≤ i → w.heap.size ≤ K k ∧ K k ≠ tB
  kd : ∀ j k, j ≤ i → k ≤ i → j ≠ k → K j ≠ K k

theorem OI.step {w wr w2 : World} {dB tB bl f i : Nat} {d : M.Dv} {K : Nat → Nat} (h : OI w wr dB tB bl f i d K) (hi : i < 32) {cB : Nat} (hc1 : wr.heap.size ≤ cB) (hc : CellAt w2 cB dB (f + 2 * (i + 1)) (f + 2 * (i + 1) + 1) (there d f (i + 1))) (hb : Below wr.heap.size wr w2) :
    OI w (w2.setCell ⟨tB, 1 + i, none⟩ (.pointer (some ⟨cB, 0, none⟩))) dB tB bl f (i + 1) d (Ks.set K (i + 1) cB) where
  be := (h.be.trans (hb.mono h.be.size)).setCell h.tl _
  po := (h.po.below hb h.po.lt).put hi cB
  tl := h.tl
  cel := fun k hk => by
    have hset : But [tB] w2 (w2.setCell ⟨tB, 1 + i, none⟩ (.pointer (some ⟨cB, 0, none⟩))) := (But.refl [tB] w2).set (p := ⟨tB, 1 + i, none⟩) _ (.inl (by simp))
    have ht := h.po.lt
    by_cases hki : k = i + 1
    · subst hki
      rw [Ks.set_same]
      exact hc.but hset (by simp; omega)
    · rw [Ks.set_other _ _ hki]
      have := h.kl k (by omega)
      exact ((h.cel k (by omega)).below hb (h.cel k (by omega)).lt).but hset (by simp; omega)
  kl := fun k hk => by
    have ht := h.po.lt
    have hs := h.be.size
    by_cases hki : k = i + 1
    · subst hki
      rw [Ks.set_same]
      omega
    · rw [Ks.set_other _ _ hki]
      exact h.kl k (by omega)
  kd := fun j k hj hk hjk => by
    by_cases h1 : j = i + 1
    · subst h1
      rw [Ks.set_same, Ks.set_other _ _ (fun h => hjk h.symm)]
      have := (h.cel k (by omega)).lt
      omega
    · rw [Ks.set_other _ _ h1]
      by_cases h2 : k = i + 1
      · subst h2
        rw [Ks.set_same]
        have := (h.cel j (by omega)).lt
        omega
      · rw [Ks.set_other _ _ h2]
        exact h.kd j k (by omega) (by omega) hjk

theorem OI.start {w w2 : World} {dB bl f cB : Nat} {d : M.Dv} (h1 : w.heap.size ≤ cB) (hc : CellAt w2 cB dB f (f + 1) (M.found (M.rdS (M.seen d f)) (M.rdS (M.seen d (f + 1))))) (hb : Below w.heap.size w w2) :
    OI w (w2.alloc (.cells (st34 cB bl) 79)) dB w2.heap.size bl f 0 d (fun _ => cB) where
  be := hb.alloc hb.size _
  po := po_new w2 cB bl
  tl := hb.size
  cel := fun k hk => by
    obtain rfl : k = 0 := by omega
    have := hc.below ((Below.refl w2.heap.size w2).alloc (Nat.le_refl _) (.cells (st34 cB bl) 79)) hc.lt
    simpa [there] using this
  kl := fun k hk => ⟨h1, by have := hc.lt; omega⟩
  kd := fun j k hj hk hjk => by omega

set_option maxHeartbeats 4000000 in
theorem bopen_yes (w : World) (h : DevAt w dB sB mB n d) (hdead : d.dead = false) (f bl : Nat) (hbl : 1 ≤ bl ∧ bl ≤ 32) (hf : f + 2 * (1 + bl) ≤ n) :
    Calls Tryz.prog 7 #[.pointer (some ⟨dB, 0, none⟩), .int .i64 (f : Int), .int .i64 (bl : Int)] w fun e w' => ∃ tB K, e = .returned (.tuple #[.pointer (some ⟨tB, 0, none⟩), .int .i64 0]) ∧ w.heap.size ≤ tB ∧ (∀ k, k ≤ bl → w.heap.size ≤ K k) ∧
      ST w' dB sB mB n d tB bl f K (there d f) ∧ Below w.heap.size w w' := by
  have HS := Lib.hid (sectors_any w h)
  have HO := Lib.hid (bo_yes w h hdead f (by omega))
  have HOk : Hid (∀ w' k, Below w.heap.size w w' → k < bl → Calls Tryz.prog 26 #[.pointer (some ⟨dB, 0, none⟩), .int .i64 (((f + 2 * (k + 1)) : Nat) : Int)] w' fun e w'' => ∃ cB, e = .returned (.tuple #[.pointer (some ⟨cB, 0, none⟩), .int .i64 0]) ∧ w'.heap.size ≤ cB ∧
      CellAt w'' cB dB (f + 2 * (k + 1)) (f + 2 * (k + 1) + 1) (there d f (k + 1)) ∧ Below w'.heap.size w' w'') := Lib.hid fun w' k hb hk => bo_yes w' (h.but (But.of_below hb) (by simp) (by simp) (by simp)) hdead (f + 2 * (k + 1)) (by omega)
  have HD := Lib.hid h
  have Hbl := Lib.hid hbl
  have Hf := Lib.hid hf
  have hn := h.n512
  have hn' : (n : Int) ≤ 512 := by omega
  have hn0 : 0 ≤ (n : Int) := by omega
  have hf0 : (0 : Int) ≤ (f : Int) := by omega
  have hf5 : (f : Int) ≤ 512 := by omega
  have h1 : ¬ (bl : Int) < 1 := by omega
  have h2 : ¬ 32 < (bl : Int) := by omega
  have h2' : (bl : Int) ≤ 32 := by omega
  have h2'' : 1 ≤ (bl : Int) := by omega
  have h3 : ¬ (f : Int) < 0 := by omega
  have h4 : ¬ (n : Int) - 2 * (1 + (bl : Int)) < (f : Int) := by omega
  have HSt := Lib.hid (fun (w2 : World) (cB : Nat) => @OI.start w w2 dB bl f cB d)
  simp only [st34_is] at HSt
  clear h hbl hf hdead
  go_enter Tryz.func7, Tryz.ntmps7
  go_wp2_with (first
    | (go_at_call 25; refine HS.out.mono ?_; rintro e w' ⟨rfl, rfl⟩)
    | (go_at_call 26; refine HO.out.mono ?_; rintro e w2 ⟨cB, rfl, hc1, hc2, hb2⟩
       have HI0 := Lib.hid (HSt.out w2 cB hc1 hc2 hb2)
       clear hc1 hc2 hb2))
  clear HS HO HSt h1 h2 h3 h4
  generalize w2.heap.size = tB at *
  go_loopw [52] (fun i wr => ∃ (k : Nat) (K : Nat → Nat), k ≤ bl ∧ i = .int .i64 (k : Int) ∧ OI w wr dB tB bl f k d K) (fun i _ => bl - (intOf i).toNat)
  case atStart => exact ⟨0, _, by omega, rfl, HI0.out⟩
  case round =>
    obtain ⟨k, K, hk, rfl, hoi⟩ := hrel
    have HOi := Lib.hid hoi
    clear hoi
    by_cases hkb : k = bl
    · subst hkb
      go_wp2
      go_ret2
      have h := HOi.out
      have hb := Hbl.out
      have hdl := HD.out.ltD
      have hsl := HD.out.lt
      have hml := HD.out.pend.lt
      refine ⟨tB, K, rfl, h.tl, fun j hj => (h.kl j hj).1, ⟨HD.out.but (But.of_below h.be) (by simp) (by simp) (by simp), ⟨h.po.q0, h.po.qb, h.po.qn⟩, h.cel, fun j hj => ?_, h.kd, ?_, fun j hj => (h.kl j hj).2, fun j _ => M.found_o _ _, fun j _ => M.found_gen _ _, fun j _ => M.found_text _ _, hb, Hf.out⟩, h.be⟩
      · have := (h.kl j hj).1
        omega
      · have := h.tl
        omega
    · have hlt : (k : Int) < (bl : Int) := by omega
      have h0 : (0 : Int) ≤ (k : Int) := by omega
      have h32 : (k : Int) < 32 := by omega
      have HOx := Lib.hid (fun w' hb => HOk.out w' k hb (by omega))
      have hcast : (((f + 2 * (k + 1)) : Nat) : Int) = (f : Int) + 2 * (1 + (k : Int)) := by omega
      rw [hcast] at HOx
      have hq := HOi.out.po.qr k (Nat.le_refl _) (by omega)
      have hfz := HOi.out.po.fz (1 + k)
      clear hcast
      go_wp2_with (go_at_call 26; refine (HOx.out _ HOi.out.be).mono ?_; rintro e w3 ⟨c2, rfl, hd1, hd2, hb3⟩
                   have hq3 := (hb3.cell (p := ⟨tB, 1 + k, none⟩) HOi.out.po.lt).trans hq
                   have hfz3 := (hb3.frozen (p := ⟨tB, 1 + k, none⟩) HOi.out.po.lt).trans hfz
                   have HOi3 := Lib.hid (HOi.out.step (by omega) hd1 hd2 hb3)
                   clear hd1 hd2 hb3 hq hfz)
      go_roundw
      case rel => exact ⟨k + 1, _, by omega, by go_num, HOi3.out⟩
      case measure => simp [intOf]; omega
end Go.Proofs.YtofhijnfbilieaaGreat.Bk
namespace Go.Proofs.YtofhijnfbilieaaGreat.Bk
open Go.RowKit
open Ml (Mg may)
set_option linter.unusedVariables false
set_option linter.unusedSimpArgs false
set_option maxRecDepth 20000

/-- no fuse, nothing pends, the cells are what lies there; not more than g generations -/
structure FR (n f bl : Nat) (g : Int) (d : M.Dv) (C : Cs) : Prop where
  fr : Free d
  pn : ∀ k, d.P k = none
  wf : M.Wf n d
  fnd : ∀ k, k ≤ bl → C k = there d f k
  gn : ∀ k, k ≤ bl → (C k).gen ≤ g
  fit : f + 2 * (1 + bl) ≤ n
  out : ∀ j : Nat, j < n → (j < f ∨ f + 2 * (1 + bl) ≤ j) → True

theorem FR.mono {n f bl : Nat} {g g' : Int} {d : M.Dv} {C : Cs} (h : FR n f bl g d C) (hg : g ≤ g') : FR n f bl g' d C := { h with gn := fun k hk => by have := h.gn k hk; omega }

theorem FR.put {n f bl : Nat} {g : Int} {d : M.Dv} {C : Cs} (h : FR n f bl g d C) (hg : g < 4611686018427387904) (k : Nat) (hk : k ≤ bl) {t : ByteArray} (ht : t.size ≤ 100) :
    putE n f d C k t = 0 ∧ putC n f d C k t = C.set k ⟨1 - (C k).o, (C k).gen + 1, t⟩ ∧ FR n f bl (g + 1) (putD n f d C k t) (putC n f d C k t) := by
  have hfit := h.fit
  have hck := h.fnd k hk
  have ho : (C k).o ≤ 1 := by rw [hck]; exact M.found_o _ _
  have hg0 : 0 ≤ (C k).gen := by rw [hck]; exact (M.found_gen _ _).1
  have hgk := h.gn k hk
  have hne : ¬ (C k).gen = 4611686018427387904 := by omega
  have hm : M.MayS ((C k).gen + 1) t := ⟨by omega, by omega, ht⟩
  have hp : M.pos (C k).o (f + 2 * k) (f + 2 * k + 1) < n := by unfold M.pos; split <;> omega
  obtain ⟨q1, q2, q3, q4⟩ := put_free h.fr h.wf hp (l := M.slot ((C k).gen + 1) t) (by have := M.slot_small hm; omega)
  have eE : M.puE n d (f + 2 * k) (f + 2 * k + 1) (C k) t = 0 := by unfold M.puE; rw [if_neg hne]; exact q1
  have eC : M.puC n d (f + 2 * k) (f + 2 * k + 1) (C k) t = ⟨1 - (C k).o, (C k).gen + 1, t⟩ := by unfold M.puC; rw [if_neg hne, q1, M.putC_ok]
  have eD : M.puD n d (f + 2 * k) (f + 2 * k + 1) (C k) t = M.putD n d (M.pos (C k).o (f + 2 * k) (f + 2 * k + 1)) (M.slot ((C k).gen + 1) t) := by unfold M.puD; rw [if_neg hne]
  have hfa := found_after h.fr h.wf (show f + 2 * k ≠ f + 2 * k + 1 by omega) (show f + 2 * k < n by omega) (show f + 2 * k + 1 < n by omega) ht hck (by omega)
  have e2 : putC n f d C k t = C.set k ⟨1 - (C k).o, (C k).gen + 1, t⟩ := by unfold putC; rw [eC]
  refine ⟨eE, e2, ?_⟩
  rw [e2]
  unfold putD
  rw [eD]
  refine ⟨q2, q3, ?_, fun j hj => ?_, fun j hj => ?_, h.fit, fun _ _ _ => trivial⟩
  · unfold M.putD
    split
    · exact M.barrier_wf (M.write_wf h.wf _ _)
    · exact M.write_wf h.wf _ _
  · unfold Cs.set
    by_cases hjk : j = k
    · subst hjk
      rw [if_pos rfl]
      unfold there
      rw [hfa]
    · rw [if_neg hjk, h.fnd j hj]
      unfold there
      rw [q4, q4]
      have h1 : ¬ (f + 2 * j = M.pos (C k).o (f + 2 * k) (f + 2 * k + 1)) := by unfold M.pos; split <;> omega
      have h2 : ¬ (f + 2 * j + 1 = M.pos (C k).o (f + 2 * k) (f + 2 * k + 1)) := by unfold M.pos; split <;> omega
      rw [if_neg h1, if_neg h2]
  · unfold Cs.set
    split
    · simp only; omega
    · have := h.gn j hj; omega

theorem blk_set0 (C : Cs) (c : M.Cl) (k : Nat) : blk (C.set 0 c) k = blk C k := by unfold blk; rw [Cs.set_other _ _ (by omega)]
theorem blk_set (C : Cs) (j : Nat) (c : M.Cl) (k : Nat) : blk (C.set (j + 1) c) k = if k = j then st c.text else blk C k := by
  unfold blk
  by_cases h : k = j
  · subst h; rw [Cs.set_same, if_pos rfl]
  · rw [Cs.set_other _ _ (by omega), if_neg h]
theorem token_set0 (C : Cs) (c : M.Cl) : token (C.set 0 c) = tok c.text := by unfold token; rw [Cs.set_same]
theorem token_set (C : Cs) (j : Nat) (c : M.Cl) : token (C.set (j + 1) c) = token C := by unfold token; rw [Cs.set_other _ _ (by omega)]
theorem tab_same {C C' : Cs} (h : ∀ k, blk C' k = blk C k) : ∀ bl, tab C' bl = tab C bl
  | 0 => rfl
  | bl + 1 => by unfold tab; rw [tab_same h bl, h]

/-- what a message makes of what a store tells -/
def ok (C : Cs) (m : Mg) : Bool := can m && decide (token C ≤ m.epoch)
def news (bl : Nat) (C : Cs) (m : Mg) : Bool := ok C m && decide (m.kind = 10) && fresh bl C m

theorem may_epoch {m : Mg} (h : may m = true) : 0 ≤ m.epoch ∧ m.epoch ≤ big := ((Ml.may_iff m).1 h).2.1

theorem FR.adm {n f bl : Nat} {g : Int} {d : M.Dv} {C : Cs} (h : FR n f bl g d C) (hg : g < 4611686018427387904) {ep : Int} (hep : 0 ≤ ep ∧ ep ≤ big) :
    admE n f d C ep = (if ep < token C then 24 else 0) ∧ FR n f bl (g + 1) (admD n f d C ep) (admC n f d C ep) ∧ token (admC n f d C ep) = max (token C) ep ∧ ∀ k, blk (admC n f d C ep) k = blk C k := by
  by_cases h1 : ep < token C
  · have e1 : admE n f d C ep = 24 := by unfold admE; rw [if_pos h1]
    have e2 : admD n f d C ep = d := by unfold admD; rw [if_pos (by omega)]
    have e3 : admC n f d C ep = C := by unfold admC; rw [if_pos (by omega)]
    rw [e1, e2, e3, if_pos h1]
    exact ⟨rfl, h.mono (by omega), by omega, fun _ => rfl⟩
  · rw [if_neg h1]
    by_cases h2 : ep = token C
    · have e1 : admE n f d C ep = 0 := by unfold admE; rw [if_neg h1, if_pos h2]
      have e2 : admD n f d C ep = d := by unfold admD; rw [if_pos (by omega)]
      have e3 : admC n f d C ep = C := by unfold admC; rw [if_pos (by omega)]
      rw [e1, e2, e3]
      exact ⟨rfl, h.mono (by omega), by omega, fun _ => rfl⟩
    · obtain ⟨p1, p2, p3⟩ := h.put hg 0 (Nat.zero_le _) (tokT_small ep)
      have e1 : admE n f d C ep = 0 := by unfold admE; rw [if_neg h1, if_neg h2, p1]
      have e2 : admD n f d C ep = putD n f d C 0 (tokT ep) := by unfold admD; rw [if_neg (by omega)]
      have e3 : admC n f d C ep = putC n f d C 0 (tokT ep) := by unfold admC; rw [if_neg (by omega)]
      rw [e1, e2, e3]
      refine ⟨rfl, p3, ?_, fun k => ?_⟩
      · rw [p2, token_set0, tok_tokT hep]; omega
      · rw [p2, blk_set0]

theorem fresh_same {bl : Nat} {C C' : Cs} (h : ∀ k, blk C' k = blk C k) (m : Mg) : fresh bl C' m = fresh bl C m := by unfold fresh; rw [h]
theorem newS_same {bl : Nat} {C C' : Cs} (h : ∀ k, blk C' k = blk C k) (m : Mg) : newS bl C' m = newS bl C m := by unfold newS; rw [tab_same h]

theorem FR.sto {n f bl : Nat} {g : Int} {d : M.Dv} {C : Cs} (h : FR n f bl g d C) (hg : g < 4611686018427387904) {m : Mg} (hm : may m = true) :
    stoE n f bl d C m = (if isB bl m.block = false then 2 else if m.data.size ≠ 8 then 3 else 0) ∧ FR n f bl (g + 1) (stoD n f bl d C m) (stoC n f bl d C m) ∧ token (stoC n f bl d C m) = token C ∧
      ∀ k, blk (stoC n f bl d C m) k = if fresh bl C m = true ∧ m.block = (k : Int) then newS bl C m else blk C k := by
  cases hf : fresh bl C m with
  | false =>
    have e1 : stoE n f bl d C m = (if isB bl m.block = false then 2 else if m.data.size ≠ 8 then 3 else 0) := by unfold stoE; rw [hf]; simp
    have e2 : stoD n f bl d C m = d := by unfold stoD; rw [hf]; rfl
    have e3 : stoC n f bl d C m = C := by unfold stoC; rw [hf]; rfl
    rw [e1, e2, e3]
    exact ⟨rfl, h.mono (by omega), rfl, fun k => by simp⟩
  | true =>
    have hf' := hf
    unfold fresh at hf'
    simp only [Bool.and_eq_true, decide_eq_true_eq] at hf'
    obtain ⟨⟨hb, h8⟩, _⟩ := hf'
    have hb' := hb
    unfold isB at hb'
    simp at hb'
    obtain ⟨k, hk⟩ := Int.eq_ofNat_of_zero_le hb'.1
    have hk2 : m.block.toNat = k := by omega
    obtain ⟨p1, p2, p3⟩ := h.put hg (k + 1) (by omega) (stT_small (s := newS bl C m) h8)
    have e1 : stoE n f bl d C m = 0 := by unfold stoE; rw [hf, if_neg (by simp [hb]), if_neg (by simp [h8]), if_pos rfl, hk2, p1]
    have e2 : stoD n f bl d C m = putD n f d C (k + 1) (stT (newS bl C m)) := by unfold stoD; rw [hf, if_pos rfl, hk2]
    have e3 : stoC n f bl d C m = putC n f d C (k + 1) (stT (newS bl C m)) := by unfold stoC; rw [hf, if_pos rfl, hk2]
    rw [e1, e2, e3]
    refine ⟨by simp [hb, h8], p3, by rw [p2, token_set], fun j => ?_⟩
    rw [p2, blk_set]
    simp only
    rw [st_stT (newS_ok hm h8)]
    by_cases hj : j = k
    · subst hj; rw [if_pos rfl, if_pos (by simp [hk])]
    · rw [if_neg hj, if_neg (fun h => hj (by omega))]

/-- a message on a device without a fuse -/
theorem FR.take {n f bl : Nat} {g : Int} {d : M.Dv} {C : Cs} (h : FR n f bl g d C) (hg : g + 1 < 4611686018427387904) (m : Mg) :
    FR n f bl (g + 2) (takD n f bl d C m) (takC n f bl d C m) ∧ token (takC n f bl d C m) = (if can m = true then max (token C) m.epoch else token C) ∧
      (∀ k, blk (takC n f bl d C m) k = if news bl C m = true ∧ m.block = (k : Int) then newS bl C m else blk C k) ∧ takI n f bl d C m = can m ∧
      (can m = true → takE n f bl d C m = if m.epoch < token C then 24 else if m.kind = 12 then loaE bl m.block else if isB bl m.block = false then 2 else if m.data.size ≠ 8 then 3 else 0) ∧
      (can m = true → m.kind = 12 → token C ≤ m.epoch → takA n f bl d C m = ⟨13, m.epoch, m.seq, m.n, m.block, -1, loaE bl m.block, (loaT bl C m.block).a, (loaT bl C m.block).b, (loaT bl C m.block).c, (loaT bl C m.block).d, loaS bl C m.block, ⟨#[]⟩⟩) ∧
      (can m = true → m.kind ≠ 12 ∨ m.epoch < token C → takA n f bl d C m = ⟨m.kind + 1, m.epoch, m.seq, m.n, m.block, -1, takE n f bl d C m, 0, 0, 0, 0, ⟨#[]⟩, ⟨#[]⟩⟩) ∧ (can m = false → takA n f bl d C m = Ml.nil) := by
  cases hc : can m with
  | false =>
    have hn : news bl C m = false := by unfold news ok; rw [hc]; rfl
    have e1 : takI n f bl d C m = false := by unfold takI; rw [hc]; rfl
    have e2 : takA n f bl d C m = Ml.nil := by unfold takA; rw [if_pos e1]
    have e3 : takD n f bl d C m = d := by unfold takD; rw [if_pos hc]
    have e4 : takC n f bl d C m = C := by unfold takC; rw [if_pos hc]
    rw [e1, e2, e3, e4]
    exact ⟨h.mono (by omega), by simp, fun k => by simp [hn], rfl, by simp, by simp, by simp, fun _ => rfl⟩
  | true =>
    obtain ⟨hk, hm⟩ := (can_iff m).1 hc
    obtain ⟨a1, a2, a3, a4⟩ := h.adm (by omega) (may_epoch hm)
    obtain ⟨s1, s2, s3, s4⟩ := a2.sto hg hm
    rw [fresh_same a4, newS_same a4] at s4
    have hl : ¬ loaE bl m.block = 30 := by unfold loaE; split <;> omega
    have hlt : loaT bl (admC n f d C m.epoch) m.block = loaT bl C m.block := by unfold loaT; rw [tab_same a4]
    have hls : loaS bl (admC n f d C m.epoch) m.block = loaS bl C m.block := by unfold loaS getV; rw [a4]
    by_cases h1 : m.epoch < token C
    · rw [if_pos h1] at a1
      have g0 : takE n f bl d C m = 24 := by unfold takE; rw [a1, if_pos (by omega)]
      have e1 : takI n f bl d C m = true := by unfold takI; rw [hc, g0]; rfl
      have e3 : takD n f bl d C m = admD n f d C m.epoch := by unfold takD; rw [if_neg (by simp [hc]), if_pos (.inl (by rw [a1]; omega))]
      have e4 : takC n f bl d C m = admC n f d C m.epoch := by unfold takC; rw [if_neg (by simp [hc]), if_pos (.inl (by rw [a1]; omega))]
      have hn : news bl C m = false := by unfold news ok; rw [decide_eq_false (by omega)]; simp
      rw [e1, e3, e4]
      refine ⟨a2.mono (by omega), by rw [a3, if_pos rfl], fun k => by rw [a4]; simp [hn], rfl, fun _ => by rw [g0, if_pos h1], fun _ _ h3 => by omega, fun _ _ => ?_, by simp⟩
      unfold takA
      rw [e1, if_neg (by simp), if_neg (by rw [a1]; omega)]
    · rw [if_neg h1] at a1
      have hok : ok C m = true := by unfold ok; rw [hc, decide_eq_true (by omega)]; rfl
      rcases hk with hk | hk
      · have g0 : takE n f bl d C m = stoE n f bl (admD n f d C m.epoch) (admC n f d C m.epoch) m := by unfold takE; rw [a1, if_neg (by omega), if_neg (by omega)]
        have e1 : takI n f bl d C m = true := by
          unfold takI; rw [hc, g0, s1]
          have : ¬ (if isB bl m.block = false then (2 : Int) else if m.data.size ≠ 8 then 3 else 0) = 30 := by split <;> (try split) <;> omega
          rw [decide_eq_true this]; rfl
        have e3 : takD n f bl d C m = stoD n f bl (admD n f d C m.epoch) (admC n f d C m.epoch) m := by unfold takD; rw [if_neg (by simp [hc]), if_neg (by rw [a1, hk]; simp)]
        have e4 : takC n f bl d C m = stoC n f bl (admD n f d C m.epoch) (admC n f d C m.epoch) m := by unfold takC; rw [if_neg (by simp [hc]), if_neg (by rw [a1, hk]; simp)]
        have hn : news bl C m = fresh bl C m := by unfold news; rw [hok, decide_eq_true hk]; rfl
        rw [e1, e3, e4]
        refine ⟨s2.mono (by omega), by rw [s3, a3, if_pos rfl], fun k => by rw [s4, a4, hn], rfl, fun _ => by rw [g0, s1, if_neg h1, if_neg (show ¬ m.kind = 12 by omega)], fun _ h2 => by omega, fun _ _ => ?_, by simp⟩
        unfold takA
        rw [e1, if_neg (by simp), if_neg (by omega)]
      · have g0 : takE n f bl d C m = loaE bl m.block := by unfold takE; rw [a1, if_neg (by omega), if_pos hk]
        have e1 : takI n f bl d C m = true := by unfold takI; rw [hc, g0, decide_eq_true hl]; rfl
        have e3 : takD n f bl d C m = admD n f d C m.epoch := by unfold takD; rw [if_neg (by simp [hc]), if_pos (.inr hk)]
        have e4 : takC n f bl d C m = admC n f d C m.epoch := by unfold takC; rw [if_neg (by simp [hc]), if_pos (.inr hk)]
        have hn : news bl C m = false := by unfold news; rw [hok, decide_eq_false (by omega)]; rfl
        rw [e1, e3, e4]
        refine ⟨a2.mono (by omega), by rw [a3, if_pos rfl], fun k => by rw [a4]; simp [hn], rfl, fun _ => by rw [g0, if_neg h1, if_pos hk], fun _ _ _ => ?_, fun _ h3 => by omega, by simp⟩
        unfold takA
        rw [e1, if_neg (by simp), if_pos ⟨hk, a1⟩, g0, hlt, hls]
end Go.Proofs.YtofhijnfbilieaaGreat.Bk
namespace Go.Proofs.YtofhijnfbilieaaGreat.Bk
open Go.RowKit
open Ml (Mg may msgV)
set_option linter.unusedVariables false
set_option linter.unusedSimpArgs false
set_option maxRecDepth 20000

theorem ver_struct : Tryz.prog.underlying 52 = some (.struct (Tryz.prog.fieldsOf 52)) := by kernel_rfl
theorem ver_held : Tryz.prog.stoodInHeld 52 = false := by kernel_rfl
theorem ver_equal (a b c e : Int) (w : World) : (Op.equalIn 10000 52 (.agg #[.int .i64 a, .int .i64 b]) (.agg #[.int .i64 c, .int .i64 e])).run Tryz.prog w = .ok (decide (a = c ∧ b = e)) w := by
  have u2 := Tryz.underlying2
  have z2 := Tryz.sizeOf2
  rw [show (10000 : Nat) = 9999 + 1 from rfl, run_equalIn_agg w 9999 52 _ _ ver_struct ver_held]
  simp only [Program.fieldsOf, Tryz.underlying52]
  go_simp
  by_cases h0 : a = c <;> by_cases h1 : b = e <;> simp [h0, h1]
theorem ver_neq (a b c e : Int) (w : World) : (binOp .neq 52 (.agg #[.int .i64 a, .int .i64 b]) (.agg #[.int .i64 c, .int .i64 e])).run Tryz.prog w = .ok (.bool (!decide (a = c ∧ b = e))) w := by
  rw [run_neq_struct, ver_equal]
  rfl
theorem arr4_neq (x0 x1 x2 x3 y0 y1 y2 y3 : Int) (w : World) : (binOp .neq 35 (.agg #[.int .i64 x0, .int .i64 x1, .int .i64 x2, .int .i64 x3]) (.agg #[.int .i64 y0, .int .i64 y1, .int .i64 y2, .int .i64 y3])).run Tryz.prog w = .ok (.bool (!decide (x0 = y0 ∧ x1 = y1 ∧ x2 = y2 ∧ x3 = y3))) w := by
  obtain ⟨i, hi, _⟩ := info_parts C.i64_info
  have u2 := Tryz.underlying2
  have z2 := Tryz.sizeOf2
  have c2 : Tryz.prog.cellsOf 2 = 1 := by kernel_rfl
  rw [run_neq_struct, show (10000 : Nat) = 9999 + 1 from rfl, run_equalIn_array w 9999 _ _ Tryz.underlying35 hi, c2]
  simp only [show List.range 4 = [0, 1, 2, 3] from rfl, Op.eqItems]
  go_simp
  by_cases h0 : x0 = y0 <;> by_cases h1 : x1 = y1 <;> by_cases h2 : x2 = y2 <;> by_cases h3 : x3 = y3 <;> simp [h0, h1, h2, h3]

theorem there_fresh (k : Nat) : there M.fresh 0 k = M.none0 := by unfold there; rw [fresh_seen, fresh_seen, found_zero]
theorem fr_fresh (n bl : Nat) (hf : 2 * (1 + bl) ≤ n) : FR n 0 bl 0 M.fresh (there M.fresh 0) :=
  ⟨Free.fresh, fun _ => rfl, M.fresh_wf n, fun _ _ => rfl, fun k _ => by rw [there_fresh]; decide, by omega, fun _ _ _ => trivial⟩
theorem token_fresh : token (there M.fresh 0) = 0 := by unfold token; rw [there_fresh]; exact tok_empty
theorem blk_fresh (k : Nat) : blk (there M.fresh 0) k = Sd.zero := by unfold blk; rw [there_fresh]; exact st_empty

end Go.Proofs.YtofhijnfbilieaaGreat.Bk
namespace Go.Proofs.YtofhijnfbilieaaGreat.Bk
open Go.RowKit
open Ml (Mg may msgV)
set_option linter.unusedVariables false
set_option linter.unusedSimpArgs false
set_option maxRecDepth 20000

def dt8 : ByteArray := ⟨#[97, 98, 99, 100, 101, 102, 103, 104]⟩
def A1 : Mg := ⟨10, 2, 1, 7, 0, 1, 0, 0, 0, 0, 0, dt8, ⟨#[]⟩⟩
def A2 : Mg := ⟨12, 1, 0, 0, 0, 0, 0, 0, 0, 0, 0, ⟨#[]⟩, ⟨#[]⟩⟩
def A3 : Mg := ⟨12, 3, 0, 0, 0, 0, 0, 0, 0, 0, 0, ⟨#[]⟩, ⟨#[]⟩⟩
def A4 : Mg := ⟨1, 0, 0, 0, 0, 0, 0, 0, 0, 0, 0, ⟨#[]⟩, ⟨#[]⟩⟩
theorem can1 : can A1 = true := by decide +kernel
theorem can2 : can A2 = true := by decide +kernel
theorem can3 : can A3 = true := by decide +kernel
theorem can4 : can A4 = false := by decide +kernel

/-- what is known step by step -/
structure Awk (d1 d2 d3 d4 : M.Dv) (C1 C2 C3 C4 : Cs) (b1 b2 b3 b4 : Mg) (i1 i2 i3 i4 : Bool) : Prop where
  x1 : b1 = ⟨11, 2, 1, 7, 0, -1, 0, 0, 0, 0, 0, ⟨#[]⟩, ⟨#[]⟩⟩ ∧ i1 = true
  x2 : b2 = ⟨13, 1, 0, 0, 0, -1, 24, 0, 0, 0, 0, ⟨#[]⟩, ⟨#[]⟩⟩ ∧ i2 = true
  x3 : b3 = ⟨13, 3, 0, 0, 0, -1, 0, 0, 7, 0, 0, dt8, ⟨#[]⟩⟩ ∧ i3 = true
  x4 : b4 = Ml.nil ∧ i4 = false
  tk : token C4 = 3
  gt : getV 2 C4 0 = (2, 1, dt8)
  tb : tab C4 2 = ⟨0, 7, 0, 0⟩

theorem awk_is {d1 d2 d3 d4 : M.Dv} {C1 C2 C3 C4 : Cs} {b1 b2 b3 b4 : Mg} {i1 i2 i3 i4 : Bool}
    (e1 : d1 = takD 6 0 2 M.fresh (there M.fresh 0) A1) (f1 : C1 = takC 6 0 2 M.fresh (there M.fresh 0) A1) (g1 : b1 = takA 6 0 2 M.fresh (there M.fresh 0) A1) (h1 : i1 = takI 6 0 2 M.fresh (there M.fresh 0) A1)
    (e2 : d2 = takD 6 0 2 d1 C1 A2) (f2 : C2 = takC 6 0 2 d1 C1 A2) (g2 : b2 = takA 6 0 2 d1 C1 A2) (h2 : i2 = takI 6 0 2 d1 C1 A2)
    (e3 : d3 = takD 6 0 2 d2 C2 A3) (f3 : C3 = takC 6 0 2 d2 C2 A3) (g3 : b3 = takA 6 0 2 d2 C2 A3) (h3 : i3 = takI 6 0 2 d2 C2 A3)
    (e4 : d4 = takD 6 0 2 d3 C3 A4) (f4 : C4 = takC 6 0 2 d3 C3 A4) (g4 : b4 = takA 6 0 2 d3 C3 A4) (h4 : i4 = takI 6 0 2 d3 C3 A4) :
    Awk d1 d2 d3 d4 C1 C2 C3 C4 b1 b2 b3 b4 i1 i2 i3 i4 := by
  obtain ⟨p1, p2, p3, p4, p5, _, p7, _⟩ := (fr_fresh 6 2 (by omega)).take (by omega) A1
  rw [← e1, ← f1] at p1
  rw [← f1] at p2 p3
  obtain ⟨q1, q2, q3, q4, q5, _, q7, _⟩ := p1.take (by omega) A2
  rw [← e2, ← f2] at q1
  rw [← f2] at q2 q3
  obtain ⟨r1, r2, r3, r4, r5, r6, _, _⟩ := q1.take (by omega) A3
  rw [← e3, ← f3] at r1
  rw [← f3] at r2 r3
  obtain ⟨s1, s2, s3, s4, _, _, _, s8⟩ := r1.take (by omega) A4
  rw [← f4] at s2 s3
  rw [token_fresh] at p2
  have t1 : token C1 = 2 := by rw [p2, if_pos can1]; rfl
  have t2 : token C2 = 2 := by rw [q2, if_pos can2, t1]; rfl
  have t3 : token C3 = 3 := by rw [r2, if_pos can3, t2]; rfl
  have t4 : token C4 = 3 := by rw [s2, if_neg (by rw [can4]; decide), t3]
  have tz : tab (there M.fresh 0) 2 = T4.zero := by simp only [tab, blk_fresh]; decide +kernel
  have n1 : newS 2 (there M.fresh 0) A1 = ⟨2, 1, dt8, ⟨0, 7, 0, 0⟩⟩ := by unfold newS; rw [tz]; rfl
  have w1 : news 2 (there M.fresh 0) A1 = true := by
    unfold news ok fresh
    rw [can1, token_fresh, blk_fresh]
    decide +kernel
  have w2 : ∀ bl C, news bl C A2 = false := fun bl C => by unfold news; simp [A2]
  have w3 : ∀ bl C, news bl C A3 = false := fun bl C => by unfold news; simp [A3]
  have w4 : ∀ bl C, news bl C A4 = false := fun bl C => by unfold news; simp [A4]
  have b0 : blk C1 0 = ⟨2, 1, dt8, ⟨0, 7, 0, 0⟩⟩ := by rw [p3, if_pos ⟨w1, rfl⟩, n1]
  have b1' : blk C1 1 = Sd.zero := by rw [p3, if_neg (by rw [show A1.block = 0 from rfl]; simp), blk_fresh]
  have c2 : ∀ k, blk C2 k = blk C1 k := fun k => by rw [q3, if_neg (by rw [w2]; simp)]
  have c3 : ∀ k, blk C3 k = blk C2 k := fun k => by rw [r3, if_neg (by rw [w3]; simp)]
  have c4 : ∀ k, blk C4 k = blk C3 k := fun k => by rw [s3, if_neg (by rw [w4]; simp)]
  have tb1 : tab C1 2 = ⟨0, 7, 0, 0⟩ := by simp only [tab, b0, b1']; decide +kernel
  have tb2 : tab C2 2 = ⟨0, 7, 0, 0⟩ := by rw [tab_same c2, tb1]
  have lo : loaE 2 0 = 0 := by decide +kernel
  refine ⟨⟨?_, by rw [h1, p4, can1]⟩, ⟨?_, by rw [h2, q4, can2]⟩, ⟨?_, by rw [h3, r4, can3]⟩, ⟨by rw [g4, s8 can4], by rw [h4, s4, can4]⟩, t4, ?_, ?_⟩
  · rw [g1, p7 can1 (.inl (by decide)), p5 can1, token_fresh]
    decide +kernel
  · rw [g2, q7 can2 (.inr (by rw [t1]; decide)), q5 can2, t1]
    decide +kernel
  · rw [g3, r6 can3 rfl (by rw [t2]; decide)]
    have l1 : loaT 2 C2 A3.block = ⟨0, 7, 0, 0⟩ := by unfold loaT; rw [if_neg (by decide), tb2]
    have l2 : loaS 2 C2 A3.block = dt8 := by unfold loaS getV; rw [if_pos (by decide +kernel), show A3.block.toNat = 0 from rfl, c2, b0]
    rw [l1, l2]
    rfl
  · unfold getV
    rw [if_pos (by decide +kernel), show (0 : Int).toNat = 0 from rfl, c4, c3, c2, b0]
  · rw [tab_same c4, tab_same c3, tb2]

set_option maxHeartbeats 4000000 in
theorem awake_any (w : World) : Calls Tryz.prog 4 #[] w fun e w' => e = .returned (.bool true) ∧ Below w.heap.size w w' := by
  have HN := Lib.hid (new_yes 6 (by omega) w)
  have HO : Hid (∀ w' dB sB mB, DevAt w' dB sB mB 6 M.fresh → Calls Tryz.prog 7 #[.pointer (some ⟨dB, 0, none⟩), .int .i64 0, .int .i64 2] w' fun e w'' => ∃ tB K, e = .returned (.tuple #[.pointer (some ⟨tB, 0, none⟩), .int .i64 0]) ∧ w'.heap.size ≤ tB ∧ (∀ k, k ≤ 2 → w'.heap.size ≤ K k) ∧
      ST w'' dB sB mB 6 M.fresh tB 2 0 K (there M.fresh 0) ∧ Below w'.heap.size w' w'') := Lib.hid fun w' dB sB mB h => bopen_yes w' h rfl 0 2 (by omega) (by omega)
  have HX : Hid (∀ w' dB sB mB, DevAt w' dB sB mB 6 M.fresh → Calls Tryz.prog 7 #[.pointer (some ⟨dB, 0, none⟩), .int .i64 0, .int .i64 3] w' fun e w'' => e = .returned (.tuple #[.pointer none, .int .i64 1]) ∧ w' = w'') := Lib.hid fun w' dB sB mB h => bopen_arg w' h 0 3 (by omega) (by omega)
  have HT : Hid (∀ (w' : World) (dB sB mB tB : Nat) (d : M.Dv) (K : Nat → Nat) (C : Cs) (m : Mg), ST w' dB sB mB 6 d tB 2 0 K C → Calls Tryz.prog 10 #[.pointer (some ⟨tB, 0, none⟩), .agg m.cells] w' fun e w'' => e = .returned (.tuple #[msgV (takA 6 0 2 d C m), .bool (takI 6 0 2 d C m)]) ∧ ST w'' dB sB mB 6 (takD 6 0 2 d C m) tB 2 0 K (takC 6 0 2 d C m) ∧ But (ours dB sB mB 2 K) w' w'') := Lib.hid fun w' dB sB mB tB d K C m h => take_any w' h m
  go_enter Tryz.func4, Tryz.ntmps4
  go_upto_region 8 with (first
    | (go_at_call 5; refine HN.out.mono ?_; rintro e w1 ⟨dB, sB, mB, rfl, hd, hb1, g1, g2, g3⟩
       have HD := Lib.hid hd
       have HB1 := Lib.hid hb1
       have HG := Lib.hid (And.intro g1 (And.intro g2 g3))
       clear hd hb1 g1 g2 g3)
    | (go_at_call 7; with_reducible refine (HO.out _ _ _ _ HD.out).mono ?_; rintro e w2 ⟨tB, K, rfl, h1, h2, h3, hb2⟩
       have HS2 := Lib.hid h3
       have HG2 : Hid (∀ b ∈ ours dB sB mB 2 K, w.heap.size ≤ b) := Lib.hid fun b hb => by
         have hs1 := HB1.out.size
         rcases mem_ours.1 hb with rfl | rfl | rfl | ⟨k, hk, rfl⟩
         · exact HG.out.1
         · exact HG.out.2.1
         · exact HG.out.2.2
         · have := h2 k hk; omega
       have HB2 := Lib.hid (HB1.out.trans (hb2.mono HB1.out.size))
       clear h1 h2 h3 hb2)
    | (go_at_call 7; with_reducible refine (HX.out _ _ _ _ HS2.out.dev).mono ?_; rintro e w3 ⟨rfl, rfl⟩))
  have HI : Hid (∀ b, w2.heap.size ≤ b → b ∉ ours dB sB mB 2 K) := Lib.hid fun b hb hx => by have := HS2.out.ours_lt.2 b hx; omega
  obtain ⟨d1, e1⟩ : ∃ d', d' = takD 6 0 2 M.fresh (there M.fresh 0) A1 := ⟨_, rfl⟩
  obtain ⟨C1, f1⟩ : ∃ C', C' = takC 6 0 2 M.fresh (there M.fresh 0) A1 := ⟨_, rfl⟩
  obtain ⟨b1, g1⟩ : ∃ b', b' = takA 6 0 2 M.fresh (there M.fresh 0) A1 := ⟨_, rfl⟩
  obtain ⟨i1, h1⟩ : ∃ i', i' = takI 6 0 2 M.fresh (there M.fresh 0) A1 := ⟨_, rfl⟩
  obtain ⟨d2, e2⟩ : ∃ d', d' = takD 6 0 2 d1 C1 A2 := ⟨_, rfl⟩
  obtain ⟨C2, f2⟩ : ∃ C', C' = takC 6 0 2 d1 C1 A2 := ⟨_, rfl⟩
  obtain ⟨b2, g2⟩ : ∃ b', b' = takA 6 0 2 d1 C1 A2 := ⟨_, rfl⟩
  obtain ⟨i2, h2⟩ : ∃ i', i' = takI 6 0 2 d1 C1 A2 := ⟨_, rfl⟩
  obtain ⟨d3, e3⟩ : ∃ d', d' = takD 6 0 2 d2 C2 A3 := ⟨_, rfl⟩
  obtain ⟨C3, f3⟩ : ∃ C', C' = takC 6 0 2 d2 C2 A3 := ⟨_, rfl⟩
  obtain ⟨b3, g3⟩ : ∃ b', b' = takA 6 0 2 d2 C2 A3 := ⟨_, rfl⟩
  obtain ⟨i3, h3⟩ : ∃ i', i' = takI 6 0 2 d2 C2 A3 := ⟨_, rfl⟩
  obtain ⟨d4, e4⟩ : ∃ d', d' = takD 6 0 2 d3 C3 A4 := ⟨_, rfl⟩
  obtain ⟨C4, f4⟩ : ∃ C', C' = takC 6 0 2 d3 C3 A4 := ⟨_, rfl⟩
  obtain ⟨b4, g4⟩ : ∃ b', b' = takA 6 0 2 d3 C3 A4 := ⟨_, rfl⟩
  obtain ⟨i4, h4⟩ : ∃ i', i' = takI 6 0 2 d3 C3 A4 := ⟨_, rfl⟩
  have AW := Lib.hid (awk_is e1 f1 g1 h1 e2 f2 g2 h2 e3 f3 g3 h3 e4 f4 g4 h4)
  have HT1 : Hid (∀ w', ST w' dB sB mB 6 M.fresh tB 2 0 K (there M.fresh 0) → Calls Tryz.prog 10 #[.pointer (some ⟨tB, 0, none⟩), .agg #[.int .i64 10, .int .i64 2, .int .i64 1, .int .i64 7, .int .i64 0, .int .i64 1, .int .i64 0, .int .i64 0, .int .i64 0, .int .i64 0, .int .i64 0, .string ⟨#[97, 98, 99, 100, 101, 102, 103, 104]⟩, .string ⟨#[]⟩]] w' fun e w'' => e = .returned (.tuple #[.agg #[.int .i64 11, .int .i64 2, .int .i64 1, .int .i64 7, .int .i64 0, .int .i64 (-1), .int .i64 0, .int .i64 0, .int .i64 0, .int .i64 0, .int .i64 0, .string ⟨#[]⟩, .string ⟨#[]⟩], .bool true]) ∧ ST w'' dB sB mB 6 d1 tB 2 0 K C1 ∧ But (ours dB sB mB 2 K) w' w'') := Lib.hid fun w' h => by
    have := HT.out w' dB sB mB tB _ K _ A1 h
    rw [← e1, ← f1, ← g1, ← h1, AW.out.x1.1, AW.out.x1.2] at this
    exact this
  have HT2 : Hid (∀ w', ST w' dB sB mB 6 d1 tB 2 0 K C1 → Calls Tryz.prog 10 #[.pointer (some ⟨tB, 0, none⟩), .agg #[.int .i64 12, .int .i64 1, .int .i64 0, .int .i64 0, .int .i64 0, .int .i64 0, .int .i64 0, .int .i64 0, .int .i64 0, .int .i64 0, .int .i64 0, .string ⟨#[]⟩, .string ⟨#[]⟩]] w' fun e w'' => e = .returned (.tuple #[.agg #[.int .i64 13, .int .i64 1, .int .i64 0, .int .i64 0, .int .i64 0, .int .i64 (-1), .int .i64 24, .int .i64 0, .int .i64 0, .int .i64 0, .int .i64 0, .string ⟨#[]⟩, .string ⟨#[]⟩], .bool true]) ∧ ST w'' dB sB mB 6 d2 tB 2 0 K C2 ∧ But (ours dB sB mB 2 K) w' w'') := Lib.hid fun w' h => by
    have := HT.out w' dB sB mB tB _ K _ A2 h
    rw [← e2, ← f2, ← g2, ← h2, AW.out.x2.1, AW.out.x2.2] at this
    exact this
  have HT3 : Hid (∀ w', ST w' dB sB mB 6 d2 tB 2 0 K C2 → Calls Tryz.prog 10 #[.pointer (some ⟨tB, 0, none⟩), .agg #[.int .i64 12, .int .i64 3, .int .i64 0, .int .i64 0, .int .i64 0, .int .i64 0, .int .i64 0, .int .i64 0, .int .i64 0, .int .i64 0, .int .i64 0, .string ⟨#[]⟩, .string ⟨#[]⟩]] w' fun e w'' => e = .returned (.tuple #[.agg #[.int .i64 13, .int .i64 3, .int .i64 0, .int .i64 0, .int .i64 0, .int .i64 (-1), .int .i64 0, .int .i64 0, .int .i64 7, .int .i64 0, .int .i64 0, .string ⟨#[97, 98, 99, 100, 101, 102, 103, 104]⟩, .string ⟨#[]⟩], .bool true]) ∧ ST w'' dB sB mB 6 d3 tB 2 0 K C3 ∧ But (ours dB sB mB 2 K) w' w'') := Lib.hid fun w' h => by
    have := HT.out w' dB sB mB tB _ K _ A3 h
    rw [← e3, ← f3, ← g3, ← h3, AW.out.x3.1, AW.out.x3.2] at this
    exact this
  have HT4 : Hid (∀ w', ST w' dB sB mB 6 d3 tB 2 0 K C3 → Calls Tryz.prog 10 #[.pointer (some ⟨tB, 0, none⟩), .agg #[.int .i64 1, .int .i64 0, .int .i64 0, .int .i64 0, .int .i64 0, .int .i64 0, .int .i64 0, .int .i64 0, .int .i64 0, .int .i64 0, .int .i64 0, .string ⟨#[]⟩, .string ⟨#[]⟩]] w' fun e w'' => e = .returned (.tuple #[.agg #[.int .i64 0, .int .i64 0, .int .i64 0, .int .i64 0, .int .i64 0, .int .i64 0, .int .i64 0, .int .i64 0, .int .i64 0, .int .i64 0, .int .i64 0, .string ⟨#[]⟩, .string ⟨#[]⟩], .bool false]) ∧ ST w'' dB sB mB 6 d4 tB 2 0 K C4 ∧ But (ours dB sB mB 2 K) w' w'') := Lib.hid fun w' h => by
    have := HT.out w' dB sB mB tB _ K _ A4 h
    rw [← e4, ← f4, ← g4, ← h4, AW.out.x4.1, AW.out.x4.2] at this
    exact this
  have HGe : Hid (∀ w', ST w' dB sB mB 6 d4 tB 2 0 K C4 → Calls Tryz.prog 19 #[.pointer (some ⟨tB, 0, none⟩), .int .i64 0] w' fun e w'' => e = .returned (.tuple #[.agg #[.int .i64 2, .int .i64 1], .string ⟨#[97, 98, 99, 100, 101, 102, 103, 104]⟩]) ∧ Below w'.heap.size w' w'') := Lib.hid fun w' h => by
    have := bget_any w' h 0
    rw [AW.out.gt] at this
    exact this
  have HTk : Hid (∀ w', ST w' dB sB mB 6 d4 tB 2 0 K C4 → Calls Tryz.prog 21 #[.pointer (some ⟨tB, 0, none⟩)] w' fun e w'' => e = .returned (.int .i64 3) ∧ Below w'.heap.size w' w'') := Lib.hid fun w' h => by
    have := tok_any w' h
    rw [AW.out.tk] at this
    exact this
  have HTb : Hid (∀ w', ST w' dB sB mB 6 d4 tB 2 0 K C4 → Calls Tryz.prog 22 #[.pointer (some ⟨tB, 0, none⟩)] w' fun e w'' => e = .returned (.agg #[.int .i64 0, .int .i64 7, .int .i64 0, .int .i64 0]) ∧ Below w'.heap.size w' w'') := Lib.hid fun w' h => by
    have := table_any w' h
    rw [AW.out.tb] at this
    exact this
  clear e1 f1 g1 h1 e2 f2 g2 h2 e3 f3 g3 h3 e4 f4 g4 h4 AW HT HN HO HX
  have P1 := Lib.hid ((But.refl (ours dB sB mB 2 K) w2).below ((Below.refl w2.heap.size w2).alloc (Nat.le_refl _) (.cells #[.int .i64 10, .int .i64 2, .int .i64 1, .int .i64 7, .int .i64 0, .int .i64 1, .int .i64 0, .int .i64 0, .int .i64 0, .int .i64 0, .int .i64 0, .string ⟨#[97, 98, 99, 100, 101, 102, 103, 104]⟩, .string ⟨#[]⟩] 37)) (Nat.le_refl _))
  have S1 := Lib.hid (HS2.out.below ((Below.refl w2.heap.size w2).alloc (Nat.le_refl _) (.cells #[.int .i64 10, .int .i64 2, .int .i64 1, .int .i64 7, .int .i64 0, .int .i64 1, .int .i64 0, .int .i64 0, .int .i64 0, .int .i64 0, .int .i64 0, .string ⟨#[97, 98, 99, 100, 101, 102, 103, 104]⟩, .string ⟨#[]⟩] 37)))
  go_wp2_with (first
    | (go_at_call 10; with_reducible refine (HT1.out _ S1.out).mono ?_; rintro e w4 ⟨rfl, hs, hb⟩
       have Q1 : Hid (But (ours dB sB mB 2 K) w2 w4) := Lib.hid (P1.out.trans hb)
       have P2 := Lib.hid (Q1.out.below ((Below.refl w4.heap.size w4).alloc (Nat.le_refl _) (.cells #[.int .i64 11, .int .i64 2, .int .i64 1, .int .i64 7, .int .i64 0, .int .i64 (-1), .int .i64 0, .int .i64 0, .int .i64 0, .int .i64 0, .int .i64 0, .string ⟨#[]⟩, .string ⟨#[]⟩] 37)) Q1.out.size)
       have S2 := Lib.hid (hs.below ((Below.refl w4.heap.size w4).alloc (Nat.le_refl _) (.cells #[.int .i64 11, .int .i64 2, .int .i64 1, .int .i64 7, .int .i64 0, .int .i64 (-1), .int .i64 0, .int .i64 0, .int .i64 0, .int .i64 0, .int .i64 0, .string ⟨#[]⟩, .string ⟨#[]⟩] 37)))
       have F11 := Lib.hid (Bo.new w4 #[.int .i64 11, .int .i64 2, .int .i64 1, .int .i64 7, .int .i64 0, .int .i64 (-1), .int .i64 0, .int .i64 0, .int .i64 0, .int .i64 0, .int .i64 0, .string ⟨#[]⟩, .string ⟨#[]⟩] 37)
       clear hs hb)
    | (go_at_call 10; with_reducible refine (HT2.out _ S2.out).mono ?_; rintro e w5 ⟨rfl, hs, hb⟩
       have Q2 : Hid (But (ours dB sB mB 2 K) w2 w5) := Lib.hid (P2.out.trans hb)
       have P3 := Lib.hid (Q2.out.below ((Below.refl w5.heap.size w5).alloc (Nat.le_refl _) (.cells #[.int .i64 13, .int .i64 1, .int .i64 0, .int .i64 0, .int .i64 0, .int .i64 (-1), .int .i64 24, .int .i64 0, .int .i64 0, .int .i64 0, .int .i64 0, .string ⟨#[]⟩, .string ⟨#[]⟩] 37)) Q2.out.size)
       have S3 := Lib.hid (hs.below ((Below.refl w5.heap.size w5).alloc (Nat.le_refl _) (.cells #[.int .i64 13, .int .i64 1, .int .i64 0, .int .i64 0, .int .i64 0, .int .i64 (-1), .int .i64 24, .int .i64 0, .int .i64 0, .int .i64 0, .int .i64 0, .string ⟨#[]⟩, .string ⟨#[]⟩] 37)))
       have F12 := Lib.hid ((F11.out.but hb (HI.out _ Q1.out.size)).below ((Below.refl w5.heap.size w5).alloc (Nat.le_refl _) (.cells #[.int .i64 13, .int .i64 1, .int .i64 0, .int .i64 0, .int .i64 0, .int .i64 (-1), .int .i64 24, .int .i64 0, .int .i64 0, .int .i64 0, .int .i64 0, .string ⟨#[]⟩, .string ⟨#[]⟩] 37)) (Nat.lt_of_lt_of_le F11.out.lt hb.size))
       have F22 := Lib.hid (Bo.new w5 #[.int .i64 13, .int .i64 1, .int .i64 0, .int .i64 0, .int .i64 0, .int .i64 (-1), .int .i64 24, .int .i64 0, .int .i64 0, .int .i64 0, .int .i64 0, .string ⟨#[]⟩, .string ⟨#[]⟩] 37)
       clear hs hb)
    | (go_at_call 10; with_reducible refine (HT3.out _ S3.out).mono ?_; rintro e w6 ⟨rfl, hs, hb⟩
       have Q3 : Hid (But (ours dB sB mB 2 K) w2 w6) := Lib.hid (P3.out.trans hb)
       have P4 := Lib.hid (Q3.out.below ((Below.refl w6.heap.size w6).alloc (Nat.le_refl _) (.cells #[.int .i64 13, .int .i64 3, .int .i64 0, .int .i64 0, .int .i64 0, .int .i64 (-1), .int .i64 0, .int .i64 0, .int .i64 7, .int .i64 0, .int .i64 0, .string ⟨#[97, 98, 99, 100, 101, 102, 103, 104]⟩, .string ⟨#[]⟩] 37)) Q3.out.size)
       have S4 := Lib.hid (hs.below ((Below.refl w6.heap.size w6).alloc (Nat.le_refl _) (.cells #[.int .i64 13, .int .i64 3, .int .i64 0, .int .i64 0, .int .i64 0, .int .i64 (-1), .int .i64 0, .int .i64 0, .int .i64 7, .int .i64 0, .int .i64 0, .string ⟨#[97, 98, 99, 100, 101, 102, 103, 104]⟩, .string ⟨#[]⟩] 37)))
       have F13 := Lib.hid ((F12.out.but hb (HI.out _ Q1.out.size)).below ((Below.refl w6.heap.size w6).alloc (Nat.le_refl _) (.cells #[.int .i64 13, .int .i64 3, .int .i64 0, .int .i64 0, .int .i64 0, .int .i64 (-1), .int .i64 0, .int .i64 0, .int .i64 7, .int .i64 0, .int .i64 0, .string ⟨#[97, 98, 99, 100, 101, 102, 103, 104]⟩, .string ⟨#[]⟩] 37)) (Nat.lt_of_lt_of_le F12.out.lt hb.size))
       have F23 := Lib.hid ((F22.out.but hb (HI.out _ Q2.out.size)).below ((Below.refl w6.heap.size w6).alloc (Nat.le_refl _) (.cells #[.int .i64 13, .int .i64 3, .int .i64 0, .int .i64 0, .int .i64 0, .int .i64 (-1), .int .i64 0, .int .i64 0, .int .i64 7, .int .i64 0, .int .i64 0, .string ⟨#[97, 98, 99, 100, 101, 102, 103, 104]⟩, .string ⟨#[]⟩] 37)) (Nat.lt_of_lt_of_le F22.out.lt hb.size))
       have F33 := Lib.hid (Bo.new w6 #[.int .i64 13, .int .i64 3, .int .i64 0, .int .i64 0, .int .i64 0, .int .i64 (-1), .int .i64 0, .int .i64 0, .int .i64 7, .int .i64 0, .int .i64 0, .string ⟨#[97, 98, 99, 100, 101, 102, 103, 104]⟩, .string ⟨#[]⟩] 37)
       clear hs hb)
    | (go_at_call 10; with_reducible refine (HT4.out _ S4.out).mono ?_; rintro e w7 ⟨rfl, hs, hb⟩
       have Q4 : Hid (But (ours dB sB mB 2 K) w2 w7) := Lib.hid (P4.out.trans hb)
       have P5 := Lib.hid (Q4.out.below ((Below.refl w7.heap.size w7).alloc (Nat.le_refl _) (.cells #[.int .i64 0, .int .i64 0, .int .i64 0, .int .i64 0, .int .i64 0, .int .i64 0, .int .i64 0, .int .i64 0, .int .i64 0, .int .i64 0, .int .i64 0, .string ⟨#[]⟩, .string ⟨#[]⟩] 37)) Q4.out.size)
       have S5 := Lib.hid (hs.below ((Below.refl w7.heap.size w7).alloc (Nat.le_refl _) (.cells #[.int .i64 0, .int .i64 0, .int .i64 0, .int .i64 0, .int .i64 0, .int .i64 0, .int .i64 0, .int .i64 0, .int .i64 0, .int .i64 0, .int .i64 0, .string ⟨#[]⟩, .string ⟨#[]⟩] 37)))
       have F14 := Lib.hid ((F13.out.but hb (HI.out _ Q1.out.size)).below ((Below.refl w7.heap.size w7).alloc (Nat.le_refl _) (.cells #[.int .i64 0, .int .i64 0, .int .i64 0, .int .i64 0, .int .i64 0, .int .i64 0, .int .i64 0, .int .i64 0, .int .i64 0, .int .i64 0, .int .i64 0, .string ⟨#[]⟩, .string ⟨#[]⟩] 37)) (Nat.lt_of_lt_of_le F13.out.lt hb.size))
       have F24 := Lib.hid ((F23.out.but hb (HI.out _ Q2.out.size)).below ((Below.refl w7.heap.size w7).alloc (Nat.le_refl _) (.cells #[.int .i64 0, .int .i64 0, .int .i64 0, .int .i64 0, .int .i64 0, .int .i64 0, .int .i64 0, .int .i64 0, .int .i64 0, .int .i64 0, .int .i64 0, .string ⟨#[]⟩, .string ⟨#[]⟩] 37)) (Nat.lt_of_lt_of_le F23.out.lt hb.size))
       have F34 := Lib.hid ((F33.out.but hb (HI.out _ Q3.out.size)).below ((Below.refl w7.heap.size w7).alloc (Nat.le_refl _) (.cells #[.int .i64 0, .int .i64 0, .int .i64 0, .int .i64 0, .int .i64 0, .int .i64 0, .int .i64 0, .int .i64 0, .int .i64 0, .int .i64 0, .int .i64 0, .string ⟨#[]⟩, .string ⟨#[]⟩] 37)) (Nat.lt_of_lt_of_le F33.out.lt hb.size))
       clear hs hb)
    | (go_at_call 19; with_reducible refine (HGe.out _ S5.out).mono ?_; rintro e w8 ⟨rfl, hb⟩
       have hb2 := hb.alloc hb.size (.cells #[.int .i64 2, .int .i64 1] 52)
       have S6 := Lib.hid (S5.out.below hb2)
       have P6 := Lib.hid (P5.out.trans ((But.of_below hb2).mono (by simp)))
       have k10 := (F14.out.below hb2 F14.out.lt).cell 0
       have k16 := (F14.out.below hb2 F14.out.lt).cell 6
       have k26 := (F24.out.below hb2 F24.out.lt).cell 6
       have k31 := (F34.out.below hb2 F34.out.lt).cell 11
       have k38 := (F34.out.below hb2 F34.out.lt).cell 8
       simp only [List.getElem?_toArray, List.getElem?_cons_zero, List.getElem?_cons_succ] at k10 k16 k26 k31 k38
       have BV := Lib.hid (Bo.new w8 #[.int .i64 2, .int .i64 1] 52)
       clear hb hb2)
    | (go_at_call 21; with_reducible refine (HTk.out _ S6.out).mono ?_; rintro e w9 ⟨rfl, hb⟩
       have S7 := Lib.hid (S6.out.below hb)
       have P7 := Lib.hid (P6.out.trans ((But.of_below hb).mono (by simp)))
       have v0 := (BV.out.below hb BV.out.lt).cell 0
       simp only [List.getElem?_toArray, List.getElem?_cons_zero, List.getElem?_cons_succ] at v0
       clear hb)
    | (go_at_call 22; with_reducible refine (HTb.out _ S7.out).mono ?_; rintro e w10 ⟨rfl, hb⟩
       have P8 := Lib.hid (P7.out.trans ((But.of_below hb).mono (by simp)))
       have ix : ∀ w, (Instr.index 35 (.agg #[.int .i64 0, .int .i64 7, .int .i64 0, .int .i64 0]) (.int .i64 1)).run Tryz.prog w = .ok (.int .i64 7) w := fun _ => by kernel_rfl
       clear hb))
  go_ret
  exact ⟨rfl, HB2.out.trans (P8.out.to_below HG2.out HB2.out.size)⟩
end Go.Proofs.YtofhijnfbilieaaGreat.Bk
