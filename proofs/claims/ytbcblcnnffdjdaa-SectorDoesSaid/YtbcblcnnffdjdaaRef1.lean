/-
  The document's own device in memory, and its smaller methods.
-/
import Derived.Test.YtbcblcnnffdjdaaRef0
import Derived.Laws.MakeOwn
namespace Go.Proofs.Ytbcblcnnffdjdaa
open Go.RowKit Go.Maps
set_option linter.unusedVariables false
set_option linter.unusedSimpArgs false
set_option maxRecDepth 20000

/-- the reference's fuse: one number alone says that there is none -/
def rfuse (k : Int) : Int := if k < 0 then -1 else k

/-- one sector of the reference in memory -/
structure RSec (w : World) (LB i : Nat) (d : M.Dv) : Prop where
  b : w.rangeAt LB (i * 289) (u8s (d.S i))
  p : ∃ x : M.Sec, x.length = 144 ∧ w.rangeAt LB (i * 289 + 144) (u8s x) ∧ ∀ s, d.P (i : Int) = some s → x = s
  is : w.cell? ⟨LB, i * 289 + 288, none⟩ = some (.bool (d.P (i : Int)).isSome)

structure RefAt (w : World) (rB LB n : Nat) (d : M.Dv) : Prop where
  sec : w.cell? ⟨rB, 0, none⟩ = some (.slice (some ⟨LB, 0, none⟩) n n)
  dead : w.cell? ⟨rB, 1, none⟩ = some (.bool d.dead)
  fuse : w.cell? ⟨rB, 2, none⟩ = some (.int .i64 (rfuse d.fuse))
  fz : ∀ o, w.frozen? ⟨rB, o, none⟩ = false
  ne : rB ≠ LB
  lt : LB < w.heap.size
  secs : ∀ i, i < n → RSec w LB i d
  there : w.there LB 0 (n * 289)
  wf : M.Wf n d
  n512 : n ≤ 512

variable {rB LB n : Nat} {d : M.Dv}

theorem RefAt.ltR {w : World} (h : RefAt w rB LB n d) : rB < w.heap.size := World.block_lt_of_cell? w _ h.sec
theorem RSec.of_block {w w' : World} {i : Nat} (h : RSec w LB i d) (hb : w'.heap[LB]? = w.heap[LB]?) : RSec w' LB i d := by
  obtain ⟨h1, ⟨x, h2, h3, h4⟩, h5⟩ := h
  exact ⟨rangeAt_block h1 hb, ⟨x, h2, rangeAt_block h3 hb, h4⟩, by rw [World.cell?_of_block (w := w) (a := ⟨LB, i * 289 + 288, none⟩) hb]; exact h5⟩
theorem RefAt.of_blocks {w w' : World} (h : RefAt w rB LB n d) (h1 : w'.heap[rB]? = w.heap[rB]?) (h2 : w'.heap[LB]? = w.heap[LB]?) (hs : w.heap.size ≤ w'.heap.size) : RefAt w' rB LB n d where
  sec := by rw [World.cell?_of_block (w := w) (a := ⟨rB, 0, none⟩) h1]; exact h.sec
  dead := by rw [World.cell?_of_block (w := w) (a := ⟨rB, 1, none⟩) h1]; exact h.dead
  fuse := by rw [World.cell?_of_block (w := w) (a := ⟨rB, 2, none⟩) h1]; exact h.fuse
  fz := fun o => by rw [World.frozen?_of_block (w := w) (a := ⟨rB, o, none⟩) h1]; exact h.fz o
  ne := h.ne
  lt := Nat.lt_of_lt_of_le h.lt hs
  secs := fun i hi => (h.secs i hi).of_block h2
  there := there_block h.there h2
  wf := h.wf
  n512 := h.n512
theorem RefAt.but {w w' : World} (h : RefAt w rB LB n d) {l : List Nat} (hb : But l w w') (h1 : rB ∉ l) (h2 : LB ∉ l) : RefAt w' rB LB n d := h.of_blocks (hb.block _ h.ltR h1) (hb.block _ h.lt h2) hb.size
theorem RefAt.alloc {w : World} (h : RefAt w rB LB n d) (o : Obj) : RefAt (w.alloc o) rB LB n d := h.but ((But.refl [] w).alloc o) (by simp) (by simp)
theorem RefAt.drew {w : World} (h : RefAt w rB LB n d) : RefAt w.drew rB LB n d := h.of_blocks rfl rfl (Nat.le_refl _)
theorem RefAt.drewN {w : World} (h : RefAt w rB LB n d) (k : Nat) : RefAt (w.drewN k) rB LB n d := h.of_blocks rfl rfl (Nat.le_refl _)
theorem RefAt.same {w : World} {d' : M.Dv} (h : RefAt w rB LB n d) (h1 : ∀ i, d.S i = d'.S i) (h2 : ∀ i, d.P i = d'.P i) (h3 : d.dead = d'.dead) (h4 : d.fuse = d'.fuse) : RefAt w rB LB n d' := by
  obtain ⟨S, P, de, fu⟩ := d
  obtain ⟨S', P', de', fu'⟩ := d'
  obtain rfl : S = S' := funext h1
  obtain rfl : P = P' := funext h2
  obtain rfl : de = de' := h3
  obtain rfl : fu = fu' := h4
  exact h

theorem RefAt.setDead {w : World} (h : RefAt w rB LB n d) (b : Bool) : RefAt (w.setCell ⟨rB, 1, none⟩ (.bool b)) rB LB n { d with dead := b } where
  sec := by rw [World.cell?_setCell_other _ _ _ _ (by simp)]; exact h.sec
  dead := World.cell?_setCell_same _ _ _ h.dead
  fuse := by rw [World.cell?_setCell_other _ _ _ _ (by simp)]; exact h.fuse
  fz := fun o => by rw [World.frozen?_setCell]; exact h.fz o
  ne := h.ne
  lt := by simpa [World.setCell] using h.lt
  secs := fun i hi => by
    obtain ⟨h1, h2, h3⟩ := (h.secs i hi).of_block (Below.heap_setCell w ⟨rB, 1, none⟩ (.bool b) LB (Ne.symm h.ne))
    exact ⟨h1, h2, h3⟩
  there := there_block h.there (Below.heap_setCell _ _ _ _ (Ne.symm h.ne))
  wf := ⟨h.wf.len, h.wf.pend, h.wf.lo, h.wf.hi⟩
  n512 := h.n512

theorem RefAt.setFuse {w : World} (h : RefAt w rB LB n d) {k q : Int} (hq : q = rfuse k) (h1 : -9223372036854775808 ≤ k) (h2 : k ≤ 9223372036854775807) : RefAt (w.setCell ⟨rB, 2, none⟩ (.int .i64 q)) rB LB n { d with fuse := k } where
  sec := by rw [World.cell?_setCell_other _ _ _ _ (by simp)]; exact h.sec
  dead := by rw [World.cell?_setCell_other _ _ _ _ (by simp)]; exact h.dead
  fuse := by rw [hq]; exact World.cell?_setCell_same _ _ _ h.fuse
  fz := fun o => by rw [World.frozen?_setCell]; exact h.fz o
  ne := h.ne
  lt := by simpa [World.setCell] using h.lt
  secs := fun i hi => by
    obtain ⟨h1, h2, h3⟩ := (h.secs i hi).of_block (Below.heap_setCell w ⟨rB, 2, none⟩ (.int .i64 q) LB (Ne.symm h.ne))
    exact ⟨h1, h2, h3⟩
  there := there_block h.there (Below.heap_setCell _ _ _ _ (Ne.symm h.ne))
  wf := ⟨h.wf.len, h.wf.pend, h1, h2⟩
  n512 := h.n512

theorem ract_any (w : World) (h : RefAt w rB LB n d) :
    Calls Try.prog 34 #[.pointer (some ⟨rB, 0, none⟩)] w fun e w' => e = .returned (.int .i64 (M.actE d)) ∧ RefAt w' rB LB n (M.actD d) ∧ But [rB] w w' := by
  have h1 := h.fuse
  have h2 := h.fz 1
  have h3 := h.fz 2
  have h4 := h.dead
  have hlo := h.wf.lo
  have hhi := h.wf.hi
  have H := Lib.hid h
  clear h
  unfold M.actE M.actD rfuse at *
  by_cases c0 : d.fuse = 0
  · have K := Lib.hid (H.out.setDead true)
    simp only [if_pos c0]
    rw [c0] at h1
    simp only [Int.lt_irrefl, if_false] at h1
    clear c0 hlo hhi
    go_enter Try.func34, Try.ntmps34
    go_wp2
    go_ret
    exact ⟨rfl, K.out, (But.refl _ _).set _ (.inl (by simp))⟩
  · simp only [if_neg c0]
    by_cases c1 : 0 < d.fuse
    · have K := Lib.hid (H.out.setFuse (k := d.fuse - 1) (q := d.fuse - 1) (by unfold rfuse; rw [if_neg (by omega)]) (by omega) (by omega))
      simp only [if_pos c1]
      rw [if_neg (by omega)] at h1
      clear c0
      go_enter Try.func34, Try.ntmps34
      go_wp2
      go_ret
      exact ⟨rfl, K.out, (But.refl _ _).set _ (.inl (by simp))⟩
    · simp only [if_neg c1]
      rw [if_pos (by omega)] at h1
      clear c0 c1
      go_enter Try.func34, Try.ntmps34
      go_wp2
      go_ret
      exact ⟨rfl, H.out, But.refl _ _⟩

theorem rfuse_any (w : World) (h : RefAt w rB LB n d) (k : Int) (hk1 : -9223372036854775808 ≤ k) (hk2 : k ≤ 9223372036854775807) :
    Calls Try.prog 18 #[.pointer (some ⟨rB, 0, none⟩), .int .i64 k] w fun e w' => e = .returned (.tuple #[]) ∧ RefAt w' rB LB n (M.fuseD d k) ∧ But [rB] w w' := by
  have h1 := h.fuse
  have h2 := h.fz 2
  by_cases c : k < 0
  · have HR := Lib.hid h
    have e1 : rfuse k = -1 := if_pos c
    have HW : Hid (RefAt ((w.setCell ⟨rB, 2, none⟩ (.int .i64 k)).setCell ⟨rB, 2, none⟩ (.int .i64 (-1))) rB LB n (M.fuseD d k)) := Lib.hid (by
      refine ⟨?_, ?_, ?_, ?_, h.ne, ?_, ?_, ?_, M.fuse_wf h.wf hk1 hk2, h.n512⟩
      · rw [World.cell?_setCell_other _ _ _ _ (by simp), World.cell?_setCell_other _ _ _ _ (by simp)]; exact h.sec
      · rw [World.cell?_setCell_other _ _ _ _ (by simp), World.cell?_setCell_other _ _ _ _ (by simp)]; exact h.dead
      · show _ = some (Value.int .i64 (rfuse k))
        rw [e1]
        exact World.cell?_setCell_same _ _ _ (World.cell?_setCell_same _ _ _ h1)
      · intro o; rw [World.frozen?_setCell, World.frozen?_setCell]; exact h.fz o
      · simpa [World.setCell] using h.lt
      · intro i hi
        obtain ⟨k1, k2, k3⟩ := ((h.secs i hi).of_block (Below.heap_setCell w ⟨rB, 2, none⟩ (.int .i64 k) LB (Ne.symm h.ne))).of_block (Below.heap_setCell _ ⟨rB, 2, none⟩ (.int .i64 (-1)) LB (Ne.symm h.ne))
        exact ⟨k1, k2, k3⟩
      · exact there_block (there_block h.there (Below.heap_setCell w ⟨rB, 2, none⟩ (.int .i64 k) LB (Ne.symm h.ne))) (Below.heap_setCell _ ⟨rB, 2, none⟩ (.int .i64 (-1)) LB (Ne.symm h.ne)))
    clear h e1
    go_enter Try.func18, Try.ntmps18
    go_wp2
    go_end0
    exact ⟨rfl, by first | exact HW.out | (simpa using HW.out), by first | exact ((But.refl _ _).set _ (.inl (by simp))).set _ (.inl (by simp)) | exact (But.refl _ _).set _ (.inl (by simp))⟩
  · have HW := Lib.hid (h.setFuse (k := k) (q := k) (by unfold rfuse; rw [if_neg c]) hk1 hk2)
    clear h
    go_enter Try.func18, Try.ntmps18
    go_wp2
    go_end0
    exact ⟨rfl, HW.out, (But.refl _ _).set _ (.inl (by simp))⟩

/-! a new reference device -/
theorem made70_get (n : Nat) {i j : Nat} (hi : i < n) (hj : j < 289) : (madeCells (sec3 M.zero M.zero false).toArray (n * 289))[i * 289 + j]? = (sec3 M.zero M.zero false)[j]? := by
  have hsz : (sec3 M.zero M.zero false).toArray.size = 289 := by rw [List.size_toArray, sec3_len M.zero_len M.zero_len]
  have hlt : i * 289 + j < n * 289 := by
    have : (i + 1) * 289 ≤ n * 289 := Nat.mul_le_mul_right _ hi
    omega
  have hm : (i * 289 + j) % 289 = j := by omega
  unfold madeCells
  rw [Array.getElem?_map, hsz, Array.getElem?_range, if_pos hlt, Option.map_some, hm, getElem!_pos _ _ (by rw [hsz]; exact hj), ← List.getElem?_toArray, Array.getElem?_eq_getElem (by rw [hsz]; exact hj)]

theorem made70_sec {w : World} {LB n : Nat} (hc : ∀ i j, i < n → j < 289 → w.cell? ⟨LB, i * 289 + j, none⟩ = (sec3 M.zero M.zero false)[j]?) (i : Nat) (hi : i < n) : RSec w LB i M.fresh where
  b := fun j v hv => by
    have hj : j < 144 := by have := (List.getElem?_eq_some_iff.1 hv).1; rw [u8s_length] at this; exact this
    rw [hc i j hi (by omega)]
    unfold sec3
    rw [List.getElem?_append_left (by rw [u8s_length, M.zero_len]; exact hj)]
    exact hv
  p := ⟨M.zero, M.zero_len, fun j v hv => by
    have hj : j < 144 := by have := (List.getElem?_eq_some_iff.1 hv).1; rw [u8s_length, M.zero_len] at this; exact this
    rw [Nat.add_assoc, hc i (144 + j) hi (by omega)]
    unfold sec3
    rw [app_get M.zero_len _ (by omega), show 144 + j - 144 = j by omega, List.getElem?_append_left (by rw [u8s_length, M.zero_len]; exact hj)]
    exact hv, fun s hs => by simp [M.fresh] at hs⟩
  is := by
    rw [hc i 288 hi (by omega)]
    unfold sec3
    rw [app_get M.zero_len _ (by omega), app_get M.zero_len _ (by omega)]
    rfl

theorem rnew_no (k : Int) (hk : k < 0 ∨ 512 < k) (w : World) : Calls Try.prog 11 #[.int .i64 k] w fun e w' => e = .returned (.pointer none) ∧ w = w' := by
  rcases hk with hk | hk
  · go_enter Try.func11, Try.ntmps11
    go_wp2
    go_ret
    exact ⟨rfl, rfl⟩
  · have h0 : 0 ≤ k := by omega
    go_enter Try.func11, Try.ntmps11
    go_wp2
    go_ret
    exact ⟨rfl, rfl⟩

theorem make46 (w : World) (n : Nat) (hn : n ≤ 512) : ∃ C, (Instr.makeSlice 46 (.int .i64 n) (.int .i64 n)).run Try.prog w = .ok (.slice (some ⟨w.heap.size, 0, none⟩) n n) (w.alloc (.cells C 70)) ∧
    ∀ i j, i < n → j < 289 → C[i * 289 + j]? = (sec3 M.zero M.zero false)[j]? := by
  obtain ⟨i0, hi0, hz0, hs0, hb0⟩ := info_of sec70_info
  have hm := run_makeSlice w 46 70 i0 _ Try.underlying46 hi0 hz0 .i64 .i64 n n (by omega) (by omega) (by rw [hs0]; omega) (by rw [hb0]; omega) (by omega)
  rw [hs0] at hm
  simp only [Int.toNat_natCast] at hm
  exact ⟨_, hm, fun i j hi hj => made70_get n hi hj⟩

theorem rnew_yes (n : Nat) (hn : n ≤ 512) (w : World) : Calls Try.prog 11 #[.int .i64 n] w fun e w' =>
    ∃ rB LB, e = .returned (.pointer (some ⟨rB, 0, none⟩)) ∧ RefAt w' rB LB n M.fresh ∧ Below w.heap.size w w' ∧ w.heap.size ≤ rB ∧ w.heap.size ≤ LB := by
  obtain ⟨C, hm, hC⟩ := make46 w n hn
  have HC := Lib.hid hC
  have hn0 : (0 : Int) ≤ (n : Int) := by omega
  have hn1 : (n : Int) ≤ 512 := by omega
  have Hn := Lib.hid hn
  clear hn hC
  go_enter Try.func11, Try.ntmps11
  go_wp2
  go_ret
  refine ⟨_, w.heap.size, rfl, ?_, ((Below.refl _ _).alloc (Nat.le_refl _) _).alloc (by simp) _, by omega, by omega⟩
  have hcell : ∀ i j, i < n → j < 289 → ((w.alloc (.cells C 70)).alloc (.cells #[.slice (some ⟨w.heap.size, 0, none⟩) n n, .bool false, .int .i64 (-1)] 48)).cell? ⟨w.heap.size, i * 289 + j, none⟩ = (sec3 M.zero M.zero false)[j]? := fun i j hi hj => by
    rw [World.cell?_alloc_lt _ _ _ (by simp), World.cell?_alloc_mark]
    exact HC.out i j hi hj
  have hfz : ∀ b o, w.heap.size ≤ b → ((w.alloc (.cells C 70)).alloc (.cells #[.slice (some ⟨w.heap.size, 0, none⟩) n n, .bool false, .int .i64 (-1)] 48)).frozen? ⟨b, o, none⟩ = false := fun b o hb => by
    simp only [World.frozen?, World.alloc, Array.getElem?_push, Array.size_push]
    by_cases e1 : b = w.heap.size + 1
    · simp [e1]
    · by_cases e3 : b = w.heap.size
      · simp [e3]
      · simp [e1, e3, show ¬ b < w.heap.size by omega]
  exact { sec := by first | rfl | (rw [show w.heap.size + 1 = (w.alloc (.cells C 70)).heap.size from by simp, World.cell?_alloc_mark]; rfl)
          dead := by first | rfl | (rw [show w.heap.size + 1 = (w.alloc (.cells C 70)).heap.size from by simp, World.cell?_alloc_mark]; rfl)
          fuse := by first | rfl | (rw [show w.heap.size + 1 = (w.alloc (.cells C 70)).heap.size from by simp, World.cell?_alloc_mark]; rfl)
          fz := fun o => hfz _ _ (by omega)
          ne := by omega
          lt := by simp; omega
          secs := made70_sec hcell
          there := fun j hj => by
            refine ⟨?_, hfz _ _ (Nat.le_refl _)⟩
            have h1 := hcell (j / 289) (j % 289) (by omega) (by omega)
            rw [show j / 289 * 289 + j % 289 = j by omega] at h1
            rw [Nat.zero_add, h1, List.getElem?_eq_getElem (by rw [sec3_len M.zero_len M.zero_len]; omega)]
            rfl
          wf := M.fresh_wf n
          n512 := Hn.out }

theorem rmade {W3 : World} {H : Nat} {C : Array Value} (hC : ∀ i j, i < n → j < 289 → C[i * 289 + j]? = (sec3 M.zero M.zero false)[j]?) (hn : n ≤ 512) (hs : W3.heap.size = H) (h1 : W3.cell? ⟨rB, 0, none⟩ = some (.slice (some ⟨H, 0, none⟩) n n))
    (h2 : W3.cell? ⟨rB, 1, none⟩ = some (.bool false)) (h3 : W3.cell? ⟨rB, 2, none⟩ = some (.int .i64 (-1))) (hf : ∀ o, W3.frozen? ⟨rB, o, none⟩ = false) (hlt : rB < H) : RefAt (W3.alloc (.cells C 70)) rB H n M.fresh := by
  subst hs
  have hcell : ∀ i j, i < n → j < 289 → (W3.alloc (.cells C 70)).cell? ⟨W3.heap.size, i * 289 + j, none⟩ = (sec3 M.zero M.zero false)[j]? := fun i j hi hj => by
    rw [World.cell?_alloc_mark]
    exact hC i j hi hj
  exact { sec := by rw [World.cell?_alloc_lt _ _ _ hlt]; exact h1
          dead := by rw [World.cell?_alloc_lt _ _ _ hlt]; exact h2
          fuse := by rw [World.cell?_alloc_lt _ _ _ hlt]; exact h3
          fz := fun o => by rw [World.frozen?_alloc_past _ _ _ hlt]; exact hf o
          ne := by omega
          lt := by simp
          secs := made70_sec hcell
          there := fun j hj => by
            have h9 := hcell (j / 289) (j % 289) (by omega) (by omega)
            rw [show j / 289 * 289 + j % 289 = j by omega] at h9
            exact ⟨by rw [Nat.zero_add, h9, List.getElem?_eq_getElem (by rw [sec3_len M.zero_len M.zero_len]; omega)]; rfl, World.frozen?_alloc_at _ _ _ _ rfl⟩
          wf := M.fresh_wf n
          n512 := hn }

theorem rlose_any (w : World) (h : RefAt w rB LB n d) :
    Calls Try.prog 23 #[.pointer (some ⟨rB, 0, none⟩)] w fun e w' => e = .returned (.tuple #[]) ∧ ∃ LB', RefAt w' rB LB' n M.fresh ∧ But [rB] w w' ∧ w.heap.size ≤ LB' := by
  obtain ⟨C, hm, hC⟩ := make46 w n h.n512
  have HC := Lib.hid hC
  have HR := Lib.hid h
  have h1 := h.sec
  have h2 := h.dead
  have h3 := h.fuse
  have h4 := h.fz 0
  have h5 := h.fz 1
  have h6 := h.fz 2
  have hlt := h.ltR
  clear h hC
  go_enter Try.func23, Try.ntmps23
  go_wp2
  go_end0
  refine ⟨rfl, w.heap.size, ?_, (((((But.refl [rB] w).set _ (.inl (by simp))).set _ (.inl (by simp))).set _ (.inl (by simp))).alloc _), Nat.le_refl _⟩
  refine rmade HC.out HR.out.n512 (by simp [World.setCell]) ?_ ?_ ?_ (fun o => by rw [World.frozen?_setCell, World.frozen?_setCell, World.frozen?_setCell]; exact HR.out.fz o) hlt
  · rw [World.cell?_setCell_other _ _ _ _ (by simp), World.cell?_setCell_other _ _ _ _ (by simp)]
    exact World.cell?_setCell_same _ _ _ h1
  · rw [World.cell?_setCell_other _ _ _ _ (by simp)]
    refine World.cell?_setCell_same (u := .bool d.dead) _ _ _ ?_
    rw [World.cell?_setCell_other _ _ _ _ (by simp)]
    exact h2
  · refine World.cell?_setCell_same (u := .int .i64 (rfuse d.fuse)) _ _ _ ?_
    rw [World.cell?_setCell_other _ _ _ _ (by simp), World.cell?_setCell_other _ _ _ _ (by simp)]
    exact h3
end Go.Proofs.Ytbcblcnnffdjdaa
