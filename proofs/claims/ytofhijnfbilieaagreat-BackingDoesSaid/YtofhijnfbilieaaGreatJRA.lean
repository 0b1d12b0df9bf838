/-
  The document's own store in memory, with its device and its cells; what a put makes of the cells, whatever the device does; the table that is kept beside the cells.
  The document's own store: a block's version and bytes; is a version above another one.
  The document's own store: a message's bytes are stored: where they are refused, and the table that comes of a message.
  The document's own store: a message's bytes are stored, or an elder version's are not.
  The numbers and the text of a cell's record, as the document's own store reads them.
-/
import Derived.Test.YtofhijnfbilieaaGreatJBA
import Derived.Test.YtofhijnfbilieaaGreatJRC
import Derived.Test.YtofhijnfbilieaaGreatJBB
import Derived.Test.YtofhijnfbilieaaGreatJCR
import Derived.StillTailTactics
import Derived.BigRegion
import Derived.Deep.RegionHeld3
import Derived.BigQuiet
import Derived.Deep.RegionHeldLaw
namespace Go.Proofs.YtofhijnfbilieaaGreat.Bk
open Go.RowKit
open Ml (Mg may)
set_option linter.unusedVariables false
set_option linter.unusedSimpArgs false
set_option maxRecDepth 20000

/-! ## plain mathematics -/
def T4.le (x y : T4) : Prop := x.a ≤ y.a ∧ x.b ≤ y.b ∧ x.c ≤ y.c ∧ x.d ≤ y.d
theorem T4.le_refl (x : T4) : x.le x := ⟨by omega, by omega, by omega, by omega⟩
theorem T4.le_trans {x y z : T4} (h : x.le y) (g : y.le z) : x.le z := by
  obtain ⟨h1, h2, h3, h4⟩ := h
  obtain ⟨g1, g2, g3, g4⟩ := g
  exact ⟨by omega, by omega, by omega, by omega⟩
theorem T4.le_up (x y : T4) : x.le (x.up y) ∧ y.le (x.up y) := by
  unfold T4.le T4.up
  simp only
  omega
theorem T4.up_le {x y z : T4} (h : x.le z) (g : y.le z) : (x.up y).le z := by
  obtain ⟨h1, h2, h3, h4⟩ := h
  obtain ⟨g1, g2, g3, g4⟩ := g
  unfold T4.le T4.up
  simp only
  omega
theorem T4.le_bump (x : T4) (cl n : Int) : x.le (x.bump cl n) := by
  unfold T4.bump
  repeat' split
  all_goals (unfold T4.le; (try dsimp only); omega)
theorem T4.le_eq {x y : T4} (h : x.le y) (g : y.le x) : x = y := by
  obtain ⟨a, b, c, d⟩ := x
  obtain ⟨a', b', c', d'⟩ := y
  obtain ⟨h1, h2, h3, h4⟩ := h
  obtain ⟨g1, g2, g3, g4⟩ := g
  simp only at h1 h2 h3 h4 g1 g2 g3 g4
  simp only [T4.mk.injEq]
  omega
theorem rtab_ge (C : Cs) : ∀ {bl k : Nat}, k < bl → (blk C k).t.le (tab C bl)
  | 0, k, h => by omega
  | bl + 1, k, h => by
    unfold tab
    by_cases hk : k = bl
    · subst hk; exact (T4.le_up _ _).2
    · exact T4.le_trans (rtab_ge C (by omega)) (T4.le_up _ _).1
theorem rtab_le {C : Cs} {z : T4} (hz : T4.zero.le z) : ∀ {bl : Nat}, (∀ k, k < bl → (blk C k).t.le z) → (tab C bl).le z
  | 0, _ => hz
  | bl + 1, h => by
    unfold tab
    exact T4.up_le (rtab_le hz fun k hk => h k (by omega)) (h bl (by omega))
/-- a table above every other one, put in one block's place, is the table of all -/
theorem rtab_put {C C' : Cs} {bl k : Nat} {s : Sd} (hk : k < bl) (hs : (tab C bl).le s.t) (h : ∀ j, blk C' j = if j = k then s else blk C j) : tab C' bl = s.t := by
  refine T4.le_eq (rtab_le ?_ fun j hj => ?_) ?_
  · have := tab_ok C bl
    obtain ⟨⟨h1, _⟩, ⟨h2, _⟩, ⟨h3, _⟩, ⟨h4, _⟩⟩ := this
    obtain ⟨g1, g2, g3, g4⟩ := hs
    exact ⟨by simp only [T4.zero]; omega, by simp only [T4.zero]; omega, by simp only [T4.zero]; omega, by simp only [T4.zero]; omega⟩
  · rw [h]
    split
    · exact T4.le_refl _
    · exact T4.le_trans (rtab_ge C hj) hs
  · have := rtab_ge C' hk
    rw [h, if_pos rfl] at this
    exact this
theorem rtab_same {C C' : Cs} (h : ∀ k, blk C' k = blk C k) : ∀ bl, tab C' bl = tab C bl
  | 0 => rfl
  | bl + 1 => by unfold tab; rw [rtab_same h bl, h bl]

/-- what a put makes of the cells' texts -/
theorem putC_ways (n f : Nat) (d : M.Dv) (C : Cs) (k : Nat) (t : ByteArray) (hg : (C k).gen ≤ 4611686018427387904) :
    (putE n f d C k t = 0 ∧ ∀ j, (putC n f d C k t j).text = if j = k then t else (C j).text) ∨ (putE n f d C k t ≠ 0 ∧ putC n f d C k t = C) := by
  unfold putE putC
  rcases M.pu_ways n d (f + 2 * k) (f + 2 * k + 1) (C k) t hg with ⟨h1, h2, _⟩ | ⟨h1, h2⟩
  · refine .inl ⟨h1, fun j => ?_⟩
    rw [h2]
    unfold Cs.set
    split <;> rfl
  · exact .inr ⟨h1, by rw [h2, Cs.set_self]⟩
theorem put_token {n f : Nat} {d : M.Dv} {C : Cs} (hg : (C 0).gen ≤ 4611686018427387904) {ep : Int} (hep : 0 ≤ ep ∧ ep ≤ big) :
    (token (putC n f d C 0 (tokT ep)) = if putE n f d C 0 (tokT ep) = 0 then ep else token C) ∧ ∀ j, blk (putC n f d C 0 (tokT ep)) j = blk C j := by
  rcases putC_ways n f d C 0 (tokT ep) hg with ⟨h1, h2⟩ | ⟨h1, h2⟩
  · refine ⟨?_, fun j => ?_⟩
    · rw [if_pos h1]; unfold token; rw [h2, if_pos rfl, tok_tokT hep]
    · unfold blk; rw [h2, if_neg (by omega)]
  · refine ⟨?_, fun j => by rw [h2]⟩
    rw [if_neg h1, h2]
theorem put_blk {n f : Nat} {d : M.Dv} {C : Cs} {k : Nat} (hg : (C (k + 1)).gen ≤ 4611686018427387904) {s : Sd} (hs : s.Ok) :
    (token (putC n f d C (k + 1) (stT s)) = token C) ∧ ∀ j, blk (putC n f d C (k + 1) (stT s)) j = if putE n f d C (k + 1) (stT s) = 0 ∧ j = k then s else blk C j := by
  rcases putC_ways n f d C (k + 1) (stT s) hg with ⟨h1, h2⟩ | ⟨h1, h2⟩
  · refine ⟨?_, fun j => ?_⟩
    · unfold token; rw [h2, if_neg (by omega)]
    · unfold blk
      rw [h2]
      by_cases hj : j = k
      · rw [if_pos (by omega), if_pos ⟨h1, hj⟩, st_stT hs]
      · rw [if_neg (by omega), if_neg (fun h => hj h.2)]
  · refine ⟨by rw [h2], fun j => ?_⟩
    rw [h2, if_neg (fun h => h1 h.1)]

/-! ## in memory -/
/-- the store's own block, and the row of its blocks -/
structure RStAt (w : World) (tR bB cap bl : Nat) (K : Nat → Nat) (tk : Int) (T : T4) (B : Nat → Sd) : Prop where
  p0 : w.cell? ⟨tR, 0, none⟩ = some (.pointer (some ⟨K 0, 0, none⟩))
  p1 : w.cell? ⟨tR, 1, none⟩ = some (.int .i64 tk)
  p2 : w.cell? ⟨tR, 2, none⟩ = some (.slice (some ⟨bB, 0, none⟩) bl cap)
  p3 : w.cell? ⟨tR, 3, none⟩ = some (.int .i64 T.a)
  p4 : w.cell? ⟨tR, 4, none⟩ = some (.int .i64 T.b)
  p5 : w.cell? ⟨tR, 5, none⟩ = some (.int .i64 T.c)
  p6 : w.cell? ⟨tR, 6, none⟩ = some (.int .i64 T.d)
  qb : ∀ i, i < bl → w.cell? ⟨bB, i * 4, none⟩ = some (.pointer (some ⟨K (i + 1), 0, none⟩)) ∧ w.cell? ⟨bB, i * 4 + 1, none⟩ = some (.int .i64 (B i).ep) ∧ w.cell? ⟨bB, i * 4 + 2, none⟩ = some (.int .i64 (B i).sq) ∧ w.cell? ⟨bB, i * 4 + 3, none⟩ = some (.string (B i).data)
  fz : ∀ o, w.frozen? ⟨tR, o, none⟩ = false
  fb : ∀ o, w.frozen? ⟨bB, o, none⟩ = false
  ne : tR ≠ bB
  bl1 : 1 ≤ bl ∧ bl ≤ 32
  cp : bl ≤ cap ∧ cap ≤ maxLen

section
variable {w w' : World} {tR bB cap bl : Nat} {K : Nat → Nat} {tk : Int} {T : T4} {B : Nat → Sd}
theorem RStAt.lt (h : RStAt w tR bB cap bl K tk T B) : tR < w.heap.size := World.block_lt_of_cell? w _ h.p0
theorem RStAt.ltB (h : RStAt w tR bB cap bl K tk T B) : bB < w.heap.size := World.block_lt_of_cell? w _ (h.qb 0 (by have := h.bl1; omega)).1
theorem RStAt.of_blocks (h : RStAt w tR bB cap bl K tk T B) (h1 : w'.heap[tR]? = w.heap[tR]?) (h2 : w'.heap[bB]? = w.heap[bB]?) : RStAt w' tR bB cap bl K tk T B where
  p0 := by rw [World.cell?_of_block (w := w) (a := ⟨tR, 0, none⟩) h1]; exact h.p0
  p1 := by rw [World.cell?_of_block (w := w) (a := ⟨tR, 1, none⟩) h1]; exact h.p1
  p2 := by rw [World.cell?_of_block (w := w) (a := ⟨tR, 2, none⟩) h1]; exact h.p2
  p3 := by rw [World.cell?_of_block (w := w) (a := ⟨tR, 3, none⟩) h1]; exact h.p3
  p4 := by rw [World.cell?_of_block (w := w) (a := ⟨tR, 4, none⟩) h1]; exact h.p4
  p5 := by rw [World.cell?_of_block (w := w) (a := ⟨tR, 5, none⟩) h1]; exact h.p5
  p6 := by rw [World.cell?_of_block (w := w) (a := ⟨tR, 6, none⟩) h1]; exact h.p6
  qb := fun i hi => by
    rw [World.cell?_of_block (w := w) (a := ⟨bB, i * 4, none⟩) h2, World.cell?_of_block (w := w) (a := ⟨bB, i * 4 + 1, none⟩) h2, World.cell?_of_block (w := w) (a := ⟨bB, i * 4 + 2, none⟩) h2, World.cell?_of_block (w := w) (a := ⟨bB, i * 4 + 3, none⟩) h2]
    exact h.qb i hi
  fz := fun o => by rw [World.frozen?_of_block (w := w) (a := ⟨tR, o, none⟩) h1]; exact h.fz o
  fb := fun o => by rw [World.frozen?_of_block (w := w) (a := ⟨bB, o, none⟩) h2]; exact h.fb o
  ne := h.ne
  bl1 := h.bl1
  cp := h.cp
theorem RStAt.but (h : RStAt w tR bB cap bl K tk T B) {l : List Nat} (hb : But l w w') (h1 : tR ∉ l) (h2 : bB ∉ l) : RStAt w' tR bB cap bl K tk T B := h.of_blocks (hb.block _ h.lt h1) (hb.block _ h.ltB h2)
theorem RStAt.below {m : Nat} (h : RStAt w tR bB cap bl K tk T B) (hb : Below m w w') (h1 : tR < m) (h2 : bB < m) : RStAt w' tR bB cap bl K tk T B := h.of_blocks (hb.block _ h1) (hb.block _ h2)
/-- another token -/
theorem RStAt.setTk (h : RStAt w tR bB cap bl K tk T B) (x : Int) : RStAt (w.setCell ⟨tR, 1, none⟩ (.int .i64 x)) tR bB cap bl K x T B where
  p0 := by rw [World.cell?_setCell_other _ _ _ _ (by simp)]; exact h.p0
  p1 := World.cell?_setCell_same _ _ _ h.p1
  p2 := by rw [World.cell?_setCell_other _ _ _ _ (by simp)]; exact h.p2
  p3 := by rw [World.cell?_setCell_other _ _ _ _ (by simp)]; exact h.p3
  p4 := by rw [World.cell?_setCell_other _ _ _ _ (by simp)]; exact h.p4
  p5 := by rw [World.cell?_setCell_other _ _ _ _ (by simp)]; exact h.p5
  p6 := by rw [World.cell?_setCell_other _ _ _ _ (by simp)]; exact h.p6
  qb := fun i hi => by
    have hn := h.ne
    rw [World.cell?_setCell_other _ _ _ _ (by simp [Ne.symm hn]), World.cell?_setCell_other _ _ _ _ (by simp [Ne.symm hn]), World.cell?_setCell_other _ _ _ _ (by simp [Ne.symm hn]), World.cell?_setCell_other _ _ _ _ (by simp [Ne.symm hn])]
    exact h.qb i hi
  fz := fun o => by rw [World.frozen?_setCell]; exact h.fz o
  fb := fun o => by rw [World.frozen?_setCell]; exact h.fb o
  ne := h.ne
  bl1 := h.bl1
  cp := h.cp
end

/-- the document's own device and the store's cells on it -/
structure RC (w : World) (rB LB n : Nat) (d : M.Dv) (bl f : Nat) (K : Nat → Nat) (C : Cs) : Prop where
  rf : RefAt w rB LB n d
  cel : ∀ k, k ≤ bl → ∃ z, ZO z (C k).o ∧ RCell w (K k) rB (f + 2 * k) (f + 2 * k + 1) z (C k)
  kd : ∀ k, k ≤ bl → K k ≠ rB ∧ K k ≠ LB
  ka : ∀ j k, j ≤ bl → k ≤ bl → j ≠ k → K j ≠ K k
  o1 : ∀ k, k ≤ bl → (C k).o ≤ 1
  gn : ∀ k, k ≤ bl → 0 ≤ (C k).gen ∧ (C k).gen ≤ 4611686018427387904
  tx : ∀ k, k ≤ bl → (C k).text.size ≤ 100
  bl1 : 1 ≤ bl ∧ bl ≤ 32
  fit : f + 2 * (1 + bl) ≤ n

/-- the blocks of the document's own store -/
def theirs (rB LB tR bB bl : Nat) (K : Nat → Nat) : List Nat := rB :: LB :: tR :: bB :: (List.range (bl + 1)).map K
theorem mem_theirs {rB LB tR bB bl : Nat} {K : Nat → Nat} {x : Nat} : x ∈ theirs rB LB tR bB bl K ↔ x = rB ∨ x = LB ∨ x = tR ∨ x = bB ∨ ∃ k, k ≤ bl ∧ x = K k := by
  simp only [theirs, List.mem_cons, List.mem_map, List.mem_range]
  constructor
  · rintro (h | h | h | h | ⟨k, hk, rfl⟩)
    · exact .inl h
    · exact .inr (.inl h)
    · exact .inr (.inr (.inl h))
    · exact .inr (.inr (.inr (.inl h)))
    · exact .inr (.inr (.inr (.inr ⟨k, by omega, rfl⟩)))
  · rintro (h | h | h | h | ⟨k, hk, rfl⟩)
    · exact .inl h
    · exact .inr (.inl h)
    · exact .inr (.inr (.inl h))
    · exact .inr (.inr (.inr (.inl h)))
    · exact .inr (.inr (.inr (.inr ⟨k, by omega, rfl⟩)))

/-- the document's own store, its device and its cells, in memory -/
structure RT (w : World) (rB LB n : Nat) (d : M.Dv) (tR bB cap bl f : Nat) (K : Nat → Nat) (C : Cs) : Prop where
  rc : RC w rB LB n d bl f K C
  at_ : RStAt w tR bB cap bl K (token C) (tab C bl) (blk C)
  td : tR ≠ rB ∧ tR ≠ LB ∧ bB ≠ rB ∧ bB ≠ LB
  tk : ∀ k, k ≤ bl → K k ≠ tR ∧ K k ≠ bB

section
variable {rB LB n : Nat} {d d' : M.Dv} {bl f : Nat} {K : Nat → Nat} {C : Cs} {w w' : World} {tR bB cap : Nat}
theorem RC.klt (h : RC w rB LB n d bl f K C) {k : Nat} (hk : k ≤ bl) : K k < w.heap.size := by
  obtain ⟨z, _, hc⟩ := h.cel k hk
  exact hc.lt
theorem RC.but (h : RC w rB LB n d bl f K C) {l : List Nat} (hb : But l w w') (h1 : rB ∉ l) (h2 : LB ∉ l) (h3 : ∀ k, k ≤ bl → K k ∉ l) : RC w' rB LB n d bl f K C :=
  ⟨h.rf.but hb h1 h2, fun k hk => by obtain ⟨z, hz, hc⟩ := h.cel k hk; exact ⟨z, hz, hc.but hb (h3 k hk)⟩, h.kd, h.ka, h.o1, h.gn, h.tx, h.bl1, h.fit⟩
theorem RC.below (h : RC w rB LB n d bl f K C) (hb : Below w.heap.size w w') : RC w' rB LB n d bl f K C := h.but (But.of_below hb) (by simp) (by simp) (by simp)
theorem RC.dev (h : RC w rB LB n d bl f K C) (hd : RefAt w' rB LB n d') {l : List Nat} (hb : But l w w') (hl : ∀ y ∈ l, y = rB ∨ y = LB) : RC w' rB LB n d' bl f K C :=
  ⟨hd, fun k hk => by obtain ⟨z, hz, hc⟩ := h.cel k hk; exact ⟨z, hz, hc.but hb (fun hm => by have := hl _ hm; have := h.kd k hk; omega)⟩, h.kd, h.ka, h.o1, h.gn, h.tx, h.bl1, h.fit⟩
theorem RT.but (h : RT w rB LB n d tR bB cap bl f K C) {l : List Nat} (hb : But l w w') (hn : ∀ x ∈ l, x ∉ theirs rB LB tR bB bl K) : RT w' rB LB n d tR bB cap bl f K C :=
  ⟨h.rc.but hb (fun hx => hn _ hx (mem_theirs.2 (.inl rfl))) (fun hx => hn _ hx (mem_theirs.2 (.inr (.inl rfl)))) (fun k hk hx => hn _ hx (mem_theirs.2 (.inr (.inr (.inr (.inr ⟨k, hk, rfl⟩)))))),
    h.at_.but hb (fun hx => hn _ hx (mem_theirs.2 (.inr (.inr (.inl rfl))))) (fun hx => hn _ hx (mem_theirs.2 (.inr (.inr (.inr (.inl rfl)))))), h.td, h.tk⟩
theorem RT.below (h : RT w rB LB n d tR bB cap bl f K C) (hb : Below w.heap.size w w') : RT w' rB LB n d tR bB cap bl f K C := h.but (But.of_below hb) (by simp)
theorem RT.lts (h : RT w rB LB n d tR bB cap bl f K C) : ∀ x ∈ theirs rB LB tR bB bl K, x < w.heap.size := fun x hx => by
  rcases mem_theirs.1 hx with rfl | rfl | rfl | rfl | ⟨k, hk, rfl⟩
  · exact h.rc.rf.ltR
  · exact h.rc.rf.lt
  · exact h.at_.lt
  · exact h.at_.ltB
  · exact h.rc.klt hk
/-- the device alone does something -/
theorem RT.dev (h : RT w rB LB n d tR bB cap bl f K C) (hd : RefAt w' rB LB n d') {l : List Nat} (hb : But l w w') (hl : ∀ y ∈ l, y = rB ∨ y = LB) : RT w' rB LB n d' tR bB cap bl f K C :=
  ⟨h.rc.dev hd hb hl, h.at_.but hb (fun hm => by have := hl _ hm; have := h.td; omega) (fun hm => by have := hl _ hm; have := h.td; omega), h.td, h.tk⟩

/-- a put to one of its cells -/
theorem rput_rc (w : World) (h : RC w rB LB n d bl f K C) (k : Nat) (hk : k ≤ bl) (t : ByteArray) (ht : t.size ≤ 100) :
    Calls Tryz.prog 36 #[.pointer (some ⟨K k, 0, none⟩), .string t] w fun e w' => e = .returned (.int .i64 (putE n f d C k t)) ∧ RC w' rB LB n (putD n f d C k t) bl f K (putC n f d C k t) ∧ But [rB, LB, K k] w w' := by
  have hn := h.rf.n512
  have hf := h.fit
  obtain ⟨z, hz, hc⟩ := h.cel k hk
  refine (rput_all w h.rf (K k) (f + 2 * k) (f + 2 * k + 1) z (C k) hc hz (h.kd k hk) (h.gn k hk) ⟨by omega, by omega⟩ t ht).mono ?_
  rintro e w' ⟨rfl, hd, ⟨z', hz', hc'⟩, hb⟩
  obtain ⟨g1, g2, g3⟩ := putC_ok (n := n) (f := f) (d := d) h.o1 h.gn h.tx k hk ht
  refine ⟨rfl, ⟨hd, fun j hj => ?_, h.kd, h.ka, g1, g2, g3, h.bl1, h.fit⟩, hb⟩
  by_cases hjk : j = k
  · subst hjk
    unfold putC
    rw [Cs.set_same]
    exact ⟨z', hz', hc'⟩
  · obtain ⟨y, hy, hcy⟩ := h.cel j hj
    unfold putC
    rw [Cs.set_other _ _ hjk]
    have := h.kd j hj
    have := h.ka j k hj hk hjk
    exact ⟨y, hy, hcy.but hb (by simp; omega)⟩
end
end Go.Proofs.YtofhijnfbilieaaGreat.Bk
namespace Go.Proofs.YtofhijnfbilieaaGreat.Bk
open Go.RowKit
open Ml (Mg may msgV)
set_option linter.unusedVariables false
set_option linter.unusedSimpArgs false
set_option maxRecDepth 20000

theorem rabove_any (w : World) (a b c e : Int) :
    Calls Tryz.prog 64 #[.agg #[.int .i64 a, .int .i64 b], .agg #[.int .i64 c, .int .i64 e]] w fun e' w' => e' = .returned (.bool (above a b c e)) ∧ Below w.heap.size w w' := by
  have HB := Lib.hid (((Below.refl w.heap.size w).alloc (Nat.le_refl _) (.cells #[.int .i64 a, .int .i64 b] 52)).alloc (by simp) (.cells #[.int .i64 c, .int .i64 e] 52))
  by_cases h1 : c < a
  · have e0 : above a b c e = true := by unfold above; rw [decide_eq_true (show a > c from h1), Bool.true_or]
    have h3 : (a != c) = true := by rw [bne_iff_ne]; omega
    rw [e0]
    go_enter Tryz.func64, Tryz.ntmps64
    go_wp2
    go_ret
    exact ⟨rfl, HB.out⟩
  · by_cases h2 : a = c
    · subst h2
      have e0 : above a b a e = decide (e < b) := by unfold above; simp
      rw [e0]
      go_enter Tryz.func64, Tryz.ntmps64
      go_wp2
      go_ret
      exact ⟨rfl, HB.out⟩
    · have e0 : above a b c e = false := by unfold above; rw [decide_eq_false (show ¬ a > c from h1), decide_eq_false h2]; rfl
      have h3 : (a != c) = true := by rw [bne_iff_ne]; exact h2
      rw [e0]
      go_enter Tryz.func64, Tryz.ntmps64
      go_wp2
      go_ret
      exact ⟨rfl, HB.out⟩

section
variable {tR bB cap bl : Nat} {K : Nat → Nat} {tk : Int} {T : T4} {B : Nat → Sd}

set_option maxHeartbeats 2000000 in
theorem rget_no (w : World) (h : RStAt w tR bB cap bl K tk T B) (i : Int) (hi : isB bl i = false) :
    Calls Tryz.prog 20 #[.pointer (some ⟨tR, 0, none⟩), .int .i64 i] w fun e w' => e = .returned (.tuple #[verV 0 0, .string ⟨#[]⟩]) ∧ Below w.heap.size w w' := by
  have HB := Lib.hid (bx2 (Below.refl (w.alloc (.cells #[.int .i64 0, .int .i64 0] 52)).heap.size (w.alloc (.cells #[.int .i64 0, .int .i64 0] 52))))
  have p2 := (h.below ((Below.refl w.heap.size w).alloc (Nat.le_refl _) (.cells #[.int .i64 0, .int .i64 0] 52)) h.lt h.ltB).p2
  have z0 := HB.out.1.cell 0
  have z1 := HB.out.1.cell 1
  have zf := HB.out.1.fz
  have hc : i < 0 ∨ (¬ i < 0 ∧ (bl : Int) ≤ i) := by
    unfold isB at hi
    by_cases h0 : i < 0
    · exact .inl h0
    · rw [decide_eq_true (by omega), Bool.true_and, decide_eq_false_iff_not] at hi
      exact .inr ⟨h0, by omega⟩
  clear h hi
  rcases hc with h1 | ⟨h1, h2⟩
  all_goals
    go_enter Tryz.func20, Tryz.ntmps20
    go_wp2
    refine bodyPost_ret (v := .tuple #[verV 0 0, .string ⟨#[]⟩]) (by simp [results, Tryz.results20, go_sem, verV, z0, z1]) rfl ⟨rfl, ?_⟩
    exact HB.out.2.1

set_option maxHeartbeats 2000000 in
theorem rget_yes (w : World) (h : RStAt w tR bB cap bl K tk T B) (k : Nat) (hk : k < bl) :
    Calls Tryz.prog 20 #[.pointer (some ⟨tR, 0, none⟩), .int .i64 (k : Int)] w fun e w' => e = .returned (.tuple #[verV (B k).ep (B k).sq, .string (B k).data]) ∧ Below w.heap.size w w' := by
  have hbx := (Below.refl w.heap.size w).alloc (Nat.le_refl _) (.cells #[.int .i64 0, .int .i64 0] 52)
  have h' := h.below hbx h.lt h.ltB
  have p2 := h'.p2
  obtain ⟨q0, q1, q2, q3⟩ := h'.qb k hk
  have hbl := h.bl1
  have h0 : (0 : Int) ≤ (k : Int) := by omega
  have h00 : ¬ (k : Int) < 0 := by omega
  have h1 : (k : Int) < (bl : Int) := by omega
  have h2 : ¬ (bl : Int) ≤ (k : Int) := by omega
  have HN := Lib.hid (Bo.new w #[.int .i64 0, .int .i64 0] 52)
  have HB := Lib.hid hbx
  have HL : Hid (tR < w.heap.size ∧ bB < w.heap.size ∧ tR < (w.alloc (.cells #[.int .i64 0, .int .i64 0] 52)).heap.size ∧ bB < (w.alloc (.cells #[.int .i64 0, .int .i64 0] 52)).heap.size) := Lib.hid ⟨h.lt, h.ltB, h'.lt, h'.ltB⟩
  generalize B k = s at *
  obtain ⟨ep, sq, dt, tt⟩ := s
  simp only at q1 q2 q3 ⊢
  have q2' : (w.alloc (.cells #[.int .i64 0, .int .i64 0] 52)).cell? ⟨bB, k * 4 + 1 + 1, none⟩ = some (.int .i64 sq) := q2
  clear h h' hbx hbl
  go_enter Tryz.func20, Tryz.ntmps20
  go_upto_region 3 with fail
  generalize w.alloc (.cells #[.int .i64 0, .int .i64 0] 52) = W at *
  have HW : Hid (∀ w', But [w.heap.size] W w' → w'.cell? ⟨tR, 2, none⟩ = some (.slice (some ⟨bB, 0, none⟩) bl cap) ∧ w'.cell? ⟨bB, k * 4 + 1, none⟩ = some (.int .i64 ep) ∧ w'.cell? ⟨bB, k * 4 + 1 + 1, none⟩ = some (.int .i64 sq) ∧ w'.cell? ⟨bB, k * 4 + 3, none⟩ = some (.string dt)) := Lib.hid fun w' hb =>
    ⟨(hb.cell (b := tR) (o := 2) HL.out.2.2.1 (by have := HL.out.1; simp; omega)).trans p2, (hb.cell (b := bB) (o := k * 4 + 1) HL.out.2.2.2 (by have := HL.out.2.1; simp; omega)).trans q1, (hb.cell (b := bB) (o := k * 4 + 1 + 1) HL.out.2.2.2 (by have := HL.out.2.1; simp; omega)).trans q2', (hb.cell (b := bB) (o := k * 4 + 3) HL.out.2.2.2 (by have := HL.out.2.1; simp; omega)).trans q3⟩
  have z0 := HN.out.cell 0
  have z1 := HN.out.cell 1
  have zf := HN.out.fz
  go_region_held3 (fun w' => w'.cell? ⟨tR, 2, none⟩ = some (.slice (some ⟨bB, 0, none⟩) bl cap) ∧ w'.cell? ⟨bB, k * 4 + 1, none⟩ = some (.int .i64 ep) ∧ w'.cell? ⟨bB, k * 4 + 1 + 1, none⟩ = some (.int .i64 sq) ∧ w'.cell? ⟨bB, k * 4 + 3, none⟩ = some (.string dt))
    (first
      | exact HW.out _ (But.refl _ _)
      | exact HW.out _ (But.refl _ _).drew
      | exact HW.out _ (((But.refl _ W).drew.set _ (.inl (by simp))).set _ (.inl (by simp))))
    (fail)
  all_goals
    go_wp2
    refine bodyPost_ret (v := .tuple #[verV ep sq, .string dt]) (by simp [results, Tryz.results20, go_sem, verV, z0, z1]) rfl ⟨rfl, ?_⟩
    first
      | exact ((HB.out.drew).setCell (by simp) _).setCell (by simp) _
      | exact ((HB.out).setCell (by simp) _).setCell (by simp) _
end

theorem rget_any (w : World) {rB LB n : Nat} {d : M.Dv} {tR bB cap bl f : Nat} {K : Nat → Nat} {C : Cs} (h : RT w rB LB n d tR bB cap bl f K C) (i : Int) :
    Calls Tryz.prog 20 #[.pointer (some ⟨tR, 0, none⟩), .int .i64 i] w fun e w' => e = .returned (.tuple #[verV (getV bl C i).1 (getV bl C i).2.1, .string (getV bl C i).2.2]) ∧ Below w.heap.size w w' := by
  cases hi : isB bl i with
  | false =>
    have e : getV bl C i = (0, 0, ⟨#[]⟩) := by unfold getV; rw [hi]; rfl
    rw [e]
    exact rget_no w h.at_ i hi
  | true =>
    have hi' := hi
    unfold isB at hi'
    simp at hi'
    obtain ⟨k, rfl⟩ := Int.eq_ofNat_of_zero_le hi'.1
    have hk : k < bl := by omega
    have e : getV bl C (k : Int) = ((blk C k).ep, (blk C k).sq, (blk C k).data) := by unfold getV; rw [hi]; simp
    rw [e]
    exact rget_yes w h.at_ k hk
end Go.Proofs.YtofhijnfbilieaaGreat.Bk
namespace Go.Proofs.YtofhijnfbilieaaGreat.Bk
open Go.RowKit
open Ml (Mg may msgV)
set_option linter.unusedVariables false
set_option linter.unusedSimpArgs false
set_option maxRecDepth 20000

theorem rdrewN_below (B : Nat) (w : World) (n : Nat) : Below B w (w.drewN n) := C.below_drewN B w n

/-! ## a table by its places -/
def T4.at (x : T4) (k : Nat) : Int := if k = 0 then x.a else if k = 1 then x.b else if k = 2 then x.c else x.d
def T4.put (x : T4) (k : Nat) (v : Int) : T4 := if k = 0 then { x with a := v } else if k = 1 then { x with b := v } else if k = 2 then { x with c := v } else { x with d := v }
theorem k4 {k : Nat} (h : k < 4) : k = 0 ∨ k = 1 ∨ k = 2 ∨ k = 3 := by omega
theorem T4.at_put (x : T4) {k j : Nat} (hk : k < 4) (hj : j < 4) (v : Int) : (x.put k v).at j = if j = k then v else x.at j := by
  rcases k4 hk with rfl | rfl | rfl | rfl <;> rcases k4 hj with rfl | rfl | rfl | rfl <;> rfl
theorem T4.ext_at {x y : T4} (h : ∀ k, k < 4 → x.at k = y.at k) : x = y := by
  obtain ⟨a, b, c, d⟩ := x
  obtain ⟨a', b', c', d'⟩ := y
  have h0 : a = a' := h 0 (by omega)
  have h1 : b = b' := h 1 (by omega)
  have h2 : c = c' := h 2 (by omega)
  have h3 : d = d' := h 3 (by omega)
  rw [h0, h1, h2, h3]
theorem T4.at_up (x y : T4) {k : Nat} (hk : k < 4) : (x.up y).at k = max (x.at k) (y.at k) := by
  rcases k4 hk with rfl | rfl | rfl | rfl <;> rfl
theorem T4.at_bump (x : T4) (c n : Int) {k : Nat} (hk : k < 4) : (x.bump c n).at k = if c = (k : Int) then max (x.at k) n else x.at k := by
  unfold T4.bump
  rcases k4 hk with rfl | rfl | rfl | rfl
  all_goals
    repeat' split
    all_goals first
      | rfl
      | omega
/-- what one round makes of the table -/
def upS (m : Mg) (x : T4) (k : Nat) : T4 :=
  let y := if x.at k < (Mg.t4 m).at k then x.put k ((Mg.t4 m).at k) else x
  if m.client = (k : Int) ∧ y.at k < m.n then y.put k m.n else y
def upT (m : Mg) (x : T4) : Nat → T4
  | 0 => x
  | k + 1 => upS m (upT m x k) k
theorem upS_at (m : Mg) (x : T4) {k j : Nat} (hk : k < 4) (hj : j < 4) : (upS m x k).at j = if j = k then (if m.client = (k : Int) then max (max (x.at k) ((Mg.t4 m).at k)) m.n else max (x.at k) ((Mg.t4 m).at k)) else x.at j := by
  have key : ∀ y : T4, (y = if x.at k < (Mg.t4 m).at k then x.put k ((Mg.t4 m).at k) else x) → y.at j = if j = k then max (x.at k) ((Mg.t4 m).at k) else x.at j := fun y hy => by
    rw [hy]
    by_cases h1 : x.at k < (Mg.t4 m).at k
    · rw [if_pos h1, T4.at_put x hk hj]
      split
      · omega
      · rfl
    · rw [if_neg h1]
      by_cases h2 : j = k
      · rw [if_pos h2, h2]; omega
      · rw [if_neg h2]
  have keyk : ∀ y : T4, (y = if x.at k < (Mg.t4 m).at k then x.put k ((Mg.t4 m).at k) else x) → y.at k = max (x.at k) ((Mg.t4 m).at k) := fun y hy => by
    rw [hy]
    by_cases h1 : x.at k < (Mg.t4 m).at k
    · rw [if_pos h1, T4.at_put x hk hk, if_pos rfl]; omega
    · rw [if_neg h1]; omega
  obtain ⟨y, hy⟩ : ∃ y : T4, y = if x.at k < (Mg.t4 m).at k then x.put k ((Mg.t4 m).at k) else x := ⟨_, rfl⟩
  have e : upS m x k = if m.client = (k : Int) ∧ y.at k < m.n then y.put k m.n else y := by rw [hy]; rfl
  have h1 := key y hy
  have h2 := keyk y hy
  rw [e]
  by_cases hc : m.client = (k : Int)
  · by_cases hn : y.at k < m.n
    · rw [if_pos ⟨hc, hn⟩, T4.at_put y hk hj, h1, if_pos hc]
      by_cases hjk : j = k
      · rw [if_pos hjk, if_pos hjk]; omega
      · rw [if_neg hjk, if_neg hjk, if_neg hjk]
    · rw [if_neg (fun h => hn h.2), h1, if_pos hc]
      by_cases hjk : j = k
      · rw [if_pos hjk, if_pos hjk]; omega
      · rw [if_neg hjk, if_neg hjk]
  · rw [if_neg (fun h => hc h.1), h1, if_neg hc]
theorem upT_at (m : Mg) (x : T4) {j : Nat} (hj : j < 4) : ∀ k, k ≤ 4 → (upT m x k).at j = if j < k then (if m.client = (j : Int) then max (max (x.at j) ((Mg.t4 m).at j)) m.n else max (x.at j) ((Mg.t4 m).at j)) else x.at j
  | 0, _ => by rw [if_neg (by omega)]; rfl
  | k + 1, hk => by
    show (upS m (upT m x k) k).at j = _
    rw [upS_at m _ (by omega) hj]
    by_cases h1 : j = k
    · subst h1
      rw [if_pos rfl, if_pos (Nat.lt_succ_self _), upT_at m x hj j (by omega), if_neg (Nat.lt_irrefl _)]
    · rw [if_neg h1, upT_at m x hj k (by omega)]
      by_cases h2 : j < k
      · have h3 : j < k + 1 := by omega
        simp only [h2, h3, if_true]
      · have h3 : ¬ j < k + 1 := by omega
        simp only [h2, h3, if_false]
theorem upT_all (m : Mg) (x : T4) : upT m x 4 = (x.up (Mg.t4 m)).bump m.client m.n := T4.ext_at fun k hk => by
  rw [upT_at m x hk 4 (Nat.le_refl _), if_pos hk, T4.at_bump _ _ _ hk, T4.at_up _ _ hk]

theorem N4.at {w : World} {g o : Nat} {x : T4} (h : N4 w g o x) {k : Nat} (hk : k < 4) : w.cell? ⟨g, o + k, none⟩ = some (.int .i64 (x.at k)) := by
  rcases k4 hk with rfl | rfl | rfl | rfl
  · exact h.c0
  · exact h.c1
  · exact h.c2
  · exact h.c3
theorem N4.putAt {w : World} {g o : Nat} {x : T4} (h : N4 w g o x) {k : Nat} (hk : k < 4) (v : Int) : N4 (w.setCell ⟨g, o + k, none⟩ (.int .i64 v)) g o (x.put k v) := by
  rcases k4 hk with rfl | rfl | rfl | rfl
  · exact h.set0 v
  · exact h.set1 v
  · exact h.set2 v
  · exact h.set3 v
theorem msg_t4 (m : Mg) {k : Nat} (hk : k < 4) : m.cells[7 + k]? = some (.int .i64 ((Mg.t4 m).at k)) := by
  rcases k4 hk with rfl | rfl | rfl | rfl <;> rfl

/-! ## where nothing is stored -/
section
variable {rB LB n : Nat} {d : M.Dv} {tR bB cap bl f : Nat} {K : Nat → Nat} {C : Cs}

set_option maxHeartbeats 2000000 in
theorem rsto_range (w : World) (h : RT w rB LB n d tR bB cap bl f K C) (m : Mg) (hb : isB bl m.block = false) :
    Calls Tryz.prog 37 #[.pointer (some ⟨tR, 0, none⟩), msgV m] w fun e w' => e = .returned (.int .i64 2) ∧ Below w.heap.size w w' := by
  have HB := Lib.hid ((Below.refl w.heap.size w).alloc (Nat.le_refl _) (.cells m.cells 37))
  have HM := Lib.hid (Bo.new w m.cells 37)
  have p2 := (h.below HB.out).at_.p2
  have m4 := HM.out.cell 4
  have hc : m.block < 0 ∨ (¬ m.block < 0 ∧ (bl : Int) ≤ m.block) := by
    unfold isB at hb
    by_cases h0 : m.block < 0
    · exact .inl h0
    · rw [decide_eq_true (by omega), Bool.true_and, decide_eq_false_iff_not] at hb
      exact .inr ⟨h0, by omega⟩
  obtain ⟨kind, epoch, seq, nn, block, client, e, t0, t1, t2, t3, data, row⟩ := m
  simp only [msgV, Ml.Mg.cells, List.getElem?_toArray, List.getElem?_cons_zero, List.getElem?_cons_succ] at HB HM hc p2 m4 ⊢
  clear h hb
  rcases hc with h1 | ⟨h1, h2⟩
  · have d1 : decide (block < 0) = true := decide_eq_true h1
    go_enter Tryz.func37, Tryz.ntmps37
    go_upto_region 1 with fail
    go_quiet (fail)
    go_wp2
    go_ret
    exact ⟨rfl, HB.out.trans (rdrewN_below _ _ _)⟩
  · have d1 : decide (block < 0) = false := decide_eq_false h1
    have d2 : decide ((bl : Int) ≤ block) = true := decide_eq_true h2
    go_enter Tryz.func37, Tryz.ntmps37
    go_upto_region 1 with fail
    go_quiet (fail)
    go_wp2
    go_ret
    exact ⟨rfl, HB.out.trans (rdrewN_below _ _ _)⟩

set_option maxHeartbeats 2000000 in
theorem rsto_size (w : World) (h : RT w rB LB n d tR bB cap bl f K C) (m : Mg) (hb : isB bl m.block = true) (h8 : m.data.size ≠ 8) :
    Calls Tryz.prog 37 #[.pointer (some ⟨tR, 0, none⟩), msgV m] w fun e w' => e = .returned (.int .i64 3) ∧ Below w.heap.size w w' := by
  have HB := Lib.hid ((Below.refl w.heap.size w).alloc (Nat.le_refl _) (.cells m.cells 37))
  have HM := Lib.hid (Bo.new w m.cells 37)
  have p2 := (h.below HB.out).at_.p2
  have m4 := HM.out.cell 4
  have hc : ¬ m.block < 0 ∧ ¬ (bl : Int) ≤ m.block := by
    unfold isB at hb
    simp at hb
    omega
  obtain ⟨kind, epoch, seq, nn, block, client, e, t0, t1, t2, t3, data, row⟩ := m
  simp only [msgV, Ml.Mg.cells, List.getElem?_toArray, List.getElem?_cons_zero, List.getElem?_cons_succ] at HB HM hc p2 m4 h8 ⊢
  have h8' : ((data.size : Int) != 8) = true := by rw [bne_iff_ne]; omega
  clear h hb h8
  have d1 : decide (block < 0) = false := decide_eq_false hc.1
  have d2 : decide ((bl : Int) ≤ block) = false := decide_eq_false hc.2
  go_enter Tryz.func37, Tryz.ntmps37
  go_upto_region 1 with fail
  go_quiet (fail)
  have HM2 := Lib.hid (HM.out.below (rdrewN_below _ (w.alloc (.cells #[.int .i64 kind, .int .i64 epoch, .int .i64 seq, .int .i64 nn, .int .i64 block, .int .i64 client, .int .i64 e, .int .i64 t0, .int .i64 t1, .int .i64 t2, .int .i64 t3, .string data, .string row] 37)) nq) HM.out.lt)
  have HB2 := Lib.hid (HB.out.trans (rdrewN_below _ (w.alloc (.cells #[.int .i64 kind, .int .i64 epoch, .int .i64 seq, .int .i64 nn, .int .i64 block, .int .i64 client, .int .i64 e, .int .i64 t0, .int .i64 t1, .int .i64 t2, .int .i64 t3, .string data, .string row] 37)) nq))
  have m11 := HM2.out.cell 11
  simp only [List.getElem?_toArray, List.getElem?_cons_zero, List.getElem?_cons_succ] at m11
  go_wp2
  go_ret
  exact ⟨rfl, HB2.out⟩
end
end Go.Proofs.YtofhijnfbilieaaGreat.Bk
namespace Go.Proofs.YtofhijnfbilieaaGreat.Bk
open Go.RowKit
open Ml (Mg may msgV)
set_option linter.unusedVariables false
set_option linter.unusedSimpArgs false
set_option maxRecDepth 20000

section
variable {w w' : World} {tR bB cap bl : Nat} {K : Nat → Nat} {tk : Int} {T : T4} {B : Nat → Sd}
theorem RStAt.congr (h : RStAt w tR bB cap bl K tk T B) {tk' : Int} {T' : T4} {B' : Nat → Sd} (h1 : tk' = tk) (h2 : T' = T) (h3 : ∀ j, (B' j).ep = (B j).ep ∧ (B' j).sq = (B j).sq ∧ (B' j).data = (B j).data) : RStAt w tR bB cap bl K tk' T' B' := by
  subst h1 h2
  exact { h with qb := fun i hi => by obtain ⟨e1, e2, e3⟩ := h3 i; rw [e1, e2, e3]; exact h.qb i hi }
/-- another version of a block -/
theorem RStAt.setVer (h : RStAt w tR bB cap bl K tk T B) {k : Nat} (hk : k < bl) (p q : Int) :
    RStAt ((w.setCell ⟨bB, k * 4 + 1, none⟩ (.int .i64 p)).setCell ⟨bB, k * 4 + 2, none⟩ (.int .i64 q)) tR bB cap bl K tk T (fun j => if j = k then { B j with ep := p, sq := q } else B j) where
  p0 := by have := h.ne; rw [World.cell?_setCell_other _ _ _ _ (by simp [this]), World.cell?_setCell_other _ _ _ _ (by simp [this])]; exact h.p0
  p1 := by have := h.ne; rw [World.cell?_setCell_other _ _ _ _ (by simp [this]), World.cell?_setCell_other _ _ _ _ (by simp [this])]; exact h.p1
  p2 := by have := h.ne; rw [World.cell?_setCell_other _ _ _ _ (by simp [this]), World.cell?_setCell_other _ _ _ _ (by simp [this])]; exact h.p2
  p3 := by have := h.ne; rw [World.cell?_setCell_other _ _ _ _ (by simp [this]), World.cell?_setCell_other _ _ _ _ (by simp [this])]; exact h.p3
  p4 := by have := h.ne; rw [World.cell?_setCell_other _ _ _ _ (by simp [this]), World.cell?_setCell_other _ _ _ _ (by simp [this])]; exact h.p4
  p5 := by have := h.ne; rw [World.cell?_setCell_other _ _ _ _ (by simp [this]), World.cell?_setCell_other _ _ _ _ (by simp [this])]; exact h.p5
  p6 := by have := h.ne; rw [World.cell?_setCell_other _ _ _ _ (by simp [this]), World.cell?_setCell_other _ _ _ _ (by simp [this])]; exact h.p6
  qb := fun i hi => by
    obtain ⟨g0, g1, g2, g3⟩ := h.qb i hi
    by_cases e : i = k
    · subst e
      rw [if_pos rfl]
      refine ⟨?_, ?_, ?_, ?_⟩
      · rw [World.cell?_setCell_other _ _ _ _ (by simp), World.cell?_setCell_other _ _ _ _ (by simp)]; exact g0
      · rw [World.cell?_setCell_other _ _ _ _ (by simp)]; exact World.cell?_setCell_same _ _ _ g1
      · exact World.cell?_setCell_same _ _ _ (show _ = some (Value.int .i64 (B i).sq) by rw [World.cell?_setCell_other _ _ _ _ (by simp)]; exact g2)
      · rw [World.cell?_setCell_other _ _ _ _ (by simp), World.cell?_setCell_other _ _ _ _ (by simp)]; exact g3
    · rw [if_neg e]
      have key : ∀ o, o < 4 → ((w.setCell ⟨bB, k * 4 + 1, none⟩ (.int .i64 p)).setCell ⟨bB, k * 4 + 2, none⟩ (.int .i64 q)).cell? ⟨bB, i * 4 + o, none⟩ = w.cell? ⟨bB, i * 4 + o, none⟩ := fun o ho => by
        rw [World.cell?_setCell_other _ _ _ _ (by intro z; injection z with _ z; omega), World.cell?_setCell_other _ _ _ _ (by intro z; injection z with _ z; omega)]
      exact ⟨(key 0 (by omega)).trans g0, (key 1 (by omega)).trans g1, (key 2 (by omega)).trans g2, (key 3 (by omega)).trans g3⟩
  fz := fun o => by rw [World.frozen?_setCell, World.frozen?_setCell]; exact h.fz o
  fb := fun o => by rw [World.frozen?_setCell, World.frozen?_setCell]; exact h.fb o
  ne := h.ne
  bl1 := h.bl1
  cp := h.cp
/-- other bytes of a block -/
theorem RStAt.setData (h : RStAt w tR bB cap bl K tk T B) {k : Nat} (hk : k < bl) (x : ByteArray) :
    RStAt (w.setCell ⟨bB, k * 4 + 3, none⟩ (.string x)) tR bB cap bl K tk T (fun j => if j = k then { B j with data := x } else B j) where
  p0 := by have := h.ne; rw [World.cell?_setCell_other _ _ _ _ (by simp [this])]; exact h.p0
  p1 := by have := h.ne; rw [World.cell?_setCell_other _ _ _ _ (by simp [this])]; exact h.p1
  p2 := by have := h.ne; rw [World.cell?_setCell_other _ _ _ _ (by simp [this])]; exact h.p2
  p3 := by have := h.ne; rw [World.cell?_setCell_other _ _ _ _ (by simp [this])]; exact h.p3
  p4 := by have := h.ne; rw [World.cell?_setCell_other _ _ _ _ (by simp [this])]; exact h.p4
  p5 := by have := h.ne; rw [World.cell?_setCell_other _ _ _ _ (by simp [this])]; exact h.p5
  p6 := by have := h.ne; rw [World.cell?_setCell_other _ _ _ _ (by simp [this])]; exact h.p6
  qb := fun i hi => by
    obtain ⟨g0, g1, g2, g3⟩ := h.qb i hi
    by_cases e : i = k
    · subst e
      rw [if_pos rfl]
      refine ⟨?_, ?_, ?_, ?_⟩
      · rw [World.cell?_setCell_other _ _ _ _ (by simp)]; exact g0
      · rw [World.cell?_setCell_other _ _ _ _ (by simp)]; exact g1
      · rw [World.cell?_setCell_other _ _ _ _ (by simp)]; exact g2
      · exact World.cell?_setCell_same _ _ _ g3
    · rw [if_neg e]
      have key : ∀ o, o < 4 → (w.setCell ⟨bB, k * 4 + 3, none⟩ (.string x)).cell? ⟨bB, i * 4 + o, none⟩ = w.cell? ⟨bB, i * 4 + o, none⟩ := fun o ho => by
        rw [World.cell?_setCell_other _ _ _ _ (by intro z; injection z with _ z; omega)]
      exact ⟨(key 0 (by omega)).trans g0, (key 1 (by omega)).trans g1, (key 2 (by omega)).trans g2, (key 3 (by omega)).trans g3⟩
  fz := fun o => by rw [World.frozen?_setCell]; exact h.fz o
  fb := fun o => by rw [World.frozen?_setCell]; exact h.fb o
  ne := h.ne
  bl1 := h.bl1
  cp := h.cp
/-- another table -/
theorem RStAt.setT (h : RStAt w tR bB cap bl K tk T B) (X : T4) :
    RStAt ((((w.setCell ⟨tR, 3, none⟩ (.int .i64 X.a)).setCell ⟨tR, 4, none⟩ (.int .i64 X.b)).setCell ⟨tR, 5, none⟩ (.int .i64 X.c)).setCell ⟨tR, 6, none⟩ (.int .i64 X.d)) tR bB cap bl K tk X B where
  p0 := by rw [World.cell?_setCell_other _ _ _ _ (by simp), World.cell?_setCell_other _ _ _ _ (by simp), World.cell?_setCell_other _ _ _ _ (by simp), World.cell?_setCell_other _ _ _ _ (by simp)]; exact h.p0
  p1 := by rw [World.cell?_setCell_other _ _ _ _ (by simp), World.cell?_setCell_other _ _ _ _ (by simp), World.cell?_setCell_other _ _ _ _ (by simp), World.cell?_setCell_other _ _ _ _ (by simp)]; exact h.p1
  p2 := by rw [World.cell?_setCell_other _ _ _ _ (by simp), World.cell?_setCell_other _ _ _ _ (by simp), World.cell?_setCell_other _ _ _ _ (by simp), World.cell?_setCell_other _ _ _ _ (by simp)]; exact h.p2
  p3 := by
    rw [World.cell?_setCell_other _ _ _ _ (by simp), World.cell?_setCell_other _ _ _ _ (by simp), World.cell?_setCell_other _ _ _ _ (by simp)]
    exact World.cell?_setCell_same _ _ _ h.p3
  p4 := by
    rw [World.cell?_setCell_other _ _ _ _ (by simp), World.cell?_setCell_other _ _ _ _ (by simp)]
    exact World.cell?_setCell_same _ _ _ (show _ = some (Value.int .i64 T.b) by rw [World.cell?_setCell_other _ _ _ _ (by simp)]; exact h.p4)
  p5 := by
    rw [World.cell?_setCell_other _ _ _ _ (by simp)]
    exact World.cell?_setCell_same _ _ _ (show _ = some (Value.int .i64 T.c) by rw [World.cell?_setCell_other _ _ _ _ (by simp), World.cell?_setCell_other _ _ _ _ (by simp)]; exact h.p5)
  p6 := World.cell?_setCell_same _ _ _ (show _ = some (Value.int .i64 T.d) by rw [World.cell?_setCell_other _ _ _ _ (by simp), World.cell?_setCell_other _ _ _ _ (by simp), World.cell?_setCell_other _ _ _ _ (by simp)]; exact h.p6)
  qb := fun i hi => by
    have hn := h.ne
    have key : ∀ o, ((((w.setCell ⟨tR, 3, none⟩ (.int .i64 X.a)).setCell ⟨tR, 4, none⟩ (.int .i64 X.b)).setCell ⟨tR, 5, none⟩ (.int .i64 X.c)).setCell ⟨tR, 6, none⟩ (.int .i64 X.d)).cell? ⟨bB, o, none⟩ = w.cell? ⟨bB, o, none⟩ := fun o => by
      rw [World.cell?_setCell_other _ _ _ _ (by simp [Ne.symm hn]), World.cell?_setCell_other _ _ _ _ (by simp [Ne.symm hn]), World.cell?_setCell_other _ _ _ _ (by simp [Ne.symm hn]), World.cell?_setCell_other _ _ _ _ (by simp [Ne.symm hn])]
    rw [key, key, key, key]
    exact h.qb i hi
  fz := fun o => by rw [World.frozen?_setCell, World.frozen?_setCell, World.frozen?_setCell, World.frozen?_setCell]; exact h.fz o
  fb := fun o => by rw [World.frozen?_setCell, World.frozen?_setCell, World.frozen?_setCell, World.frozen?_setCell]; exact h.fb o
  ne := h.ne
  bl1 := h.bl1
  cp := h.cp
end

section
variable {rB LB n : Nat} {d : M.Dv} {tR bB cap bl f : Nat} {K : Nat → Nat} {C : Cs}

/-- what region 6 reads -/
def V6 (w' : World) (P0 Pv tR bB cap bl k : Nat) (ep sq e1 s1 : Int) : Prop :=
  w'.cell? ⟨P0, 4, none⟩ = some (.int .i64 (k : Int)) ∧ w'.cell? ⟨Pv, 0, none⟩ = some (.int .i64 ep) ∧ w'.cell? ⟨Pv, 1, none⟩ = some (.int .i64 sq) ∧ w'.cell? ⟨tR, 2, none⟩ = some (.slice (some ⟨bB, 0, none⟩) bl cap) ∧
  w'.cell? ⟨bB, k * 4 + 1, none⟩ = some (.int .i64 e1) ∧ w'.cell? ⟨bB, k * 4 + 1 + 1, none⟩ = some (.int .i64 s1)

set_option maxHeartbeats 4000000 in
theorem rsto_old (w : World) (h : RT w rB LB n d tR bB cap bl f K C) (m : Mg) (k : Nat) (hk : k < bl) (hbk : m.block = (k : Int)) (h8 : m.data.size = 8) (hab : above m.epoch m.seq (blk C k).ep (blk C k).sq = false) :
    Calls Tryz.prog 37 #[.pointer (some ⟨tR, 0, none⟩), msgV m] w fun e w' => e = .returned (.int .i64 0) ∧ Below w.heap.size w w' := by
  have hbl := h.at_.bl1
  have hcp := h.at_.cp
  have HB := Lib.hid ((Below.refl w.heap.size w).alloc (Nat.le_refl _) (.cells m.cells 37))
  have HM := Lib.hid (Bo.new w m.cells 37)
  have HS := Lib.hid (h.below HB.out)
  have p2 := HS.out.at_.p2
  have m4 := HM.out.cell 4
  have HAb := fun w' => Lib.hid (rabove_any w' m.epoch m.seq (blk C k).ep (blk C k).sq)
  rw [hab] at HAb
  have HQ : Hid (∀ w', RT w' rB LB n d tR bB cap bl f K C → w'.cell? ⟨tR, 2, none⟩ = some (.slice (some ⟨bB, 0, none⟩) bl cap) ∧ w'.cell? ⟨bB, k * 4 + 1, none⟩ = some (.int .i64 (blk C k).ep) ∧ w'.cell? ⟨bB, k * 4 + 1 + 1, none⟩ = some (.int .i64 (blk C k).sq)) := Lib.hid fun w' h => ⟨h.at_.p2, (h.at_.qb k hk).2.1, (h.at_.qb k hk).2.2.1⟩
  generalize (blk C k).ep = e1 at *
  generalize (blk C k).sq = s1 at *
  obtain ⟨kind, epoch, seq, nn, block, client, e, t0, t1, t2, t3, data, row⟩ := m
  simp only [msgV, Ml.Mg.cells, List.getElem?_toArray, List.getElem?_cons_zero, List.getElem?_cons_succ] at HB HM HS hbk p2 m4 h8 HAb ⊢
  subst hbk
  have h8' : ((data.size : Int) != 8) = false := by rw [bne_eq_false_iff_eq]; omega
  have g0 : (0 : Int) ≤ (k : Int) := by omega
  have g1 : (k : Int) < (bl : Int) := by omega
  have g2 : (bl : Int) ≤ 32 := by omega
  have d1 : decide ((k : Int) < 0) = false := decide_eq_false (by omega)
  have d2 : decide ((bl : Int) ≤ (k : Int)) = false := decide_eq_false (by omega)
  clear h hab hk h8 hbl hcp
  go_enter Tryz.func37, Tryz.ntmps37
  go_upto_region 1 with fail
  generalize w.alloc (.cells #[.int .i64 kind, .int .i64 epoch, .int .i64 seq, .int .i64 nn, .int .i64 (k : Int), .int .i64 client, .int .i64 e, .int .i64 t0, .int .i64 t1, .int .i64 t2, .int .i64 t3, .string data, .string row] 37) = W0 at *
  go_quiet (fail)
  have HM1 := Lib.hid (HM.out.below (rdrewN_below _ W0 nq) HM.out.lt)
  have HB1 := Lib.hid (HB.out.trans (rdrewN_below _ W0 nq))
  have HS1 := Lib.hid (HS.out.below (rdrewN_below _ W0 nq))
  clear HM HB HS p2 m4
  generalize W0.drewN nq = W1 at *
  have m1 := HM1.out.cell 1
  have m2 := HM1.out.cell 2
  have m11 := HM1.out.cell 11
  simp only [List.getElem?_toArray, List.getElem?_cons_zero, List.getElem?_cons_succ] at m1 m2 m11
  go_upto_region 6 with fail
  have hn := (Below.refl W1.heap.size W1).alloc (Nat.le_refl _) (.cells #[.int .i64 epoch, .int .i64 seq] 52)
  have HV := Lib.hid (Bo.new W1 #[.int .i64 epoch, .int .i64 seq] 52)
  have HM2 := Lib.hid (HM1.out.below hn HM1.out.lt)
  have HB2 := Lib.hid (HB1.out.trans (hn.mono HB1.out.size))
  have HS2 := Lib.hid (HS1.out.below hn)
  clear hn m1 m2 m11 HM1 HB1 HS1
  generalize W1.alloc (.cells #[.int .i64 epoch, .int .i64 seq] 52) = W2 at *
  generalize W1.heap.size = Pv at *
  have HK : Hid (∀ w', Below W2.heap.size W2 w' → V6 w' w.heap.size Pv tR bB cap bl k epoch seq e1 s1) := Lib.hid fun w' hb =>
    ⟨(HM2.out.below hb HM2.out.lt).cell 4, (HV.out.below hb HV.out.lt).cell 0, (HV.out.below hb HV.out.lt).cell 1, HQ.out _ (HS2.out.below hb)⟩
  unfold V6 at HK
  have HK0 := HK.out W2 (Below.refl _ _)
  go_region_held3 (fun w' => w'.cell? ⟨w.heap.size, 4, none⟩ = some (.int .i64 (k : Int)) ∧ w'.cell? ⟨Pv, 0, none⟩ = some (.int .i64 epoch) ∧ w'.cell? ⟨Pv, 1, none⟩ = some (.int .i64 seq) ∧ w'.cell? ⟨tR, 2, none⟩ = some (.slice (some ⟨bB, 0, none⟩) bl cap) ∧
      w'.cell? ⟨bB, k * 4 + 1, none⟩ = some (.int .i64 e1) ∧ w'.cell? ⟨bB, k * 4 + 1 + 1, none⟩ = some (.int .i64 s1))
    (first
      | exact HK.out W2 (Below.refl _ _)
      | exact HK.out _ (Below.refl W2.heap.size W2).drew
      | exact HK.out _ B8.out)
    (first
      | (go_at_call 64; refine (HAb _).out.mono ?_; rintro e w8 ⟨rfl, hb8⟩
         have B8 : Hid (Below W2.heap.size W2 w8) := Lib.hid ((Below.refl W2.heap.size W2).drew.trans hb8)
         clear hb8))
  go_wp2
  go_ret
  exact ⟨rfl, HB2.out.trans (B8.out.mono HB2.out.size)⟩
end
end Go.Proofs.YtofhijnfbilieaaGreat.Bk
namespace Go.Proofs.YtofhijnfbilieaaGreat.Bk
open Go.RowKit
open Ml (Mg may)
open C (RecAt RecOwn zeroRec)
set_option linter.unusedVariables false
set_option linter.unusedSimpArgs false
set_option maxRecDepth 20000

theorem rdec_ok (w : World) (s : ByteArray) (hs : s.size ≤ 65536) (r : C.M.Rc) (hd : C.M.dec s.data.toList = some r) :
    Calls Tryz.prog 51 #[.slice (some ⟨w.heap.size, 0, none⟩) s.size (grownCap w s.size 0 5)] (Lib.bytesWorld w 5 s) fun e w' => ∃ aN nN cN aT nT cT, e = .returned (.tuple #[.agg #[.int .i64 r.kind, .slice aN nN cN, .slice aT nT cT], .int .i64 0]) ∧ RecOwn w' w.heap.size r aN nN cN aT nT cT ∧ Below w.heap.size w w' := by
  refine (C.refdecode_any (Lib.bytesWorld w 5 s) _ _ _ _ (Ml.bytes_row w s hs) hs).mono ?_
  have hb0 := Ml.bytes_below w s
  rintro e w' ⟨hb, ⟨r', v, h1, ⟨aN, nN, cN, aT, nT, cT, rfl, h2, h3⟩, rfl⟩ | ⟨h1, _⟩⟩
  · rw [hd] at h1
    injection h1 with h1
    subst h1
    exact ⟨aN, nN, cN, aT, nT, cT, rfl, ⟨C.own_mono h2 hb0.size, C.own_mono h3 hb0.size⟩, hb0.trans (hb.mono hb0.size)⟩
  · rw [hd] at h1; cases h1
theorem rdec_no (w : World) (s : ByteArray) (hs : s.size ≤ 65536) (hd : C.M.dec s.data.toList = none) :
    Calls Tryz.prog 51 #[.slice (some ⟨w.heap.size, 0, none⟩) s.size (grownCap w s.size 0 5)] (Lib.bytesWorld w 5 s) fun e w' => e = .returned (.tuple #[.agg #[.int .i64 0, .slice none 0 0, .slice none 0 0], .int .i64 4]) ∧ Below w.heap.size w w' := by
  refine (C.refdecode_any (Lib.bytesWorld w 5 s) _ _ _ _ (Ml.bytes_row w s hs) hs).mono ?_
  have hb0 := Ml.bytes_below w s
  rintro e w' ⟨hb, ⟨r', v, h1, _, _⟩ | ⟨h1, rfl⟩⟩
  · rw [hd] at h1; cases h1
  · exact ⟨rfl, hb0.trans (hb.mono hb0.size)⟩

/-- a record's box -/
theorem rbox_new (w : World) (a b c : Value) : R3 (w.alloc (.cells #[a, b, c] 99)) w.heap.size a b c := R3.of (C.Bx.refl w _)

set_option maxHeartbeats 2000000 in
theorem rnums_none (w : World) (s : ByteArray) (hs : s.size ≤ 65536) (kind n m : Int) (hd : C.M.dec s.data.toList = none) :
    Calls Tryz.prog 28 #[.string s, .int .i64 kind, .int .i64 n, .int .i64 m] w fun e w' => e = .returned (.tuple #[.slice none 0 0, .string ⟨#[]⟩, .bool false]) ∧ Below w.heap.size w w' := by
  have HD := Lib.hid (rdec_no w s hs hd)
  have kc := Ml.conv_str w s
  clear hd hs
  go_enter Tryz.func28, Tryz.ntmps28
  go_wp2_with (first
    | (go_at_call 51; with_reducible refine HD.out.mono ?_; rintro e1 w1 ⟨rfl, hb⟩
       have HB := Lib.hid (hb.alloc hb.size (.cells #[.int .i64 0, .slice none 0 0, .slice none 0 0] 99))
       clear hb))
  refine bodyPost_ret (v := .tuple #[.slice none 0 0, .string ⟨#[]⟩, .bool false]) (by simp [results, Tryz.results28, go_sem]) rfl ?_
  exact ⟨rfl, HB.out⟩

set_option maxHeartbeats 2000000 in
theorem rnums_out (w : World) (s : ByteArray) (hs : s.size ≤ 65536) (kind : Int) (n m : Nat) (r : C.M.Rc) (hd : C.M.dec s.data.toList = some r) (hi : ¬ (r.kind = kind ∧ r.nums.length = n ∧ r.texts.length = m)) :
    Calls Tryz.prog 28 #[.string s, .int .i64 kind, .int .i64 (n : Int), .int .i64 (m : Int)] w fun e w' => e = .returned (.tuple #[.slice none 0 0, .string ⟨#[]⟩, .bool false]) ∧ Below w.heap.size w w' := by
  have HD := Lib.hid (rdec_ok w s hs r hd)
  have kc := Ml.conv_str w s
  have HLen : Hid (∀ w' B aN nN cN aT nT cT, RecOwn w' B r aN nN cN aT nT cT → nN = r.nums.length ∧ nT = r.texts.length) := Lib.hid fun _ _ _ _ _ _ _ _ h => ⟨h.at.lenN, h.at.lenT⟩
  clear hd hs
  generalize r.nums.length = p at *
  generalize r.texts.length = q at *
  generalize hkd : r.kind = kd at *
  have HK := Lib.hid hkd
  clear hkd
  have hc : (((kd : Int) != kind) = true) ∨ (((kd : Int) != kind) = false ∧ ((p : Int) != (n : Int)) = true) ∨ (((kd : Int) != kind) = false ∧ ((p : Int) != (n : Int)) = false ∧ ((q : Int) != (m : Int)) = true) := by
    by_cases h1 : kd = kind
    · have g1 : ((kd : Int) != kind) = false := by simp [h1]
      by_cases h2 : p = n
      · have h3 : ¬ q = m := fun h3 => hi ⟨h1, h2, h3⟩
        exact .inr (.inr ⟨g1, by rw [bne_eq_false_iff_eq]; omega, by rw [bne_iff_ne]; omega⟩)
      · exact .inr (.inl ⟨g1, by rw [bne_iff_ne]; omega⟩)
    · exact .inl (by rw [bne_iff_ne]; exact h1)
  clear hi
  rcases hc with g1 | ⟨g1, g2⟩ | ⟨g1, g2, g3⟩
  all_goals
    go_enter Tryz.func28, Tryz.ntmps28
    go_wp2_with (first
      | (go_at_call 51; with_reducible refine HD.out.mono ?_; rintro e1 w1 ⟨aN, nN, cN, aT, nT, cT, rfl, hr, hb⟩
         obtain ⟨rfl, rfl⟩ := HLen.out _ _ _ _ _ _ _ _ hr
         have HB := Lib.hid (hb.alloc hb.size (.cells #[.int .i64 kd, .slice aN nN cN, .slice aT nT cT] 99))
         obtain ⟨z0, z1, z2, zf⟩ := rbox_new w1 (.int .i64 kd) (.slice aN nN cN) (.slice aT nT cT)
         clear hb hr))
    refine bodyPost_ret (v := .tuple #[.slice none 0 0, .string ⟨#[]⟩, .bool false]) (by simp [results, Tryz.results28, go_sem]) rfl ?_
    exact ⟨rfl, HB.out⟩

set_option maxHeartbeats 4000000 in
theorem rnums_bad (w : World) (s : ByteArray) (hs : s.size ≤ 65536) (kind : Int) (n m : Nat) (r : C.M.Rc) (hd : C.M.dec s.data.toList = some r) (h1 : r.kind = kind) (h2 : r.nums.length = n) (h3 : r.texts.length = m) (hb : ¬ ∀ x ∈ r.nums, 0 ≤ x ∧ x ≤ big) :
    Calls Tryz.prog 28 #[.string s, .int .i64 kind, .int .i64 (n : Int), .int .i64 (m : Int)] w fun e w' => e = .returned (.tuple #[.slice none 0 0, .string ⟨#[]⟩, .bool false]) ∧ Below w.heap.size w w' := by
  have HD := Lib.hid (rdec_ok w s hs r hd)
  have kc := Ml.conv_str w s
  have HLen : Hid (∀ w' B aN nN cN aT nT cT, RecOwn w' B r aN nN cN aT nT cT → nN = n ∧ nT = m) := Lib.hid fun _ _ _ _ _ _ _ _ h => ⟨h.at.lenN.trans h2, h.at.lenT.trans h3⟩
  obtain ⟨p, x, hp, hx, hall⟩ := first_bad hb
  have hpn : p < n := by rw [← h2]; exact (List.getElem?_eq_some_iff.1 hp).1
  have hnb : n ≤ 16 := by rw [← h2]; exact (C.M.enc_dec hd).1.2.2.1
  have HP := Lib.hid hp
  have HA := Lib.hid hall
  have hx' : x < 0 ∨ (¬ x < 0 ∧ 4611686018427387904 < x) := by simp only [big] at hx; omega
  have HR : Hid (∀ w' B aN nN cN aT nT cT, RecOwn w' B r aN nN cN aT nT cT → C.Row w' aN nN cN (C.i64s r.nums)) := Lib.hid fun _ _ _ _ _ _ _ _ h => h.at.1
  clear hd hs hb h2 h3 hp hall hx
  generalize r.kind = kd at *
  subst h1
  rcases hx' with hx1 | ⟨hx1, hx2⟩
  all_goals
    go_enter Tryz.func28, Tryz.ntmps28
    go_wp2_with (first
      | (go_at_call 51; with_reducible refine HD.out.mono ?_; rintro e1 w1 ⟨aN, nN, cN, aT, nT, cT, rfl, hr, hb⟩
         obtain ⟨rfl, rfl⟩ := HLen.out _ _ _ _ _ _ _ _ hr
         have HB := Lib.hid (hb.alloc hb.size (.cells #[.int .i64 kd, .slice aN nN cN, .slice aT nT cT] 99))
         have HRw := Lib.hid (C.row_below (HR.out _ _ _ _ _ _ _ _ hr) ((Below.refl w1.heap.size w1).alloc (Nat.le_refl _) (.cells #[.int .i64 kd, .slice aN nN cN, .slice aT nT cT] 99)) (Nat.le_refl _))
         obtain ⟨z0, z1, z2, zf⟩ := rbox_new w1 (.int .i64 kd) (.slice aN nN cN) (.slice aT nT cT)
         clear hb hr))
    generalize w1.alloc (.cells #[.int .i64 kd, .slice aN nN cN, .slice aT nT cT] 99) = W2 at *
    go_loopw [13] (fun i wr => ∃ k : Nat, k ≤ p ∧ i = .int .i64 (k : Int) ∧ wr = W2) (fun i _ => nN - (intOf i).toNat)
    case atStart => exact ⟨0, by omega, rfl, rfl⟩
    case round =>
      obtain ⟨k, hk, rfl, rfl⟩ := hrel
      obtain ⟨b, off, z, rfl, hbl, hz, hc⟩ := C.row_i64 HRw.out k (by omega)
      have hlt : (k : Int) < (nN : Int) := by omega
      by_cases hkp : k = p
      · subst hkp
        obtain rfl : z = x := by have := HP.out; rw [hz] at this; exact Option.some.inj this
        go_wp2
        refine bodyPost_ret (v := .tuple #[.slice none 0 0, .string ⟨#[]⟩, .bool false]) (by simp [results, Tryz.results28, go_sem]) rfl ?_
        exact ⟨rfl, HB.out⟩
      · have hzz := HA.out k z (by omega) hz
        simp only [big] at hzz
        have g1 : ¬ z < 0 := by omega
        have g2 : ¬ 4611686018427387904 < z := by omega
        go_wp2
        go_roundw
        case rel => exact ⟨k + 1, by omega, by go_num, by trivial⟩
        case measure => simp [intOf]; omega

/-- where the text is no such record -/
theorem rnums_no (w : World) (s : ByteArray) (hs : s.size ≤ 65536) (kind : Int) (n m : Nat) (h : recOf s kind n m = none) :
    Calls Tryz.prog 28 #[.string s, .int .i64 kind, .int .i64 (n : Int), .int .i64 (m : Int)] w fun e w' => e = .returned (.tuple #[.slice none 0 0, .string ⟨#[]⟩, .bool false]) ∧ Below w.heap.size w w' := by
  cases hd : C.M.dec s.data.toList with
  | none => exact rnums_none w s hs kind n m hd
  | some r =>
    have hok : ¬ recOk r kind n m = true := fun hok => by unfold recOf at h; rw [hd] at h; simp [hok] at h
    by_cases ho : r.kind = kind ∧ r.nums.length = n ∧ r.texts.length = m
    · obtain ⟨h1, h2, h3⟩ := ho
      refine rnums_bad w s hs kind n m r hd h1 h2 h3 fun hall => hok ((recOk_iff _ _ _ _).2 ⟨h1, h2, h3, hall⟩)
    · exact rnums_out w s hs kind n m r hd ho

set_option maxHeartbeats 4000000 in
/-- where it is one, without a text, or with one -/
theorem rnums_yes (w : World) (s : ByteArray) (hs : s.size ≤ 65536) (kind : Int) (n m : Nat) (hm : m = 0 ∨ m = 1) (r : C.M.Rc) (hd : recOf s kind n m = some r) (t : ByteArray) (u : Bool) (ht : t = if m = 0 then ⟨#[]⟩ else r.texts.getD 0 ⟨#[]⟩) (hu : u = if m = 0 then true else decide (t.size = 8)) :
    Calls Tryz.prog 28 #[.string s, .int .i64 kind, .int .i64 (n : Int), .int .i64 (m : Int)] w fun e w' => ∃ aN cN, e = .returned (.tuple #[.slice aN n cN, .string t, .bool u]) ∧ C.Own 2 w' w.heap.size aN n cN (C.i64s r.nums) ∧ Below w.heap.size w w' := by
  obtain ⟨hd, hok⟩ := recOf_some hd
  obtain ⟨h1, h2, h3, hall⟩ := (recOk_iff _ _ _ _).1 hok
  have HD := Lib.hid (rdec_ok w s hs r hd)
  have kc := Ml.conv_str w s
  have HLen : Hid (∀ w' B aN nN cN aT nT cT, RecOwn w' B r aN nN cN aT nT cT → nN = n ∧ nT = m) := Lib.hid fun _ _ _ _ _ _ _ _ h => ⟨h.at.lenN.trans h2, h.at.lenT.trans h3⟩
  have HA := Lib.hid hall
  have HOk : Hid (C.M.May r) := Lib.hid (C.M.enc_dec hd).1
  have hnb : n ≤ 16 := by rw [← h2]; exact HOk.out.2.2.1
  have HT : Hid (m = 1 → ∀ w' B aN nN cN aT nT cT, RecOwn w' B r aN nN cN aT nT cT → ∃ b off, aT = some ⟨b, off, none⟩ ∧ b < w'.heap.size ∧ w'.cell? ⟨b, off, none⟩ = some (.string t)) := Lib.hid fun hm1 w' B aN nN cN aT nT cT h => by
    have hrow := h.at.2
    rw [if_neg (by omega)] at ht
    match hr : r.texts, h3 with
    | [], h3 => simp at h3; omega
    | x :: xs, h3 =>
      rw [hr] at hrow ht
      simp at ht
      obtain ⟨g1, g2, g3, g4⟩ := hrow
      rcases g4 with g4 | ⟨b, off, ha, hb, hc⟩
      · simp [C.strs] at g4
      · refine ⟨b, off, ha, hb, ?_⟩
        have hn0 : 0 < nT := by rw [← g1]; simp [C.strs]
        have := hc 0 hn0
        rw [Nat.add_zero] at this
        rw [this, ht]
        rfl
  have hszb : t.size ≤ 100 ∨ True := .inr trivial
  clear hd hs hok h2 h3 hall
  generalize hkd : r.kind = kd at *
  subst h1
  clear hkd
  have hpre : ∀ (w1 : World) (aN : Option Addr) (cN : Nat) (aT : Option Addr) (cT : Nat) (e1 : Value), True := fun _ _ _ _ _ _ => trivial
  clear hpre hszb
  rcases hm with rfl | rfl
  · rw [if_pos rfl] at ht hu
    subst ht hu
    clear HT
    go_enter Tryz.func28, Tryz.ntmps28
    go_wp2_with (first
      | (go_at_call 51; with_reducible refine HD.out.mono ?_; rintro e1 w1 ⟨aN, nN, cN, aT, nT, cT, rfl, hr, hb⟩
         obtain ⟨rfl, rfl⟩ := HLen.out _ _ _ _ _ _ _ _ hr
         have hbx := (Below.refl w1.heap.size w1).alloc (Nat.le_refl _) (.cells #[.int .i64 kd, .slice aN nN cN, .slice aT 0 cT] 99)
         have HB := Lib.hid (hb.alloc hb.size (.cells #[.int .i64 kd, .slice aN nN cN, .slice aT 0 cT] 99))
         have HRo := Lib.hid (hr.below hbx (Nat.le_refl _))
         obtain ⟨z0, z1, z2, zf⟩ := rbox_new w1 (.int .i64 kd) (.slice aN nN cN) (.slice aT 0 cT)
         clear hb hr hbx))
    generalize w1.alloc (.cells #[.int .i64 kd, .slice aN nN cN, .slice aT 0 cT] 99) = W2 at *
    go_loopw [13] (fun i wr => ∃ k : Nat, k ≤ nN ∧ i = .int .i64 (k : Int) ∧ wr = W2) (fun i _ => nN - (intOf i).toNat)
    case atStart => exact ⟨0, by omega, rfl, rfl⟩
    case round =>
      obtain ⟨k, hk, rfl, rfl⟩ := hrel
      by_cases hkp : k = nN
      · subst hkp
        go_wp2
        refine bodyPost_ret (v := .tuple #[.slice aN k cN, .string ⟨#[]⟩, .bool true]) (by simp [results, Tryz.results28, go_sem]) rfl ?_
        exact ⟨aN, cN, rfl, HRo.out.nums, HB.out⟩
      · obtain ⟨b, off, z, rfl, hbl, hz, hc⟩ := C.row_i64 HRo.out.at.1 k (by omega)
        have hlt : (k : Int) < (nN : Int) := by omega
        have hzz := HA.out z (List.mem_of_getElem? hz)
        simp only [big] at hzz
        have g1 : ¬ z < 0 := by omega
        have g2 : ¬ 4611686018427387904 < z := by omega
        go_wp2
        go_roundw
        case rel => exact ⟨k + 1, by omega, by go_num, by trivial⟩
        case measure => simp [intOf]; omega
  · rw [if_neg (by omega)] at ht hu
    clear ht
    go_enter Tryz.func28, Tryz.ntmps28
    go_wp2_with (first
      | (go_at_call 51; with_reducible refine HD.out.mono ?_; rintro e1 w1 ⟨aN, nN, cN, aT, nT, cT, rfl, hr, hb⟩
         obtain ⟨rfl, rfl⟩ := HLen.out _ _ _ _ _ _ _ _ hr
         have hbx := (Below.refl w1.heap.size w1).alloc (Nat.le_refl _) (.cells #[.int .i64 kd, .slice aN nN cN, .slice aT 1 cT] 99)
         have HB := Lib.hid (hb.alloc hb.size (.cells #[.int .i64 kd, .slice aN nN cN, .slice aT 1 cT] 99))
         have HRo := Lib.hid (hr.below hbx (Nat.le_refl _))
         obtain ⟨z0, z1, z2, zf⟩ := rbox_new w1 (.int .i64 kd) (.slice aN nN cN) (.slice aT 1 cT)
         clear hb hr hbx))
    generalize w1.alloc (.cells #[.int .i64 kd, .slice aN nN cN, .slice aT 1 cT] 99) = W2 at *
    go_loopw [13] (fun i wr => ∃ k : Nat, k ≤ nN ∧ i = .int .i64 (k : Int) ∧ wr = W2) (fun i _ => nN - (intOf i).toNat)
    case atStart => exact ⟨0, by omega, rfl, rfl⟩
    case round =>
      obtain ⟨k, hk, rfl, rfl⟩ := hrel
      by_cases hkp : k = nN
      · subst hkp
        obtain ⟨bT, oT, rfl, hbT, hcT⟩ := HT.out (by first | rfl | trivial) _ _ _ _ _ _ _ _ HRo.out
        go_wp2_with fail
        go_quiet (fail)
        go_wp2
        have hue : ((t.size : Int) == 8) = u := by
          rw [hu, Bool.eq_iff_iff]
          simp
          omega
        refine bodyPost_ret (v := .tuple #[.slice aN k cN, .string t, .bool u]) (by simp [results, Tryz.results28, go_sem, hue]) rfl ?_
        have hbq : Below wr.heap.size wr (wr.drewN nq) := C.below_drewN _ _ _
        exact ⟨aN, cN, rfl, (HRo.out.below hbq (Nat.le_refl _)).nums, HB.out.trans (C.below_drewN _ _ _)⟩
      · obtain ⟨b, off, z, rfl, hbl, hz, hc⟩ := C.row_i64 HRo.out.at.1 k (by omega)
        have hlt : (k : Int) < (nN : Int) := by omega
        have hzz := HA.out z (List.mem_of_getElem? hz)
        simp only [big] at hzz
        have g1 : ¬ z < 0 := by omega
        have g2 : ¬ 4611686018427387904 < z := by omega
        go_wp2
        go_roundw
        case rel => exact ⟨k + 1, by omega, by go_num, by trivial⟩
        case measure => simp [intOf]; omega
end Go.Proofs.YtofhijnfbilieaaGreat.Bk
