/-
  The net and the document's own net at once, a row that was told beside them, and blocks that stay, through the calls.
-/
import Derived.Test.YthbgabmmfokioaaNtRef3
import Derived.Test.YthbgabmmfokioaaNtRef4
namespace Go.Proofs.Ythbgabmmfokioaa.Nt
open Go.RowKit
set_option linter.unusedVariables false
set_option linter.unusedSimpArgs false
set_option maxRecDepth 20000

/-- the document's own net, of the call's own -/
structure Rr (w0 w : World) (r : Nat) (b : Option Addr) (m : List Lt) : Prop where
  at_ : NAt tR w r b m
  op : w0.heap.size ≤ r
  ob : Fresh w0.heap.size b
  be : Below w0.heap.size w0 w
/-- both, a row that was told, and blocks that stay -/
structure D3 (w0 w : World) (p : Nat) (a : Option Addr) (l : List Lt) (r : Nat) (b : Option Addr) (m : List Lt) (hs : List (Nat × Obj)) (t : Option Addr) (ct : Nat) (ls : List Lt) : Prop where
  rn : Rn w0 w p a l
  rr : Rr w0 w r b m
  rt : OwnL w t ct ls
  ft : Fresh w0.heap.size t
  d1 : Dis [p, blk p a] [r, blk r b]
  d2 : Dis [p, blk p a] (rb t)
  d3 : Dis [r, blk r b] (rb t)
  kh : ∀ x ∈ hs, w.heap[x.1]? = some x.2 ∧ x.1 ∉ [p, blk p a] ∧ x.1 ∉ [r, blk r b] ∧ x.1 ∉ rb t ∧ w0.heap.size ≤ x.1
def DX (w0 w : World) (p : Nat) (l : List Lt) (r : Nat) (m : List Lt) (hs : List (Nat × Obj)) (t : Option Addr) (ct : Nat) (ls : List Lt) : Prop := ∃ a b, D3 w0 w p a l r b m hs t ct ls

section
variable {w0 w w' : World} {p r : Nat} {a b : Option Addr} {l m l' m' : List Lt} {hs : List (Nat × Obj)} {t : Option Addr} {ct : Nat} {ls : List Lt}
theorem Rn.from' (h : Rn w0 w p a l) : ∀ x ∈ [p, blk p a], w0.heap.size ≤ x := by
  intro x hx
  simp at hx
  rcases hx with rfl | rfl
  · exact h.op
  · exact h.oa.blk h.op
theorem Rr.from' (h : Rr w0 w r b m) : ∀ x ∈ [r, blk r b], w0.heap.size ≤ x := by
  intro x hx
  simp at hx
  rcases hx with rfl | rfl
  · exact h.op
  · exact h.ob.blk h.op
theorem hs_lt (k : ∀ x ∈ hs, w.heap[x.1]? = some x.2 ∧ x.1 ∉ [p, blk p a] ∧ x.1 ∉ [r, blk r b] ∧ x.1 ∉ rb t ∧ w0.heap.size ≤ x.1) {x : Nat × Obj} (hx : x ∈ hs) : x.1 < w.heap.size := lt_of_heap (k x hx).1
theorem not_new {L L' : List Nat} {B x : Nat} (h : x ∉ L) (hL : ∀ y ∈ L', y ∈ L ∨ B ≤ y) (hx : x < B) : x ∉ L' := fun hm => by
  rcases hL x hm with g | g
  · exact h g
  · omega
theorem D3.stepN (h : D3 w0 w p a l r b m hs t ct ls) (k : ∃ a', NAt tN w' p a' l' ∧ Anew w a a' ∧ But [p, blk p a] w w') : DX w0 w' p l' r m hs t ct ls := by
  obtain ⟨a', h1, h2, h3⟩ := k
  have hb := h.rn.be.trans (h3.to_below h.rn.from' h.rn.be.size)
  refine ⟨a', b, ⟨h1, h.rn.op, h.rn.oa.anew h2 h.rn.be.size, hb⟩, ⟨h.rr.at_.keep h3 h.d1, h.rr.op, h.rr.ob, hb⟩, h.rt.keep h3 h.d2, h.ft, h.d1.left h2.net h.rr.at_.lts, h.d2.left h2.net h.rt.lts, h.d3, fun x hx => ?_⟩
  obtain ⟨k1, k2, k3, k4, k5⟩ := h.kh x hx
  have hl := lt_of_heap k1
  exact ⟨(h3.block _ hl k2).trans k1, not_new k2 h2.net hl, k3, k4, k5⟩
theorem D3.stepR (h : D3 w0 w p a l r b m hs t ct ls) (k : ∃ b', NAt tR w' r b' m' ∧ Anew w b b' ∧ But [r, blk r b] w w') : DX w0 w' p l r m' hs t ct ls := by
  obtain ⟨b', h1, h2, h3⟩ := k
  have hb := h.rn.be.trans (h3.to_below h.rr.from' h.rn.be.size)
  refine ⟨a, b', ⟨h.rn.at_.keep h3 h.d1.symm, h.rn.op, h.rn.oa, hb⟩, ⟨h1, h.rr.op, h.rr.ob.anew h2 h.rn.be.size, hb⟩, h.rt.keep h3 h.d3, h.ft, h.d1.right h2.net h.rn.at_.lts, h.d2, h.d3.left h2.net h.rt.lts, fun x hx => ?_⟩
  obtain ⟨k1, k2, k3, k4, k5⟩ := h.kh x hx
  have hl := lt_of_heap k1
  exact ⟨(h3.block _ hl k3).trans k1, k2, not_new k3 h2.net hl, k4, k5⟩
theorem DX.below (h : DX w0 w p l r m hs t ct ls) (hb : Below w.heap.size w w') : DX w0 w' p l r m hs t ct ls := by
  obtain ⟨a, b, h⟩ := h
  have hb' := h.rn.be.trans (hb.mono h.rn.be.size)
  refine ⟨a, b, ⟨h.rn.at_.below hb (Nat.le_refl _), h.rn.op, h.rn.oa, hb'⟩, ⟨h.rr.at_.below hb (Nat.le_refl _), h.rr.op, h.rr.ob, hb'⟩, h.rt.below hb (Nat.le_refl _), h.ft, h.d1, h.d2, h.d3, fun x hx => ?_⟩
  obtain ⟨k1, k2⟩ := h.kh x hx
  exact ⟨(hb.block _ (lt_of_heap k1)).trans k1, k2⟩
/-- a block that is made now stays -/
theorem DX.hold (h : DX w0 w p l r m hs t ct ls) (o : Obj) : DX w0 (w.alloc o) p l r m ((w.heap.size, o) :: hs) t ct ls := by
  obtain ⟨a, b, h1⟩ := h.below ((Below.refl _ _).alloc (Nat.le_refl _) o)
  obtain ⟨a0, b0, h0⟩ := h
  have hh : D3 w0 (w.alloc o) p a0 l r b0 m hs t ct ls := by
    have hb := (Below.refl w.heap.size w).alloc (Nat.le_refl _) o
    have hb' := h0.rn.be.trans (hb.mono h0.rn.be.size)
    refine ⟨⟨h0.rn.at_.below hb (Nat.le_refl _), h0.rn.op, h0.rn.oa, hb'⟩, ⟨h0.rr.at_.below hb (Nat.le_refl _), h0.rr.op, h0.rr.ob, hb'⟩, h0.rt.below hb (Nat.le_refl _), h0.ft, h0.d1, h0.d2, h0.d3, fun x hx => ?_⟩
    obtain ⟨k1, k2⟩ := h0.kh x hx
    exact ⟨(hb.block _ (lt_of_heap k1)).trans k1, k2⟩
  refine ⟨a0, b0, hh.rn, hh.rr, hh.rt, hh.ft, hh.d1, hh.d2, hh.d3, fun x hx => ?_⟩
  rcases List.mem_cons.1 hx with rfl | hx
  · refine ⟨heap_alloc_new w o, fun hm => ?_, fun hm => ?_, fun hm => ?_, h0.rn.be.size⟩
    · have := h0.rn.at_.lts _ hm; simp at this
    · have := h0.rr.at_.lts _ hm; simp at this
    · have := h0.rt.lts _ hm; simp at this
  · exact hh.kh x hx
theorem DX.held (h : DX w0 w p l r m hs t ct ls) {g : Nat} {o : Obj} (hx : (g, o) ∈ hs) : w.heap[g]? = some o := by
  obtain ⟨a, b, h⟩ := h
  exact (h.kh _ hx).1
theorem DX.free (h : DX w0 w p l r m hs t ct ls) : DX w0 w p l r m [] t ct ls := by
  obtain ⟨a, b, h⟩ := h
  exact ⟨a, b, h.rn, h.rr, h.rt, h.ft, h.d1, h.d2, h.d3, fun x hx => by cases hx⟩
theorem DX.be (h : DX w0 w p l r m hs t ct ls) : Below w0.heap.size w0 w := by obtain ⟨a, b, h⟩ := h; exact h.rn.be
theorem DX.len3 (h : DX w0 w p l r m hs t ct ls) : l.length ≤ 300 ∧ m.length ≤ 300 := by obtain ⟨a, b, h⟩ := h; exact ⟨h.rn.at_.len, h.rr.at_.len⟩
theorem DX.rt (h : DX w0 w p l r m hs t ct ls) : OwnL w t ct ls := by obtain ⟨a, b, h⟩ := h; exact h.rt
/-- what the document's own net's cell holds -/
theorem DX.rcell (h : DX w0 w p l r m hs t ct ls) : ∃ b cap, w.cell? ⟨r, 0, none⟩ = some (.slice b m.length cap) ∧ Rd w b m.length m := by
  obtain ⟨a, b, h⟩ := h
  obtain ⟨cap, h1, _, h2, _⟩ := h.rr.at_.cell
  exact ⟨b, cap, h1, h2.rd⟩

theorem DX.send (h : DX w0 w p l r m hs t ct ls) (x : Lt) : Calls Try.prog 11 #[.pointer (some ⟨p, 0, none⟩), ltV x] w fun e w' => e = .returned (.int .i64 (sendE l x)) ∧ DX w0 w' p (sendL l x) r m hs t ct ls := by
  obtain ⟨a, b, h⟩ := h
  exact (send_any h.rn.at_ x).mono fun e w' k => ⟨k.1, h.stepN k.2⟩
theorem DX.rsend (h : DX w0 w p l r m hs t ct ls) (x : Lt) : Calls Try.prog 12 #[.pointer (some ⟨r, 0, none⟩), ltV x] w fun e w' => e = .returned (.int .i64 (sendE m x)) ∧ DX w0 w' p l r (sendL m x) hs t ct ls := by
  obtain ⟨a, b, h⟩ := h
  exact (rsend_any h.rr.at_ x).mono fun e w' k => ⟨k.1, h.stepR k.2⟩
theorem DX.take (h : DX w0 w p l r m hs t ct ls) (i : Int) : Calls Try.prog 13 #[.pointer (some ⟨p, 0, none⟩), .int .i64 i] w fun e w' => e = .returned (.tuple #[ltV (takeV l i), .bool (takeB l)]) ∧ DX w0 w' p (takeL l i) r m hs t ct ls := by
  obtain ⟨a, b, h⟩ := h
  exact (take_any h.rn.at_ i).mono fun e w' k => ⟨k.1, h.stepN k.2⟩
theorem DX.rtake (h : DX w0 w p l r m hs t ct ls) (i : Int) : Calls Try.prog 14 #[.pointer (some ⟨r, 0, none⟩), .int .i64 i] w fun e w' => e = .returned (.tuple #[ltV (takeV m i), .bool (takeB m)]) ∧ DX w0 w' p l r (takeL m i) hs t ct ls := by
  obtain ⟨a, b, h⟩ := h
  exact (rtake_any h.rr.at_ i).mono fun e w' k => ⟨k.1, h.stepR k.2⟩
theorem DX.drop (h : DX w0 w p l r m hs t ct ls) (i : Int) : Calls Try.prog 17 #[.pointer (some ⟨p, 0, none⟩), .int .i64 i] w fun e w' => e = .returned (.bool (takeB l)) ∧ DX w0 w' p (takeL l i) r m hs t ct ls := by
  obtain ⟨a, b, h⟩ := h
  exact (drop_any h.rn.at_ i).mono fun e w' k => ⟨k.1, h.stepN k.2⟩
theorem DX.copy (h : DX w0 w p l r m hs t ct ls) (i : Int) : Calls Try.prog 15 #[.pointer (some ⟨p, 0, none⟩), .int .i64 i] w fun e w' => e = .returned (.bool (copyB l)) ∧ DX w0 w' p (copyL l i) r m hs t ct ls := by
  obtain ⟨a, b, h⟩ := h
  exact (copy_any h.rn.at_ i).mono fun e w' k => ⟨k.1, h.stepN k.2⟩
theorem DX.rcopy (h : DX w0 w p l r m hs t ct ls) (i : Int) : Calls Try.prog 16 #[.pointer (some ⟨r, 0, none⟩), .int .i64 i] w fun e w' => e = .returned (.bool (copyB m)) ∧ DX w0 w' p l r (copyL m i) hs t ct ls := by
  obtain ⟨a, b, h⟩ := h
  exact (rcopy_any h.rr.at_ i).mono fun e w' k => ⟨k.1, h.stepR k.2⟩
theorem DX.len (h : DX w0 w p l r m hs t ct ls) : Calls Try.prog 20 #[.pointer (some ⟨p, 0, none⟩)] w fun e w' => e = .returned (.int .i64 (l.length : Int)) ∧ w = w' := by
  obtain ⟨a, b, h⟩ := h
  exact len_any h.rn.at_
theorem DX.to (h : DX w0 w p l r m hs t ct ls) (q : Int) : Calls Try.prog 21 #[.pointer (some ⟨p, 0, none⟩), .int .i64 q] w fun e w' => e = .returned (toV l q) ∧ DX w0 w' p l r m hs t ct ls := by
  have hh := h
  obtain ⟨a, b, h⟩ := h
  refine (to_any h.rn.at_ q).mono ?_
  rintro e w' ⟨rfl, hb⟩
  exact ⟨rfl, hh.below hb⟩
theorem DX.rto (h : DX w0 w p l r m hs t ct ls) (q : Int) : Calls Try.prog 22 #[.pointer (some ⟨r, 0, none⟩), .int .i64 q] w fun e w' => e = .returned (toV m q) ∧ w = w' := by
  obtain ⟨a, b, h⟩ := h
  exact rto_any h.rr.at_ q
/-- All: the row that is told takes the elder one's place -/
theorem DX.all (h : DX w0 w p l r m hs t ct ls) : Calls Try.prog 18 #[.pointer (some ⟨p, 0, none⟩)] w fun e w' => ∃ t' ct', e = .returned (.slice t' l.length ct') ∧ DX w0 w' p l r m hs t' ct' l := by
  obtain ⟨a, b, h⟩ := h
  refine (all_any h.rn.at_).mono ?_
  rintro e w' ⟨t', ct', rfl, h1, h2, hb⟩
  have hb' := h.rn.be.trans (hb.mono h.rn.be.size)
  have far : ∀ x, x < w.heap.size → x ∉ rb t' := fun x hx hm => by have := h2.rb x hm; omega
  refine ⟨t', ct', rfl, a, b, ⟨h.rn.at_.below hb (Nat.le_refl _), h.rn.op, h.rn.oa, hb'⟩, ⟨h.rr.at_.below hb (Nat.le_refl _), h.rr.op, h.rr.ob, hb'⟩, h1, h2.mono h.rn.be.size, h.d1, fun x hx => far x (h.rn.at_.lts x hx), fun x hx => far x (h.rr.at_.lts x hx), fun x hx => ?_⟩
  obtain ⟨k1, k2, k3, k4, k5⟩ := h.kh x hx
  exact ⟨(hb.block _ (lt_of_heap k1)).trans k1, k2, k3, far _ (lt_of_heap k1), k5⟩
/-- one byte row of what was told is written -/
theorem DX.setBody (h : DX w0 w p l r m hs t ct ls) {g k : Nat} (ht : t = some ⟨g, 0, none⟩) {x : Lt} (hx : ls[k]? = some x) (s : ByteArray) :
    w.cell? ⟨g, k * 3 + 2, none⟩ = some (.string x.body) ∧ w.frozen? ⟨g, k * 3 + 2, none⟩ = false ∧ DX w0 (w.setCell ⟨g, k * 3 + 2, none⟩ (.string s)) p l r m hs t ct (ls.set k ⟨x.fr, x.to, s⟩) := by
  obtain ⟨a, b, h⟩ := h
  subst ht
  rcases h.rt with ⟨h1, _⟩ | ⟨g', cur, h1, h2, h3, h4, h5, h6⟩
  · cases h1
  · injection h1 with h1
    injection h1 with h1
    subst h1
    have hk : k < ls.length := (List.getElem?_eq_some_iff.1 hx).1
    have hcell := (h.rt.rd.at hx)
    obtain ⟨g2, o2, e2, _, _, _, c3⟩ := hcell
    injection e2 with e2
    injection e2 with e3 e4
    subst e3 e4
    have hb : But (rb (some (⟨g, 0, none⟩ : Addr))) w (w.setCell ⟨g, k * 3 + 2, none⟩ (.string s)) := (But.refl _ _).set _ (.inl (by simp [rb]))
    have hb' := h.rn.be.trans (hb.to_below (fun y hy => h.ft.rb y hy) h.rn.be.size)
    refine ⟨by rw [← c3]; simp, by simp [World.frozen?, h2], a, b, ⟨h.rn.at_.keep hb h.d2.symm, h.rn.op, h.rn.oa, hb'⟩, ⟨h.rr.at_.keep hb h.d3.symm, h.rr.op, h.rr.ob, hb'⟩, ?_, h.ft, h.d1, h.d2, h.d3, fun y hy => ?_⟩
    · refine .inr ⟨g, cur.setIfInBounds (k * 3 + 2) (.string s), rfl, ?_, by simpa using h3, h4, by simpa using h5, ?_⟩
      · simp only [World.setCell, Array.getElem?_modify, if_pos]
        simp [h2]
      · rw [List.length_set, Array.toList_setIfInBounds]
        apply List.ext_getElem?
        intro j
        rw [List.getElem?_take]
        by_cases hj : j < ls.length * 3
        · rw [if_pos hj]
          have hq : j / 3 < ls.length := by omega
          obtain ⟨y, hy⟩ : ∃ y, ls[j / 3]? = some y := ⟨_, List.getElem?_eq_getElem hq⟩
          obtain ⟨y0, y1, y2⟩ := ltrs_get hy
          have hold : (ltrs ls)[j]? = cur.toList[j]? := by rw [← h6, List.getElem?_take, if_pos hj]
          by_cases hjk : j = k * 3 + 2
          · subst hjk
            have hs' : (ls.set k ⟨x.fr, x.to, s⟩)[k]? = some ⟨x.fr, x.to, s⟩ := by rw [List.getElem?_set_self hk]
            rw [(ltrs_get hs').2.2, List.getElem?_set_self (by simp; omega)]
          · rw [List.getElem?_set_ne (by omega), ← hold]
            by_cases hq2 : j / 3 = k
            · have hyx : y = x := by rw [hq2, hx] at hy; injection hy with hy; exact hy.symm
              have hs' : (ls.set k ⟨x.fr, x.to, s⟩)[k]? = some ⟨x.fr, x.to, s⟩ := by rw [List.getElem?_set_self hk]
              obtain ⟨z0, z1, z2⟩ := ltrs_get hs'
              obtain ⟨x0, x1, x2⟩ := ltrs_get hx
              have h3 : j = k * 3 ∨ j = k * 3 + 1 := by omega
              rcases h3 with h3 | h3 <;> subst h3
              · rw [x0, z0]
              · rw [x1, z1]
            · have hs' : (ls.set k ⟨x.fr, x.to, s⟩)[j / 3]? = some y := by rw [List.getElem?_set_ne (by omega)]; exact hy
              obtain ⟨z0, z1, z2⟩ := ltrs_get hs'
              have h3 : j = j / 3 * 3 ∨ j = j / 3 * 3 + 1 ∨ j = j / 3 * 3 + 2 := by omega
              rcases h3 with h3 | h3 | h3 <;> rw [h3]
              · rw [y0, z0]
              · rw [y1, z1]
              · rw [y2, z2]
        · rw [if_neg hj, List.getElem?_eq_none (by rw [ltrs_length, List.length_set]; omega)]
    · obtain ⟨k1, k2, k3, k4, k5⟩ := h.kh y hy
      exact ⟨(hb.block _ (lt_of_heap k1) k4).trans k1, k2, k3, k4, k5⟩
end
/-- both anew -/
theorem DX.new {w0 w : World} {p : Nat} (h : Rn w0 w p none []) : DX w0 (w.alloc (.cells #[.slice none 0 0] tR)) p [] w.heap.size [] [] none 0 [] := by
  have hb := (Below.refl w.heap.size w).alloc (Nat.le_refl _) (.cells #[.slice none 0 0] tR)
  have hp := h.at_.lt
  refine ⟨none, none, h.below hb, ⟨⟨0, heap_alloc_new w _, OwnL.nil _, by simp⟩, h.be.size, Fresh.none _, h.be.trans (hb.mono h.be.size)⟩, OwnL.nil _, Fresh.none _, ?_, Dis.none _, Dis.none _, fun x hx => by cases hx⟩
  intro x hx hm
  simp [blk] at hx hm
  omega
end Go.Proofs.Ythbgabmmfokioaa.Nt
