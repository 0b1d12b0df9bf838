/-
  Both stores at once, and both devices alone: what stays while one side is written; where both are opened.
-/
import Derived.Test.YtofhijnfbilieaaGreatRsTake2
import Derived.Test.YtofhijnfbilieaaGreatJRB
import Derived.Test.YtofhijnfbilieaaGreatRsAct
import Derived.Test.YtofhijnfbilieaaGreatDRef7
namespace Go.Proofs.YtofhijnfbilieaaGreat.Bk
open Go.RowKit
open Ml (Mg may msgV)
set_option linter.unusedVariables false
set_option linter.unusedSimpArgs false
set_option maxRecDepth 20000

/-- the device alone does something -/
theorem ST.dev' {w w' : World} {dB sB mB n tB bl f : Nat} {d d' : M.Dv} {K : Nat → Nat} {Q : Cs} (h : ST w dB sB mB n d tB bl f K Q) (hd : DevAt w' dB sB mB n d') {l : List Nat} (hb : But l w w') (hl : ∀ y ∈ l, y = dB ∨ y = sB ∨ y = mB) : ST w' dB sB mB n d' tB bl f K Q where
  dev := hd
  at_ := h.at_.but hb (fun hm => by have := hl _ hm; have := h.td; omega)
  cel := fun k hk => (h.cel k hk).but hb (fun hm => by have := hl _ hm; have := h.kd k hk; omega)
  kd := h.kd
  ka := h.ka
  td := h.td
  tk := h.tk
  o1 := h.o1
  gn := h.gn
  tx := h.tx
  bl1 := h.bl1
  fit := h.fit

/-- both devices -/
structure ND (w0 wx : World) (dB sB mB rB LB n : Nat) (d d2 : M.Dv) : Prop where
  l : DevAt wx dB sB mB n d
  r : RefAt wx rB LB n d2
  be : Below w0.heap.size w0 wx
  gl : w0.heap.size ≤ dB ∧ w0.heap.size ≤ sB ∧ w0.heap.size ≤ mB
  gr : w0.heap.size ≤ rB ∧ w0.heap.size ≤ LB
  ap : (dB ≠ rB ∧ dB ≠ LB) ∧ (sB ≠ rB ∧ sB ≠ LB) ∧ (mB ≠ rB ∧ mB ≠ LB)
section
variable {w0 wx wy : World} {dB sB mB rB LB n : Nat} {d d2 d' : M.Dv}
theorem ND.left (h : ND w0 wx dB sB mB rB LB n d d2) (hd : DevAt wy dB sB mB n d') {l : List Nat} (hb : But l wx wy) (hl : ∀ y ∈ l, y = dB ∨ y = sB ∨ y = mB) : ND w0 wy dB sB mB rB LB n d' d2 :=
  ⟨hd, h.r.but hb (fun hm => by have := hl _ hm; have := h.ap; omega) (fun hm => by have := hl _ hm; have := h.ap; omega), h.be.trans (hb.to_below (fun y hy => by have := hl _ hy; have := h.gl; omega) h.be.size), h.gl, h.gr, h.ap⟩
theorem ND.right (h : ND w0 wx dB sB mB rB LB n d d2) (hd : RefAt wy rB LB n d') {l : List Nat} (hb : But l wx wy) (hl : ∀ y ∈ l, y = rB ∨ y = LB) : ND w0 wy dB sB mB rB LB n d d' :=
  ⟨h.l.but hb (fun hm => by have := hl _ hm; have := h.ap; omega) (fun hm => by have := hl _ hm; have := h.ap; omega) (fun hm => by have := hl _ hm; have := h.ap; omega), hd, h.be.trans (hb.to_below (fun y hy => by have := hl _ hy; have := h.gr; omega) h.be.size), h.gl, h.gr, h.ap⟩
theorem ND.fresh (h : ND w0 wx dB sB mB rB LB n d d2) (hb : Below wx.heap.size wx wy) : ND w0 wy dB sB mB rB LB n d d2 :=
  h.left (h.l.but (But.of_below hb) (by simp) (by simp) (by simp)) (But.of_below hb) (by simp)
theorem ND.lt (h : ND w0 wx dB sB mB rB LB n d d2) : dB < wx.heap.size ∧ sB < wx.heap.size ∧ mB < wx.heap.size ∧ rB < wx.heap.size ∧ LB < wx.heap.size := ⟨h.l.ltD, h.l.lt, h.l.pend.lt, h.r.ltR, h.r.lt⟩
end

/-- the blocks of the program's side -/
def lefts (dB sB mB tB bl : Nat) (K : Nat → Nat) : List Nat := tB :: ours dB sB mB bl K
theorem mem_lefts {dB sB mB tB bl : Nat} {K : Nat → Nat} {x : Nat} : x ∈ lefts dB sB mB tB bl K ↔ x = tB ∨ x = dB ∨ x = sB ∨ x = mB ∨ ∃ k, k ≤ bl ∧ x = K k := by
  unfold lefts
  rw [List.mem_cons, mem_ours]

/-- both stores -/
structure MG (w0 wx : World) (dB sB mB rB LB n bl f tB : Nat) (K : Nat → Nat) (tR bB cap : Nat) (Kr : Nat → Nat) (d : M.Dv) (Q : Cs) (d2 : M.Dv) (Q2 : Cs) : Prop where
  l : ST wx dB sB mB n d tB bl f K Q
  r : RT wx rB LB n d2 tR bB cap bl f Kr Q2
  be : Below w0.heap.size w0 wx
  gl : ∀ y ∈ lefts dB sB mB tB bl K, w0.heap.size ≤ y
  gr : ∀ y ∈ theirs rB LB tR bB bl Kr, w0.heap.size ≤ y
  ap : ∀ y ∈ lefts dB sB mB tB bl K, y ∉ theirs rB LB tR bB bl Kr
section
variable {w0 wx wy wz : World} {dB sB mB rB LB n bl f tB : Nat} {K : Nat → Nat} {tR bB cap : Nat} {Kr : Nat → Nat} {d d' d2 : M.Dv} {Q Q' Q2 : Cs}
theorem MG.left (h : MG w0 wx dB sB mB rB LB n bl f tB K tR bB cap Kr d Q d2 Q2) (hl : ST wy dB sB mB n d' tB bl f K Q') {l : List Nat} (hb : But l wx wy) (hs : ∀ y ∈ l, y ∈ lefts dB sB mB tB bl K) : MG w0 wy dB sB mB rB LB n bl f tB K tR bB cap Kr d' Q' d2 Q2 :=
  ⟨hl, h.r.but hb (fun x hx => h.ap x (hs x hx)), h.be.trans (hb.to_below (fun y hy => h.gl y (hs y hy)) h.be.size), h.gl, h.gr, h.ap⟩
theorem MG.right (h : MG w0 wx dB sB mB rB LB n bl f tB K tR bB cap Kr d Q d2 Q2) (hr : RT wy rB LB n d' tR bB cap bl f Kr Q') {l : List Nat} (hb : But l wx wy) (hs : ∀ y ∈ l, y ∈ theirs rB LB tR bB bl Kr) : MG w0 wy dB sB mB rB LB n bl f tB K tR bB cap Kr d Q d' Q' :=
  ⟨h.l.but hb (fun x hx => ⟨fun e => h.ap x (mem_lefts.2 (.inl e)) (hs x hx), fun hm => h.ap x (List.mem_cons_of_mem _ hm) (hs x hx)⟩), hr, h.be.trans (hb.to_below (fun y hy => h.gr y (hs y hy)) h.be.size), h.gl, h.gr, h.ap⟩
theorem MG.fresh (h : MG w0 wx dB sB mB rB LB n bl f tB K tR bB cap Kr d Q d2 Q2) (hb : Below wx.heap.size wx wy) : MG w0 wy dB sB mB rB LB n bl f tB K tR bB cap Kr d Q d2 Q2 :=
  h.left (h.l.below hb) (But.of_below hb) (by simp)
theorem MG.llt (h : MG w0 wx dB sB mB rB LB n bl f tB K tR bB cap Kr d Q d2 Q2) : ∀ y ∈ lefts dB sB mB tB bl K, y < wx.heap.size := fun y hy => by
  rcases List.mem_cons.1 hy with rfl | hy
  · exact h.l.ours_lt.1
  · exact h.l.ours_lt.2 y hy
theorem MG.rlt (h : MG w0 wx dB sB mB rB LB n bl f tB K tR bB cap Kr d Q d2 Q2) : ∀ y ∈ theirs rB LB tR bB bl Kr, y < wx.heap.size := h.r.lts
theorem MG.dev (h : MG w0 wx dB sB mB rB LB n bl f tB K tR bB cap Kr d Q d2 Q2) (hd : DevAt wy dB sB mB n d') {l : List Nat} (hb : But l wx wy) (hl : ∀ y ∈ l, y = dB ∨ y = sB ∨ y = mB) : MG w0 wy dB sB mB rB LB n bl f tB K tR bB cap Kr d' Q d2 Q2 :=
  h.left (h.l.dev' hd hb hl) hb (fun y hy => mem_lefts.2 (by rcases hl y hy with h | h | h <;> simp [h]))
theorem MG.ref (h : MG w0 wx dB sB mB rB LB n bl f tB K tR bB cap Kr d Q d2 Q2) (hd : RefAt wy rB LB n d') {l : List Nat} (hb : But l wx wy) (hl : ∀ y ∈ l, y = rB ∨ y = LB) : MG w0 wy dB sB mB rB LB n bl f tB K tR bB cap Kr d Q d' Q2 :=
  h.right (h.r.dev hd hb hl) hb (fun y hy => mem_theirs.2 (by rcases hl y hy with h | h <;> simp [h]))
theorem MG.nd (h : MG w0 wx dB sB mB rB LB n bl f tB K tR bB cap Kr d Q d2 Q2) : ND w0 wx dB sB mB rB LB n d d2 := by
  have l1 : dB ∈ lefts dB sB mB tB bl K := mem_lefts.2 (.inr (.inl rfl))
  have l2 : sB ∈ lefts dB sB mB tB bl K := mem_lefts.2 (.inr (.inr (.inl rfl)))
  have l3 : mB ∈ lefts dB sB mB tB bl K := mem_lefts.2 (.inr (.inr (.inr (.inl rfl))))
  have r1 : rB ∈ theirs rB LB tR bB bl Kr := mem_theirs.2 (.inl rfl)
  have r2 : LB ∈ theirs rB LB tR bB bl Kr := mem_theirs.2 (.inr (.inl rfl))
  have ne : ∀ {x y}, x ∈ lefts dB sB mB tB bl K → y ∈ theirs rB LB tR bB bl Kr → x ≠ y := fun hx hy e => h.ap _ hx (e ▸ hy)
  exact ⟨h.l.dev, h.r.rc.rf, h.be, ⟨h.gl _ l1, h.gl _ l2, h.gl _ l3⟩, ⟨h.gr _ r1, h.gr _ r2⟩, ⟨ne l1 r1, ne l1 r2⟩, ⟨ne l2 r1, ne l2 r2⟩, ⟨ne l3 r1, ne l3 r2⟩⟩
/-- both are opened, one behind the other -/
theorem ND.opened (h : ND w0 wx dB sB mB rB LB n d d2) (hb : Below wx.heap.size wx wy) (hl : ST wy dB sB mB n d tB bl f K Q) (h1 : wx.heap.size ≤ tB) (h2 : ∀ k, k ≤ bl → wx.heap.size ≤ K k)
    (hb2 : Below wy.heap.size wy wz) (hr : RT wz rB LB n d2 tR bB cap bl f Kr Q2) (h3 : wy.heap.size ≤ tR) (h4 : wy.heap.size ≤ bB) (h5 : ∀ k, k ≤ bl → wy.heap.size ≤ Kr k) : MG w0 wz dB sB mB rB LB n bl f tB K tR bB cap Kr d Q d2 Q2 := by
  have hs0 := h.be.size
  have hs1 := hb.size
  obtain ⟨g1, g2, g3⟩ := h.gl
  obtain ⟨g4, g5⟩ := h.gr
  obtain ⟨q1, q2, q3, q4, q5⟩ := h.lt
  obtain ⟨⟨a1, a2⟩, ⟨a3, a4⟩, a5, a6⟩ := h.ap
  have o1 := hl.ours_lt.1
  have o2 : ∀ k, k ≤ bl → K k < wy.heap.size := fun k hk => hl.ours_lt.2 _ (mem_ours.2 (.inr (.inr (.inr ⟨k, hk, rfl⟩))))
  refine ⟨hl.below hb2, hr, (h.be.trans (hb.mono hs0)).trans (hb2.mono (by omega)), fun y hy => ?_, fun y hy => ?_, fun y hy hm => ?_⟩
  · rcases mem_lefts.1 hy with rfl | rfl | rfl | rfl | ⟨k, hk, rfl⟩
    · omega
    · exact g1
    · exact g2
    · exact g3
    · have := h2 k hk; omega
  · rcases mem_theirs.1 hy with rfl | rfl | rfl | rfl | ⟨k, hk, rfl⟩
    · exact g4
    · exact g5
    · omega
    · omega
    · have := h5 k hk; omega
  · rcases mem_theirs.1 hm with e | e | e | e | ⟨j, hj, e⟩ <;> rcases mem_lefts.1 hy with e2 | e2 | e2 | e2 | ⟨k, hk, e2⟩
    all_goals first
      | omega
      | (have := h2 k hk; omega)
      | (have := h5 j hj; omega)
      | (have := h5 j hj; have := o2 k hk; omega)
      | (have := o2 k hk; omega)
end
end Go.Proofs.YtofhijnfbilieaaGreat.Bk
