/-
  A sender, three rows of the call's own, a version, and blocks that are held: whose is each block.
-/
import Derived.Test.YtcnmkojlledipaaMrTwo
namespace Go.Proofs.Ytcnmkojlledipaa.Mr
open Go.RowKit
set_option linter.unusedVariables false
set_option linter.unusedSimpArgs false
set_option maxRecDepth 20000

/-- the block of a row -/
def rb : Option Addr → List Nat
  | none => []
  | some x => [x.block]
/-- the blocks of F are i's -/
def Lab (ow : Nat → Nat) (i : Nat) (w0 w : World) (F : List Nat) : Prop := ∀ x ∈ F, ow x = i ∧ w0.heap.size ≤ x ∧ x < w.heap.size
/-- what is new is i's -/
def relab (ow : Nat → Nat) (w : World) (i : Nat) : Nat → Nat := fun x => if w.heap.size ≤ x then i else ow x
theorem Lab.other {ow : Nat → Nat} {i j : Nat} {w0 w w' : World} {F : List Nat} (h : Lab ow j w0 w F) (hs : w.heap.size ≤ w'.heap.size) : Lab (relab ow w i) j w0 w' F := by
  intro x hx
  obtain ⟨h1, h2, h3⟩ := h x hx
  exact ⟨by unfold relab; rw [if_neg (by omega)]; exact h1, h2, by omega⟩
theorem Lab.mine {ow : Nat → Nat} {i : Nat} {w0 w w' : World} {F F' : List Nat} (h : Lab ow i w0 w F) (hn : ∀ x ∈ F', x ∈ F ∨ w.heap.size ≤ x) (hl : ∀ x ∈ F', x < w'.heap.size) (h0 : w0.heap.size ≤ w.heap.size) : Lab (relab ow w i) i w0 w' F' := by
  intro x hx
  have hxl := hl x hx
  unfold relab
  by_cases hw : w.heap.size ≤ x
  · exact ⟨if_pos hw, by omega, hxl⟩
  · rcases hn x hx with g | g
    · obtain ⟨h1, h2, h3⟩ := h x g
      exact ⟨by rw [if_neg hw]; exact h1, h2, hxl⟩
    · omega
theorem Lab.dis {ow : Nat → Nat} {i j : Nat} {w0 w : World} {F G : List Nat} (h : Lab ow i w0 w F) (k : Lab ow j w0 w G) (hij : i ≠ j) : Dis F G := fun x hx hm => hij ((h x hx).1.symm.trans (k x hm).1)
theorem Lab.grow {ow : Nat → Nat} {i : Nat} {w0 w w' : World} {F : List Nat} (h : Lab ow i w0 w F) (hs : w.heap.size ≤ w'.heap.size) : Lab ow i w0 w' F := fun x hx => ⟨(h x hx).1, (h x hx).2.1, by have := (h x hx).2.2; omega⟩

theorem OwnI.lts {w : World} {s : Option Addr} {c : Nat} {l : List It} (h : OwnI w s c l) : ∀ x ∈ rb s, x < w.heap.size := by
  intro x hx
  rcases h with ⟨rfl, _⟩ | ⟨g, off, cur, rfl, h1, _⟩
  · cases hx
  · simp [rb] at hx; subst hx; exact lt_of_heap h1
theorem OwnI.keep {w w' : World} {s : Option Addr} {c : Nat} {l : List It} (h : OwnI w s c l) {M : List Nat} (hb : But M w w') (hd : Dis M (rb s)) : OwnI w' s c l := by
  rcases h with h | ⟨g, off, cur, rfl, h1, h2⟩
  · exact .inl h
  · exact .inr ⟨g, off, cur, rfl, by rw [hb.block g (lt_of_heap h1) (fun hm => hd g hm (by simp [rb]))]; exact h1, h2⟩
theorem Anew.rb {w : World} {a a' : Option Addr} (h : Anew w a a') : ∀ x ∈ Mr.rb a', x ∈ Mr.rb a ∨ w.heap.size ≤ x := by
  rcases h with rfl | ⟨g, rfl, hg⟩
  · exact fun x hx => .inl hx
  · intro x hx; simp [Mr.rb] at hx; subst hx; exact .inr hg
theorem own_rb {s : Option Addr} {n c k : Nat} (h : (Value.slice s n c).ownBlock = some k) : k ∈ rb s := by
  cases s with
  | none => simp [Value.ownBlock] at h
  | some q => simp [Value.ownBlock] at h; simp [rb, h]
theorem grown_but {w w' : World} {s : Option Addr} {n c : Nat} (g : w.grownBy w' (Value.slice s n c).ownBlock) : But (rb s) w w' := (But.refl _ _).grown g fun k hk => .inl (own_rb hk)

/-- all of it -/
structure QS (ow : Nat → Nat) (w0 w : World) (p : Nat) (A : Int) (a : Option Addr) (l : List It) (ta : Option Addr) (tc : Nat) (tl : List It) (da : Option Addr) (dc : Nat) (dl : List It) (oa : Option Addr) (oc : Nat) (ol : List It) (G : Nat) (E ls : Int) (H : List (Nat × Obj)) : Prop where
  s : SAt w p A a l
  t : OwnI w ta tc tl
  d : OwnI w da dc dl
  o : OwnI w oa oc ol
  g : w.heap[G]? = some (.cells #[.int .i64 E, .int .i64 ls] 44 (0, 0))
  h : ∀ e ∈ H, w.heap[e.1]? = some e.2
  fs : Lab ow 1 w0 w [p, blk p a]
  ft : Lab ow 2 w0 w (rb ta)
  fd : Lab ow 3 w0 w (rb da)
  fo : Lab ow 4 w0 w (rb oa)
  fg : Lab ow 5 w0 w [G]
  fh : Lab ow 6 w0 w (H.map Prod.fst)
  be : Below w0.heap.size w0 w
def Q (w0 w : World) (p : Nat) (A : Int) (l : List It) (ta : Option Addr) (tc : Nat) (tl : List It) (da : Option Addr) (dc : Nat) (dl : List It) (oa : Option Addr) (oc : Nat) (ol : List It) (G : Nat) (E ls : Int) (H : List (Nat × Obj)) : Prop := ∃ ow a, QS ow w0 w p A a l ta tc tl da dc dl oa oc ol G E ls H
section
variable {w0 w w' : World} {p G tc dc oc tc' dc' oc' n : Nat} {A A' E ls ls' : Int} {a ta da oa ta' da' oa' : Option Addr} {l l' tl dl ol tl' dl' ol' : List It} {H : List (Nat × Obj)} {ow : Nat → Nat}
theorem held_keep (hh : ∀ e ∈ H, w.heap[e.1]? = some e.2) (fh : Lab ow 6 w0 w (H.map Prod.fst)) {M : List Nat} {i : Nat} (hb : But M w w') (fm : Lab ow i w0 w M) (hi : i ≠ 6) : ∀ e ∈ H, w'.heap[e.1]? = some e.2 := fun e he =>
  (hb.block _ (lt_of_heap (hh e he)) (fun hm => hi ((fm _ hm).1.symm.trans (fh e.1 (List.mem_map.2 ⟨e, he, rfl⟩)).1))).trans (hh e he)
theorem g_keep {b : Nat} {x : Obj} (hg : w.heap[b]? = some x) (fg : Lab ow 5 w0 w [b]) {M : List Nat} {i : Nat} (hb : But M w w') (fm : Lab ow i w0 w M) (hi : i ≠ 5) : w'.heap[b]? = some x :=
  (hb.block _ (lt_of_heap hg) (fun hm => hi ((fm _ hm).1.symm.trans (fg b (by simp)).1))).trans hg
theorem be_keep (be : Below w0.heap.size w0 w) {M : List Nat} {i : Nat} (hb : But M w w') (fm : Lab ow i w0 w M) : Below w0.heap.size w0 w' := be.trans (hb.to_below (fun x hx => (fm x hx).2.1) be.size)

theorem Q.sender (h : QS ow w0 w p A a l ta tc tl da dc dl oa oc ol G E ls H) {a' : Option Addr} (k1 : SAt w' p A' a' l') (k2 : Moved w p a a') (k3 : But [p, blk p a] w w') : Q w0 w' p A' l' ta tc tl da dc dl oa oc ol G E ls H :=
  ⟨relab ow w 1, a', k1, h.t.keep k3 (h.fs.dis h.ft (by decide)), h.d.keep k3 (h.fs.dis h.fd (by decide)), h.o.keep k3 (h.fs.dis h.fo (by decide)), g_keep h.g h.fg k3 h.fs (by decide), held_keep h.h h.fh k3 h.fs (by decide),
    h.fs.mine k2.both k1.lts h.be.size, h.ft.other k3.size, h.fd.other k3.size, h.fo.other k3.size, h.fg.other k3.size, h.fh.other k3.size, be_keep h.be k3 h.fs⟩
theorem Q.growT (h : Q w0 w p A l ta tc tl da dc dl oa oc ol G E ls H) (o : OwnI w' ta' tc' tl') (g : w.grownBy w' (Value.slice ta n tc).ownBlock) (an : Anew w ta ta') : Q w0 w' p A l ta' tc' tl' da dc dl oa oc ol G E ls H := by
  obtain ⟨ow, a, h⟩ := h
  have k3 := grown_but g
  exact ⟨relab ow w 2, a, h.s.keep k3 (h.ft.dis h.fs (by decide)), o, h.d.keep k3 (h.ft.dis h.fd (by decide)), h.o.keep k3 (h.ft.dis h.fo (by decide)), g_keep h.g h.fg k3 h.ft (by decide), held_keep h.h h.fh k3 h.ft (by decide),
    h.fs.other k3.size, h.ft.mine an.rb o.lts h.be.size, h.fd.other k3.size, h.fo.other k3.size, h.fg.other k3.size, h.fh.other k3.size, be_keep h.be k3 h.ft⟩
theorem Q.growD (h : Q w0 w p A l ta tc tl da dc dl oa oc ol G E ls H) (o : OwnI w' da' dc' dl') (g : w.grownBy w' (Value.slice da n dc).ownBlock) (an : Anew w da da') : Q w0 w' p A l ta tc tl da' dc' dl' oa oc ol G E ls H := by
  obtain ⟨ow, a, h⟩ := h
  have k3 := grown_but g
  exact ⟨relab ow w 3, a, h.s.keep k3 (h.fd.dis h.fs (by decide)), h.t.keep k3 (h.fd.dis h.ft (by decide)), o, h.o.keep k3 (h.fd.dis h.fo (by decide)), g_keep h.g h.fg k3 h.fd (by decide), held_keep h.h h.fh k3 h.fd (by decide),
    h.fs.other k3.size, h.ft.other k3.size, h.fd.mine an.rb o.lts h.be.size, h.fo.other k3.size, h.fg.other k3.size, h.fh.other k3.size, be_keep h.be k3 h.fd⟩
theorem Q.growO (h : Q w0 w p A l ta tc tl da dc dl oa oc ol G E ls H) (o : OwnI w' oa' oc' ol') (g : w.grownBy w' (Value.slice oa n oc).ownBlock) (an : Anew w oa oa') : Q w0 w' p A l ta tc tl da dc dl oa' oc' ol' G E ls H := by
  obtain ⟨ow, a, h⟩ := h
  have k3 := grown_but g
  exact ⟨relab ow w 4, a, h.s.keep k3 (h.fo.dis h.fs (by decide)), h.t.keep k3 (h.fo.dis h.ft (by decide)), h.d.keep k3 (h.fo.dis h.fd (by decide)), o, g_keep h.g h.fg k3 h.fo (by decide), held_keep h.h h.fh k3 h.fo (by decide),
    h.fs.other k3.size, h.ft.other k3.size, h.fd.other k3.size, h.fo.mine an.rb o.lts h.be.size, h.fg.other k3.size, h.fh.other k3.size, be_keep h.be k3 h.fo⟩
theorem Q.below (h : Q w0 w p A l ta tc tl da dc dl oa oc ol G E ls H) (hb : Below w.heap.size w w') : Q w0 w' p A l ta tc tl da dc dl oa oc ol G E ls H := by
  obtain ⟨ow, a, h⟩ := h
  exact ⟨ow, a, h.s.below hb (Nat.le_refl _), h.t.below hb (Nat.le_refl _), h.d.below hb (Nat.le_refl _), h.o.below hb (Nat.le_refl _), (hb.block _ (lt_of_heap h.g)).trans h.g, fun e he => (hb.block _ (lt_of_heap (h.h e he))).trans (h.h e he),
    h.fs.grow hb.size, h.ft.grow hb.size, h.fd.grow hb.size, h.fo.grow hb.size, h.fg.grow hb.size, h.fh.grow hb.size, h.be.trans (hb.mono h.be.size)⟩
theorem Q.setG (h : Q w0 w p A l ta tc tl da dc dl oa oc ol G E ls H) (x : Int) : Q w0 (w.setCell ⟨G, 1, none⟩ (.int .i64 x)) p A l ta tc tl da dc dl oa oc ol G E x H := by
  obtain ⟨ow, a, h⟩ := h
  have k3 : But [G] w (w.setCell ⟨G, 1, none⟩ (.int .i64 x)) := (But.refl [G] w).set _ (.inl (by simp))
  exact ⟨ow, a, h.s.keep k3 (h.fg.dis h.fs (by decide)), h.t.keep k3 (h.fg.dis h.ft (by decide)), h.d.keep k3 (h.fg.dis h.fd (by decide)), h.o.keep k3 (h.fg.dis h.fo (by decide)),
    by simp [World.setCell, Array.getElem?_modify, h.g], held_keep h.h h.fh k3 h.fg (by decide),
    h.fs.grow k3.size, h.ft.grow k3.size, h.fd.grow k3.size, h.fo.grow k3.size, h.fg.grow k3.size, h.fh.grow k3.size, be_keep h.be k3 h.fg⟩
theorem Q.hold (h : Q w0 w p A l ta tc tl da dc dl oa oc ol G E ls H) (hb : Below w.heap.size w w') {b : Nat} {x : Obj} (hg : w.heap.size ≤ b) (k : w'.heap[b]? = some x) : Q w0 w' p A l ta tc tl da dc dl oa oc ol G E ls ((b, x) :: H) := by
  obtain ⟨ow, a, h⟩ := h
  have hbl := lt_of_heap k
  refine ⟨relab ow w 6, a, h.s.below hb (Nat.le_refl _), h.t.below hb (Nat.le_refl _), h.d.below hb (Nat.le_refl _), h.o.below hb (Nat.le_refl _), (hb.block _ (lt_of_heap h.g)).trans h.g, fun e he => ?_,
    h.fs.other hb.size, h.ft.other hb.size, h.fd.other hb.size, h.fo.other hb.size, h.fg.other hb.size, ?_, h.be.trans (hb.mono h.be.size)⟩
  · rcases List.mem_cons.1 he with rfl | he
    · exact k
    · exact (hb.block _ (lt_of_heap (h.h e he))).trans (h.h e he)
  · refine h.fh.mine (fun x hx => ?_) (fun x hx => ?_) h.be.size
    · simp only [List.map_cons, List.mem_cons] at hx
      rcases hx with rfl | hx
      · exact .inr hg
      · exact .inl hx
    · simp only [List.map_cons, List.mem_cons] at hx
      rcases hx with rfl | hx
      · exact hbl
      · have := (h.fh x hx).2.2; have := hb.size; omega
theorem Q.free (h : Q w0 w p A l ta tc tl da dc dl oa oc ol G E ls H) {H' : List (Nat × Obj)} (hH : ∀ e ∈ H', e ∈ H) : Q w0 w p A l ta tc tl da dc dl oa oc ol G E ls H' := by
  obtain ⟨ow, a, h⟩ := h
  refine ⟨ow, a, h.s, h.t, h.d, h.o, h.g, fun e he => h.h e (hH e he), h.fs, h.ft, h.fd, h.fo, h.fg, fun x hx => ?_, h.be⟩
  obtain ⟨e, he, rfl⟩ := List.mem_map.1 hx
  exact h.fh _ (List.mem_map.2 ⟨e, hH e he, rfl⟩)
theorem Q.held (h : Q w0 w p A l ta tc tl da dc dl oa oc ol G E ls H) {b : Nat} {x : Obj} (hb : (b, x) ∈ H) : w.heap[b]? = some x := by obtain ⟨ow, a, h⟩ := h; exact h.h _ hb
/-- what is held first is another thing now -/
theorem Q.reHold {b : Nat} {x x' : Obj} (h : Q w0 w p A l ta tc tl da dc dl oa oc ol G E ls [(b, x)]) (hb : But [b] w w') (k : w'.heap[b]? = some x') : Q w0 w' p A l ta tc tl da dc dl oa oc ol G E ls [(b, x')] := by
  obtain ⟨ow, a, h⟩ := h
  have fb : Lab ow 6 w0 w [b] := h.fh
  exact ⟨ow, a, h.s.keep hb (fb.dis h.fs (by decide)), h.t.keep hb (fb.dis h.ft (by decide)), h.d.keep hb (fb.dis h.fd (by decide)), h.o.keep hb (fb.dis h.fo (by decide)), g_keep h.g h.fg hb fb (by decide), fun e he => by
      simp at he; subst he; exact k,
    h.fs.grow hb.size, h.ft.grow hb.size, h.fd.grow hb.size, h.fo.grow hb.size, h.fg.grow hb.size, fb.grow hb.size, be_keep h.be hb fb⟩
/-- a store into a block that is held alone -/
theorem Q.setX {b : Nat} {cs : Array Value} {ty : TypeId} (h : Q w0 w p A l ta tc tl da dc dl oa oc ol G E ls [(b, .cells cs ty (0, 0))]) (o : Nat) (v : Value) : Q w0 (w.setCell ⟨b, o, none⟩ v) p A l ta tc tl da dc dl oa oc ol G E ls [(b, .cells (cs.setIfInBounds o v) ty (0, 0))] := by
  refine h.reHold ((But.refl [b] w).set _ (.inl (by simp))) ?_
  have := h.held (List.mem_cons_self ..)
  simp only [World.setCell, Array.getElem?_modify, if_pos]
  simp [this]
theorem Q.beq (h : Q w0 w p A l ta tc tl da dc dl oa oc ol G E ls H) : Below w0.heap.size w0 w := by obtain ⟨ow, a, h⟩ := h; exact h.be
theorem Q.ver (h : Q w0 w p A l ta tc tl da dc dl oa oc ol G E ls H) : w.cell? ⟨G, 0, none⟩ = some (.int .i64 E) ∧ w.cell? ⟨G, 1, none⟩ = some (.int .i64 ls) ∧ w.frozen? ⟨G, 1, none⟩ = false := by
  obtain ⟨ow, a, h⟩ := h
  exact ⟨by simp [World.cell?, h.g], by simp [World.cell?, h.g], by simp [World.frozen?, h.g]⟩
theorem Q.t (h : Q w0 w p A l ta tc tl da dc dl oa oc ol G E ls H) : OwnI w ta tc tl := by obtain ⟨ow, a, h⟩ := h; exact h.t
theorem Q.d (h : Q w0 w p A l ta tc tl da dc dl oa oc ol G E ls H) : OwnI w da dc dl := by obtain ⟨ow, a, h⟩ := h; exact h.d
theorem Q.o (h : Q w0 w p A l ta tc tl da dc dl oa oc ol G E ls H) : OwnI w oa oc ol := by obtain ⟨ow, a, h⟩ := h; exact h.o
theorem Q.add (h : Q w0 w p A l ta tc tl da dc dl oa oc ol G E ls H) (x : It) (hl : l.length < 100000) : Calls Try.prog 12 #[.pointer (some ⟨p, 0, none⟩), itV x] w fun e w' => e = .returned (.tuple #[.int .i64 (addN A l), .int .i64 (addE A l)]) ∧ Q w0 w' p A (addL A l x) ta tc tl da dc dl oa oc ol G E ls H := by
  obtain ⟨ow, a, h⟩ := h
  exact (add_any h.s x hl).mono fun e w' ⟨k1, a', k2, k3, k4⟩ => ⟨k1, Q.sender h k2 (k3.blk p) k4⟩
theorem Q.ack (h : Q w0 w p A l ta tc tl da dc dl oa oc ol G E ls H) (q : Int) : Calls Try.prog 14 #[.pointer (some ⟨p, 0, none⟩), .int .i64 q] w fun e w' => e = .returned (.bool (ackB A l q)) ∧ Q w0 w' p (ackA A l q) (ackL A l q) ta tc tl da dc dl oa oc ol G E ls H := by
  obtain ⟨ow, a, h⟩ := h
  exact (ack_any h.s q).mono fun e w' ⟨k1, a', k2, k3, k4⟩ => ⟨k1, Q.sender h k2 (.inl k3) k4⟩
theorem Q.left (h : Q w0 w p A l ta tc tl da dc dl oa oc ol G E ls H) (hl : l.length ≤ 100000) : Calls Try.prog 16 #[.pointer (some ⟨p, 0, none⟩)] w fun e w' => ∃ a' cap', e = .returned (.slice a' l.length cap') ∧ OwnI w' a' cap' l ∧ Fresh w.heap.size a' ∧ Below w.heap.size w w' := by
  obtain ⟨ow, a, h⟩ := h
  exact left_any h.s hl
theorem Q.last (h : Q w0 w p A l ta tc tl da dc dl oa oc ol G E ls H) : Calls Try.prog 19 #[.pointer (some ⟨p, 0, none⟩)] w fun e w' => e = .returned (.int .i64 (A + (l.length : Int))) ∧ ∃ q, w' = w.drewN q := by
  obtain ⟨ow, a, h⟩ := h
  exact last_any h.s
theorem Q.acked (h : Q w0 w p A l ta tc tl da dc dl oa oc ol G E ls H) : Calls Try.prog 21 #[.pointer (some ⟨p, 0, none⟩)] w fun e w' => e = .returned (.int .i64 A) ∧ w = w' := by
  obtain ⟨ow, a, h⟩ := h
  exact acked_any h.s
end
/-- a row that was told, held -/
theorem Q.keepRow {w0 w w' : World} {p G tc dc oc c6 : Nat} {A E ls : Int} {ta da oa a6 : Option Addr} {l tl dl ol l6 : List It} (h : Q w0 w p A l ta tc tl da dc dl oa oc ol G E ls []) (hb : Below w.heap.size w w') (o : OwnI w' a6 c6 l6) (f : Fresh w.heap.size a6) :
    ∃ H6, Q w0 w' p A l ta tc tl da dc dl oa oc ol G E ls H6 ∧ ∀ W : World, (∀ e ∈ H6, W.heap[e.1]? = some e.2) → OwnI W a6 c6 l6 := by
  rcases o with o | ⟨g, off, cur, rfl, h1, h2⟩
  · exact ⟨[], h.below hb, fun W _ => .inl o⟩
  · exact ⟨[(g, _)], h.hold hb (f _ rfl) h1, fun W hW => .inr ⟨g, off, cur, rfl, hW _ (List.mem_cons_self ..), h2⟩⟩
theorem Q.heldAll {w0 w : World} {p G tc dc oc : Nat} {A E ls : Int} {ta da oa : Option Addr} {l tl dl ol : List It} {H : List (Nat × Obj)} (h : Q w0 w p A l ta tc tl da dc dl oa oc ol G E ls H) : ∀ e ∈ H, w.heap[e.1]? = some e.2 := by obtain ⟨ow, a, h⟩ := h; exact h.h
/-- all of it at first -/
theorem Q.first {w0 w w' : World} {p : Nat} {A : Int} {l : List It} (h : Rx w0 w p A l) (hb : Below w.heap.size w w') {G g1 g2 g3 : Nat} {E ls : Int} (hG : w.heap.size ≤ G) (h1 : G < g1) (h2 : g1 < g2) (h3 : g2 < g3)
    (kG : w'.heap[G]? = some (.cells #[.int .i64 E, .int .i64 ls] 44 (0, 0))) (k1 : w'.heap[g1]? = some (.cells #[] 29 (0, 0))) (k2 : w'.heap[g2]? = some (.cells #[] 29 (0, 0))) (k3 : w'.heap[g3]? = some (.cells #[] 29 (0, 0))) :
    Q w0 w' p A l (some ⟨g2, 0, none⟩) 0 [] (some ⟨g1, 0, none⟩) 0 [] (some ⟨g3, 0, none⟩) 0 [] G E ls [] := by
  obtain ⟨a, h⟩ := h
  have hs := h.be.size
  have l1 := lt_of_heap k1
  have l2 := lt_of_heap k2
  have l3 := lt_of_heap k3
  refine ⟨fun x => if x < w.heap.size then 1 else if x = g2 then 2 else if x = g1 then 3 else if x = g3 then 4 else 5, a, h.at_.below hb (Nat.le_refl _), own_at k2, own_at k1, own_at k3, kG, by simp, ?_, ?_, ?_, ?_, ?_, ?_, h.be.trans (hb.mono h.be.size)⟩
  · intro x hx
    have hlt := h.at_.lts x hx
    have := hb.size
    refine ⟨if_pos hlt, ?_, by omega⟩
    simp at hx
    rcases hx with rfl | rfl
    · exact h.op
    · exact h.oa
  · intro x hx; simp [rb] at hx; subst hx
    exact ⟨by simp only []; rw [if_neg (by omega), if_pos trivial], by omega, l2⟩
  · intro x hx; simp [rb] at hx; subst hx
    exact ⟨by simp only []; rw [if_neg (by omega), if_neg (by omega), if_pos trivial], by omega, l1⟩
  · intro x hx; simp [rb] at hx; subst hx
    exact ⟨by simp only []; rw [if_neg (by omega), if_neg (by omega), if_neg (by omega), if_pos trivial], by omega, l3⟩
  · intro x hx; simp at hx; subst hx
    exact ⟨by simp only []; rw [if_neg (by omega), if_neg (by omega), if_neg (by omega), if_neg (by omega)], by omega, by omega⟩
  · intro x hx; simp at hx

theorem numb_take : ∀ (b : Int) (l : List It) (k : Nat), (numb b l).take k = numb b (l.take k)
  | b, l, 0 => by simp [numb]
  | b, [], k + 1 => by simp [numb]
  | b, x :: l, k + 1 => by simp only [numb, List.take_succ_cons, numb_take (b + 1) l k]
theorem Rd.take {w : World} {a : Option Addr} {n : Nat} {l : List It} (h : Rd w a n l) (k : Nat) (hk : k ≤ n) : Rd w a k (l.take k) := by
  refine ⟨by rw [List.length_take, h.1]; omega, ?_⟩
  rcases h.2 with h0 | ⟨b, off, ha, hb, hc⟩
  · exact .inl (by omega)
  · refine .inr ⟨b, off, ha, hb, fun j u hu => hc j u ?_⟩
    rw [← itms_take] at hu
    have hj := (List.getElem?_eq_some_iff.1 hu).1
    rw [List.length_take] at hj
    rwa [List.getElem?_take, if_pos (by omega)] at hu
/-- an item of those that are left, or of those that were sent, is one of those that were added -/
theorem pick {b : Int} {ac : Nat} {L : List It} {j0 : Nat} {x : It} (h : (numb (b + (ac : Int)) (L.drop ac) ++ numb b L)[j0]? = some x) : ∃ (j : Nat) (y : It), L[j]? = some y ∧ x = y.no (b + (j : Int) + 1) := by
  have hx := List.mem_of_getElem? h
  rcases List.mem_append.1 hx with hx | hx
  · rw [← numb_drop] at hx
    obtain ⟨j, hj⟩ := List.getElem?_of_mem (List.mem_of_mem_drop hx)
    have hjl := (List.getElem?_eq_some_iff.1 hj).1
    rw [numb_length] at hjl
    have := numb_get b L j _ (List.getElem?_eq_getElem hjl)
    rw [this] at hj
    injection hj with hj
    exact ⟨j, _, List.getElem?_eq_getElem hjl, hj.symm⟩
  · obtain ⟨j, hj⟩ := List.getElem?_of_mem hx
    have hjl := (List.getElem?_eq_some_iff.1 hj).1
    rw [numb_length] at hjl
    have := numb_get b L j _ (List.getElem?_eq_getElem hjl)
    rw [this] at hj
    injection hj with hj
    exact ⟨j, _, List.getElem?_eq_getElem hjl, hj.symm⟩
end Go.Proofs.Ytcnmkojlledipaa.Mr
