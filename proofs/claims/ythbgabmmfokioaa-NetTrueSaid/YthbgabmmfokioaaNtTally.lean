/-
  A net and a map that counts its letters, blocks that stay, through the calls.
-/
import Derived.Test.YthbgabmmfokioaaNtTwo
import Derived.Test.YthbgabmmfokioaaNtMap2
namespace Go.Proofs.Ythbgabmmfokioaa.Nt
open Go.RowKit Go.Maps
set_option linter.unusedVariables false
set_option linter.unusedSimpArgs false
set_option maxRecDepth 20000

/-! the plain counting -/
def GdAll (l : List Lt) : Prop := ∀ y ∈ l, Gd y
def Cnt (l : List Lt) (f : Lt → Option Int) : Prop := ∀ y, Gd y → (f y).getD 0 = (l.count y : Int) ∧ (y ∈ l → (f y).isSome = true)
theorem cnt_nil : Cnt [] fun _ => none := fun y _ => ⟨by simp, fun h => by cases h⟩
theorem cnt_le {l : List Lt} {f : Lt → Option Int} (h : Cnt l f) {x : Lt} (hx : Gd x) : 0 ≤ (f x).getD 0 ∧ (f x).getD 0 ≤ (l.length : Int) := by
  have := (h x hx).1
  have hc := List.count_le_length (a := x) (l := l)
  omega
theorem cnt_app {l : List Lt} {f : Lt → Option Int} (h : Cnt l f) {x : Lt} (hx : Gd x) : Cnt (l ++ [x]) (upd f x (some ((f x).getD 0 + 1))) := by
  intro y hy
  by_cases e : y = x
  · subst e
    refine ⟨?_, fun _ => by simp [upd]⟩
    simp [upd, (h y hy).1]
  · have e' : ¬ x = y := fun k => e k.symm
    refine ⟨?_, fun hm => ?_⟩
    · simp [upd, e, (h y hy).1, List.count_cons, e']
    · simp [upd, e]
      refine (h y hy).2 ?_
      simpa [e] using hm
theorem count_cut {l : List Lt} {k : Nat} {x : Lt} (hk : l[k]? = some x) (y : Lt) : l.count y = (cutL l k).count y + (if x = y then 1 else 0) := by
  have hl := (List.getElem?_eq_some_iff.1 hk).1
  have e : l = l.take k ++ x :: l.drop (k + 1) := by
    have : l.drop k = x :: l.drop (k + 1) := by
      rw [List.drop_eq_getElem_cons hl]
      congr 1
      exact (List.getElem?_eq_some_iff.1 hk).2
    rw [← this, List.take_append_drop]
  have e2 : l.count y = (l.take k ++ x :: l.drop (k + 1)).count y := congrArg (List.count y) e
  rw [e2]
  unfold cutL
  simp only [List.count_append, List.count_cons, beq_iff_eq]
  omega
theorem mem_cut {l : List Lt} {k : Nat} {y : Lt} (h : y ∈ cutL l k) : y ∈ l := by
  unfold cutL at h
  rcases List.mem_append.1 h with h | h
  · exact List.mem_of_mem_take h
  · exact List.mem_of_mem_drop h
theorem cnt_cut {l : List Lt} {f : Lt → Option Int} (h : Cnt l f) {k : Nat} {x : Lt} (hk : l[k]? = some x) (hx : Gd x) : Cnt (cutL l k) (upd f x (some ((f x).getD 0 - 1))) := by
  intro y hy
  have hc := count_cut hk y
  by_cases e : y = x
  · subst e
    refine ⟨?_, fun _ => by simp [upd]⟩
    simp only [if_true] at hc
    simp only [upd, if_true, Option.getD_some, (h y hy).1]
    omega
  · have e' : ¬ x = y := fun k => e k.symm
    rw [if_neg e'] at hc
    refine ⟨?_, fun hm => ?_⟩
    · simp only [upd, if_neg e, (h y hy).1]
      omega
    · simp only [upd, if_neg e]
      exact (h y hy).2 (mem_cut hm)
theorem gd_cut {l : List Lt} (h : GdAll l) (k : Nat) : GdAll (cutL l k) := fun y hy => h y (mem_cut hy)
theorem gd_app {l : List Lt} (h : GdAll l) {x : Lt} (hx : Gd x) : GdAll (l ++ [x]) := by
  intro y hy
  rcases List.mem_append.1 hy with hy | hy
  · exact h y hy
  · simp at hy; rw [hy]; exact hx
theorem gd_sent {l : List Lt} {x : Lt} (h : sendE l x = 0) : Gd x := by
  obtain ⟨h1, h2, _, h4, _⟩ := sendE_ok h
  exact ⟨h1, h2, h4⟩
theorem gd_at {l : List Lt} (h : GdAll l) {k : Nat} {x : Lt} (hk : l[k]? = some x) : Gd x := h x (List.mem_of_getElem? hk)

/-- a net, a map that counts, blocks that stay -/
def TX (w0 w : World) (p : Nat) (l : List Lt) (B n : Nat) (f : Lt → Option Int) (hs : List (Nat × Obj)) : Prop :=
  ∃ a, Rn w0 w p a l ∧ ML w B n f ∧ w0.heap.size ≤ B ∧ ∀ x ∈ hs, w.heap[x.1]? = some x.2 ∧ x.1 ∉ [p, blk p a] ∧ x.1 ≠ B ∧ w0.heap.size ≤ x.1
section
variable {w0 w w' : World} {p B n : Nat} {a : Option Addr} {l l' : List Lt} {f f' : Lt → Option Int} {hs : List (Nat × Obj)}
theorem NAt.no_map {t : TypeId} (h : NAt t w p a l) (m : ML w B n f) : B ∉ [p, blk p a] := by
  intro hm
  obtain ⟨cap, h1, h2, _⟩ := h
  have hp := m.ne h1
  simp at hm
  rcases hm with rfl | hm
  · exact hp rfl
  · rcases h2 with ⟨rfl, _⟩ | ⟨g, cur, rfl, h3, _⟩
    · simp [blk] at hm; exact hp hm.symm
    · simp [blk] at hm; exact m.ne h3 hm.symm
theorem Rn.from2 (h : Rn w0 w p a l) : ∀ x ∈ [p, blk p a], w0.heap.size ≤ x := by
  intro x hx
  simp at hx
  rcases hx with rfl | rfl
  · exact h.op
  · exact h.oa.blk h.op
theorem TX.step (h : TX w0 w p l B n f hs) {Q : Ending → World → Prop} {fn : FuncId} {args : Array Value}
    (k : ∀ a, NAt tN w p a l → Calls Try.prog fn args w fun e w' => Q e w' ∧ ∃ a', NAt tN w' p a' l' ∧ Anew w a a' ∧ But [p, blk p a] w w') : Calls Try.prog fn args w fun e w' => Q e w' ∧ TX w0 w' p l' B n f hs := by
  obtain ⟨a, h1, h2, h3, h4⟩ := h
  refine (k a h1.at_).mono ?_
  rintro e w' ⟨hq, a', g1, g2, g3⟩
  refine ⟨hq, a', ⟨g1, h1.op, h1.oa.anew g2 h1.be.size, h1.be.trans (g3.to_below h1.from2 h1.be.size)⟩, h2.but g3 (h1.at_.no_map h2), h3, fun x hx => ?_⟩
  obtain ⟨k1, k2, k3, k4⟩ := h4 x hx
  have hl := lt_of_heap k1
  refine ⟨(g3.block _ hl k2).trans k1, fun hm => ?_, k3, k4⟩
  rcases g2.net _ hm with g | g
  · exact k2 g
  · omega
theorem TX.below (h : TX w0 w p l B n f hs) (hb : Below w.heap.size w w') : TX w0 w' p l B n f hs := by
  obtain ⟨a, h1, h2, h3, h4⟩ := h
  refine ⟨a, h1.below hb, h2.below hb, h3, fun x hx => ?_⟩
  obtain ⟨k1, k2⟩ := h4 x hx
  exact ⟨(hb.block _ (lt_of_heap k1)).trans k1, k2⟩
theorem TX.be (h : TX w0 w p l B n f hs) : Below w0.heap.size w0 w := by obtain ⟨a, h1, _⟩ := h; exact h1.be
theorem TX.len3 (h : TX w0 w p l B n f hs) : l.length ≤ 300 := by obtain ⟨a, h1, _⟩ := h; exact h1.at_.len
theorem TX.ml (h : TX w0 w p l B n f hs) : ML w B n f := by obtain ⟨a, _, h2, _⟩ := h; exact h2
theorem TX.held (h : TX w0 w p l B n f hs) {g : Nat} {o : Obj} (hx : (g, o) ∈ hs) : w.heap[g]? = some o := by
  obtain ⟨a, _, _, _, h4⟩ := h
  exact (h4 _ hx).1
theorem TX.sub (h : TX w0 w p l B n f hs) {hs' : List (Nat × Obj)} (hsub : ∀ x ∈ hs', x ∈ hs) : TX w0 w p l B n f hs' := by
  obtain ⟨a, h1, h2, h3, h4⟩ := h
  exact ⟨a, h1, h2, h3, fun x hx => h4 x (hsub x hx)⟩
theorem TX.hold (h : TX w0 w p l B n f hs) (o : Obj) : TX w0 (w.alloc o) p l B n f ((w.heap.size, o) :: hs) := by
  have hb := (Below.refl w.heap.size w).alloc (Nat.le_refl _) o
  obtain ⟨a, h1, h2, h3, h4⟩ := h
  refine ⟨a, h1.below hb, h2.below hb, h3, fun x hx => ?_⟩
  rcases List.mem_cons.1 hx with rfl | hx
  · refine ⟨heap_alloc_new w o, fun hm => ?_, ?_, h1.be.size⟩
    · have := h1.at_.lts _ hm; simp at this
    · have := h2.lt; simp; omega
  · obtain ⟨k1, k2⟩ := h4 x hx
    exact ⟨(hb.block _ (lt_of_heap k1)).trans k1, k2⟩
/-- the map has changed -/
theorem TX.map (h : TX w0 w p l B n f hs) {n' : Nat} (m : ML w' B n' f') (hb : But [B] w w') : TX w0 w' p l B n' f' hs := by
  obtain ⟨a, h1, h2, h3, h4⟩ := h
  have hn := h1.at_.no_map h2
  refine ⟨a, ⟨h1.at_.keep hb (fun x hx hm => ?_), h1.op, h1.oa, h1.be.trans (hb.to_below (fun x hx => ?_) h1.be.size)⟩, m, h3, fun x hx => ?_⟩
  · simp at hx; subst hx; exact hn hm
  · simp at hx; subst hx; exact h3
  · obtain ⟨k1, k2, k3, k4⟩ := h4 x hx
    exact ⟨(hb.block _ (lt_of_heap k1) (by simpa using k3)).trans k1, k2, k3, k4⟩
theorem TX.send (h : TX w0 w p l B n f hs) (x : Lt) : Calls Try.prog 11 #[.pointer (some ⟨p, 0, none⟩), ltV x] w fun e w' => e = .returned (.int .i64 (sendE l x)) ∧ TX w0 w' p (sendL l x) B n f hs := h.step fun a k => send_any k x
theorem TX.take (h : TX w0 w p l B n f hs) (i : Int) : Calls Try.prog 13 #[.pointer (some ⟨p, 0, none⟩), .int .i64 i] w fun e w' => e = .returned (.tuple #[ltV (takeV l i), .bool (takeB l)]) ∧ TX w0 w' p (takeL l i) B n f hs := h.step fun a k => take_any k i
theorem TX.drop (h : TX w0 w p l B n f hs) (i : Int) : Calls Try.prog 17 #[.pointer (some ⟨p, 0, none⟩), .int .i64 i] w fun e w' => e = .returned (.bool (takeB l)) ∧ TX w0 w' p (takeL l i) B n f hs := h.step fun a k => drop_any k i
theorem TX.copy (h : TX w0 w p l B n f hs) (i : Int) : Calls Try.prog 15 #[.pointer (some ⟨p, 0, none⟩), .int .i64 i] w fun e w' => e = .returned (.bool (copyB l)) ∧ TX w0 w' p (copyL l i) B n f hs := h.step fun a k => copy_any k i
/-- All: what it tells stays, too -/
theorem TX.all (h : TX w0 w p l B n f hs) : Calls Try.prog 18 #[.pointer (some ⟨p, 0, none⟩)] w fun e w' => ∃ t ct ht, e = .returned (.slice t l.length ct) ∧ TX w0 w' p l B n f (ht ++ hs) ∧ (∀ W, (∀ x ∈ ht, W.heap[x.1]? = some x.2) → OwnL W t ct l) ∧ Below w.heap.size w w' ∧ ∀ x ∈ ht, w.heap.size ≤ x.1 := by
  have hh := h
  obtain ⟨a, h1, h2, h3, h4⟩ := h
  refine (all_any h1.at_).mono ?_
  rintro e w' ⟨t, ct, rfl, o, fr, hb⟩
  obtain ⟨a', g1, g2, g3, g4⟩ := hh.below hb
  rcases o with ⟨rfl, rfl, rfl⟩ | ⟨g, cur, rfl, k1, k2⟩
  · exact ⟨none, 0, [], rfl, ⟨a', g1, g2, g3, g4⟩, fun W _ => OwnL.nil W, hb, fun x hx => (by cases hx)⟩
  · have hg : w.heap.size ≤ g := fr _ rfl
    refine ⟨some ⟨g, 0, none⟩, ct, [(g, .cells cur 31 (0, 0))], rfl, ?_, fun W hW => .inr ⟨g, cur, rfl, hW (g, .cells cur 31 (0, 0)) (by simp), k2⟩, hb, fun x hx => (by simp at hx; subst hx; exact hg)⟩
    refine ⟨a, h1.below hb, h2.below hb, h3, fun x hx => ?_⟩
    rcases List.mem_append.1 hx with hx | hx
    · simp at hx
      subst hx
      refine ⟨k1, fun hm => ?_, ?_, Nat.le_trans h1.be.size hg⟩
      · have := h1.at_.lts _ hm; simp at this; omega
      · have := h2.lt; simp; omega
    · obtain ⟨q1, q2⟩ := h4 x hx
      exact ⟨(hb.block _ (lt_of_heap q1)).trans q1, q2⟩
end
/-- another map has changed -/
theorem TX.but {w0 w w' : World} {p B n : Nat} {l : List Lt} {f : Lt → Option Int} {hs : List (Nat × Obj)} (h : TX w0 w p l B n f hs) {Bn m : Nat} {g : Lt → Option Int} (hm : ML w Bn m g) (hb : But [Bn] w w') (hB : B ≠ Bn) (h0 : w0.heap.size ≤ Bn) : TX w0 w' p l B n f [] := by
  obtain ⟨a, h1, h2, h3, h4⟩ := h
  have hn := h1.at_.no_map hm
  refine ⟨a, ⟨h1.at_.keep hb (fun x hx hq => ?_), h1.op, h1.oa, h1.be.trans (hb.to_below (fun x hx => ?_) h1.be.size)⟩, h2.but hb (by simpa using hB), h3, fun x hx => (by cases hx)⟩
  · simp at hx; subst hx; exact hn hq
  · simp at hx; subst hx; exact h0
/-- a count that holds nothing else -/
def Cnt2 (l : List Lt) (f : Lt → Option Int) : Prop := Cnt l f ∧ ∀ y, Gd y → (f y).isSome = true → y ∈ l
theorem cnt2_nil : Cnt2 [] fun _ => none := ⟨cnt_nil, fun y _ h => (by simp at h)⟩
theorem cnt2_app {l : List Lt} {f : Lt → Option Int} (h : Cnt2 l f) {x : Lt} (hx : Gd x) : Cnt2 (l ++ [x]) (upd f x (some ((f x).getD 0 + 1))) := by
  refine ⟨cnt_app h.1 hx, fun y hy hs => ?_⟩
  by_cases e : y = x
  · simp [e]
  · simp only [upd, if_neg e] at hs
    exact List.mem_append_left _ (h.2 y hy hs)
theorem But.to_grown {b : Nat} {w w' : World} (h : But [b] w w') : w.grownBy w' (some b) := ⟨h.os, h.tape, h.output, h.size, fun k hk hn => h.block k hk (by intro hm; simp at hm; exact hn (by rw [hm]))⟩
/-- what is left to be gone through, and what the other count still holds -/
def Left (l : List Lt) (left : Lit → Bool) (g : Lt → Option Int) : Prop := ∀ y, Gd y → g y = if left (lk y) = true ∧ y ∈ l then some (l.count y : Int) else none
theorem left_start {l : List Lt} {D : DataW Unit} {f g : Lt → Option Int} (hs : Says D f) (hf : Cnt l f) (hg : Cnt2 l g) : Left l (has D) g := by
  intro y hy
  by_cases hm : y ∈ l
  · have h1 := (hf y hy).2 hm
    rw [← hs.2.1 y hy] at h1
    rw [if_pos ⟨h1, hm⟩]
    have h2 := (hg.1 y hy).2 hm
    have h3 := (hg.1 y hy).1
    cases hgy : g y with
    | none => rw [hgy] at h2; cases h2
    | some c => rw [hgy] at h3; simp at h3; rw [h3]
  · rw [if_neg (fun h => hm h.2)]
    cases hgy : g y with
    | none => rfl
    | some c => exact absurd (hg.2 y hy (by rw [hgy]; rfl)) hm
theorem left_step {l : List Lt} {left : Lit → Bool} {g : Lt → Option Int} (h : Left l left g) {x : Lt} (hx : Gd x) : Left l (fun z => left z && !z.sameKey (lk x)) (upd g x none) := by
  intro y hy
  by_cases e : y = x
  · subst e
    simp [upd, WideAt.sameKey_self (lk_key hy)]
  · have hne : lk y ≠ lk x := fun k => e (lk_inj hy hx k)
    simp only [upd, if_neg e, h y hy, sameKey_ne hne]
    simp
theorem left_get {l : List Lt} {left : Lit → Bool} {g : Lt → Option Int} (h : Left l left g) {x : Lt} (hx : Gd x) (hl : left (lk x) = true) : (g x).getD 0 = (l.count x : Int) := by
  rw [h x hx]
  by_cases hm : x ∈ l
  · rw [if_pos ⟨hl, hm⟩]; rfl
  · rw [if_neg (fun k => hm k.2)]
    have : l.count x = 0 := List.count_eq_zero.2 hm
    simp [this]
theorem left_end {l : List Lt} {left : Lit → Bool} {g : Lt → Option Int} (h : Left l left g) (h0 : ∀ kl, left kl = false) : ∀ x, Gd x → g x = none := by
  intro x hx
  rw [h x hx, if_neg (fun k => by rw [h0] at k; cases k.1)]
/-- the entry that has come -/
theorem entry_is {l : List Lt} {D : DataW Unit} {f : Lt → Option Int} (hs : Says D f) (hf : Cnt l f) {x : Lt} {kl : Lit} {c : Int} {y : DataW Unit × List MemPlace} (hkey : keyOf Try.prog 31 (.agg #[.int .i64 x.fr, .int .i64 x.to, .string x.body]) = some kl)
    (hh : has D kl = true) (hv : plainElem Try.prog 3 (.int .i64 c) = some y) (hat : ∀ zd, D.atKey kl zd = y.1) : Gd x ∧ kl = lk x ∧ c = (l.count x : Int) := by
  obtain ⟨x', hx', e⟩ := hs.2.2.2 kl hh
  have h2 := key_of x' hx'
  rw [← e] at h2
  have := ltLaw.inj hkey h2
  injection this with this
  simp at this
  have hxx : x = x' := Lt.ext' this.1 this.2.1 this.2.2
  subst hxx
  refine ⟨hx', e, ?_⟩
  subst e
  have h1 := hs.2.1 x hx'
  rw [hh] at h1
  cases hfx : f x with
  | none => rw [hfx] at h1; cases h1
  | some c' =>
    have h3 := hs.2.2.1 x hx' c' hfx (.lit (.int .i64 0))
    rw [hat] at h3
    obtain ⟨c2, e2, e3, _⟩ := plainElem_int_inv Try.underlying3 hv
    injection e2 with _ e2
    rw [e3] at h3
    injection h3 with h3
    injection h3 with _ h3
    have h4 := (hf x hx').1
    rw [hfx] at h4
    simp at h4
    omega
theorem TX.new {w0 w : World} {p : Nat} (h : Rn w0 w p none []) : TX w0 (w.alloc (.map #[] 0)) p [] w.heap.size 0 (fun _ => none) [] :=
  ⟨none, h.below ((Below.refl _ _).alloc (Nat.le_refl _) _), ml_made w, h.be.size, fun x hx => by cases hx⟩
end Go.Proofs.Ythbgabmmfokioaa.Nt
