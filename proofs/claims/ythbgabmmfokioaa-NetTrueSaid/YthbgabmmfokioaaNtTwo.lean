/-
  A net of the call's own, and two rows of the call's own beside it, through the calls.
-/
import Derived.Test.YthbgabmmfokioaaNtOpen
namespace Go.Proofs.Ythbgabmmfokioaa.Nt
open Go.RowKit
set_option linter.unusedVariables false
set_option linter.unusedSimpArgs false
set_option maxRecDepth 20000

/-- the block of a row -/
def rb : Option Addr → List Nat
  | none => []
  | some x => [x.block]
def Dis (L M : List Nat) : Prop := ∀ x ∈ L, x ∉ M
theorem Dis.symm {L M : List Nat} (h : Dis L M) : Dis M L := fun x hx hl => h x hl hx
theorem Dis.left {L L' M : List Nat} {B : Nat} (h : Dis L M) (hL : ∀ x ∈ L', x ∈ L ∨ B ≤ x) (hM : ∀ x ∈ M, x < B) : Dis L' M := by
  intro x hx hm
  rcases hL x hx with g | g
  · exact h x g hm
  · have := hM x hm; omega
theorem Dis.right {L M M' : List Nat} {B : Nat} (h : Dis L M) (hM : ∀ x ∈ M', x ∈ M ∨ B ≤ x) (hL : ∀ x ∈ L, x < B) : Dis L M' := (h.symm.left hM hL).symm
theorem Dis.none (L : List Nat) : Dis L (rb none) := fun x _ h => by cases h
theorem OwnL.lts {w : World} {s : Option Addr} {c : Nat} {l : List Lt} (h : OwnL w s c l) : ∀ x ∈ rb s, x < w.heap.size := by
  intro x hx
  rcases h with ⟨rfl, _⟩ | ⟨g, cur, rfl, h1, _⟩
  · cases hx
  · simp [rb] at hx; subst hx; exact lt_of_heap h1
theorem OwnL.keep {w w' : World} {s : Option Addr} {c : Nat} {l : List Lt} (h : OwnL w s c l) {M : List Nat} (hb : But M w w') (hd : Dis M (rb s)) : OwnL w' s c l := by
  rcases h with h | ⟨g, cur, rfl, h1, h2⟩
  · exact .inl h
  · exact .inr ⟨g, cur, rfl, by rw [hb.block g (lt_of_heap h1) (fun hm => hd g hm (by simp [rb]))]; exact h1, h2⟩
theorem NAt.lts {t : TypeId} {w : World} {p : Nat} {a : Option Addr} {l : List Lt} (h : NAt t w p a l) : ∀ x ∈ [p, blk p a], x < w.heap.size := by
  intro x hx
  simp at hx
  rcases hx with rfl | rfl
  · exact h.lt
  · exact h.ltb
theorem NAt.keep {t : TypeId} {w w' : World} {p : Nat} {a : Option Addr} {l : List Lt} (h : NAt t w p a l) {M : List Nat} (hb : But M w w') (hd : Dis M [p, blk p a]) : NAt t w' p a l :=
  h.but hb (fun hm => hd _ hm (by simp)) (fun hm => hd _ hm (by simp))
theorem Anew.rb {w : World} {a a' : Option Addr} (h : Anew w a a') : ∀ x ∈ rb a', x ∈ rb a ∨ w.heap.size ≤ x := by
  rcases h with rfl | ⟨g, rfl, hg⟩
  · exact fun x hx => .inl hx
  · intro x hx; simp [Nt.rb] at hx; subst hx; exact .inr hg
theorem Anew.net {w : World} {p : Nat} {a a' : Option Addr} (h : Anew w a a') : ∀ x ∈ [p, Nt.blk p a'], x ∈ [p, Nt.blk p a] ∨ w.heap.size ≤ x := by
  intro x hx
  simp at hx
  rcases hx with rfl | rfl
  · simp
  · rcases h.blk p with e | e
    · rw [e]; simp
    · exact .inr e
theorem own_rb {s : Option Addr} {n c k : Nat} (h : (Value.slice s n c).ownBlock = some k) : k ∈ rb s := by
  cases s with
  | none => simp [Value.ownBlock] at h
  | some q => simp [Value.ownBlock] at h; simp [rb, h]
theorem Fresh.rb {B : Nat} {s : Option Addr} (h : Fresh B s) : ∀ x ∈ rb s, B ≤ x := by
  intro x hx
  cases s with
  | none => cases hx
  | some q => simp [Nt.rb] at hx; subst hx; exact h q rfl

/-- a net and two rows -/
structure N2 (w0 w : World) (p : Nat) (a : Option Addr) (l : List Lt) (s : Option Addr) (cs : Nat) (ms : List Lt) (t : Option Addr) (ct : Nat) (us : List Lt) : Prop where
  rn : Rn w0 w p a l
  rs : OwnL w s cs ms
  rt : OwnL w t ct us
  fs : Fresh w0.heap.size s
  ft : Fresh w0.heap.size t
  d1 : Dis [p, blk p a] (rb s)
  d2 : Dis [p, blk p a] (rb t)
  d3 : Dis (rb s) (rb t)
/-- the same, the net's row wherever -/
def NX (w0 w : World) (p : Nat) (l : List Lt) (s : Option Addr) (cs : Nat) (ms : List Lt) (t : Option Addr) (ct : Nat) (us : List Lt) : Prop := ∃ a, N2 w0 w p a l s cs ms t ct us

section
variable {w0 w w' : World} {p : Nat} {a : Option Addr} {l l' : List Lt} {s t : Option Addr} {cs ct : Nat} {ms us : List Lt}
theorem N2.step (h : N2 w0 w p a l s cs ms t ct us) (k : Aft w0 w p a l' w') : NX w0 w' p l' s cs ms t ct us := by
  obtain ⟨a', h1, h2, h3⟩ := k
  exact ⟨a', h1, h.rs.keep h3 h.d1, h.rt.keep h3 h.d2, h.fs, h.ft, h.d1.left h2.net h.rs.lts, h.d2.left h2.net h.rt.lts, h.d3⟩
theorem NX.below (h : NX w0 w p l s cs ms t ct us) (hb : Below w.heap.size w w') : NX w0 w' p l s cs ms t ct us := by
  obtain ⟨a, h⟩ := h
  exact ⟨a, h.rn.below hb, h.rs.below hb (Nat.le_refl _), h.rt.below hb (Nat.le_refl _), h.fs, h.ft, h.d1, h.d2, h.d3⟩
theorem NX.be (h : NX w0 w p l s cs ms t ct us) : Below w0.heap.size w0 w := by obtain ⟨a, h⟩ := h; exact h.rn.be
theorem NX.len3 (h : NX w0 w p l s cs ms t ct us) : l.length ≤ 300 := by obtain ⟨a, h⟩ := h; exact h.rn.at_.len
theorem NX.rs (h : NX w0 w p l s cs ms t ct us) : OwnL w s cs ms := by obtain ⟨a, h⟩ := h; exact h.rs
theorem NX.rt (h : NX w0 w p l s cs ms t ct us) : OwnL w t ct us := by obtain ⟨a, h⟩ := h; exact h.rt
theorem NX.send (h : NX w0 w p l s cs ms t ct us) (x : Lt) : Calls Try.prog 11 #[.pointer (some ⟨p, 0, none⟩), ltV x] w fun e w' => e = .returned (.int .i64 (sendE l x)) ∧ NX w0 w' p (sendL l x) s cs ms t ct us := by
  obtain ⟨a, h⟩ := h
  exact (h.rn.send x).mono fun e w' k => ⟨k.1, h.step k.2⟩
theorem NX.take (h : NX w0 w p l s cs ms t ct us) (i : Int) : Calls Try.prog 13 #[.pointer (some ⟨p, 0, none⟩), .int .i64 i] w fun e w' => e = .returned (.tuple #[ltV (takeV l i), .bool (takeB l)]) ∧ NX w0 w' p (takeL l i) s cs ms t ct us := by
  obtain ⟨a, h⟩ := h
  exact (h.rn.take i).mono fun e w' k => ⟨k.1, h.step k.2⟩
theorem NX.drop (h : NX w0 w p l s cs ms t ct us) (i : Int) : Calls Try.prog 17 #[.pointer (some ⟨p, 0, none⟩), .int .i64 i] w fun e w' => e = .returned (.bool (takeB l)) ∧ NX w0 w' p (takeL l i) s cs ms t ct us := by
  obtain ⟨a, h⟩ := h
  exact (h.rn.drop i).mono fun e w' k => ⟨k.1, h.step k.2⟩
theorem NX.copy (h : NX w0 w p l s cs ms t ct us) (i : Int) : Calls Try.prog 15 #[.pointer (some ⟨p, 0, none⟩), .int .i64 i] w fun e w' => e = .returned (.bool (copyB l)) ∧ NX w0 w' p (copyL l i) s cs ms t ct us := by
  obtain ⟨a, h⟩ := h
  exact (h.rn.copy i).mono fun e w' k => ⟨k.1, h.step k.2⟩
theorem NX.len (h : NX w0 w p l s cs ms t ct us) : Calls Try.prog 20 #[.pointer (some ⟨p, 0, none⟩)] w fun e w' => e = .returned (.int .i64 (l.length : Int)) ∧ w = w' := by
  obtain ⟨a, h⟩ := h
  exact h.rn.len
theorem NX.to (h : NX w0 w p l s cs ms t ct us) (q : Int) : Calls Try.prog 21 #[.pointer (some ⟨p, 0, none⟩), .int .i64 q] w fun e w' => e = .returned (toV l q) ∧ NX w0 w' p l s cs ms t ct us := by
  obtain ⟨a, h⟩ := h
  refine (h.rn.to q).mono ?_
  rintro e w' ⟨rfl, hb⟩
  exact ⟨rfl, NX.below ⟨a, h⟩ hb⟩
theorem NX.all (h : NX w0 w p l s cs ms t ct us) : Calls Try.prog 18 #[.pointer (some ⟨p, 0, none⟩)] w fun e w' => ∃ a' cap', e = .returned (.slice a' l.length cap') ∧ NX w0 w' p l s cs ms t ct us ∧ OwnL w' a' cap' l ∧ Fresh w.heap.size a' := by
  obtain ⟨a, h⟩ := h
  refine h.rn.all.mono ?_
  rintro e w' ⟨a', cap', rfl, h1, h2, hb⟩
  exact ⟨a', cap', rfl, NX.below ⟨a, h⟩ hb, h1, h2⟩
/-- the first of the rows grows -/
theorem NX.appS (h : NX w0 w p l s cs ms t ct us) {s' : Option Addr} {c' n : Nat} {ms' : List Lt} (o : OwnL w' s' c' ms') (g : w.grownBy w' (Value.slice s n cs).ownBlock) (an : Anew w s s') : NX w0 w' p l s' c' ms' t ct us := by
  obtain ⟨a, h⟩ := h
  have hb : But (rb s) w w' := (But.refl _ _).grown g fun k hk => .inl (own_rb hk)
  exact ⟨a, ⟨h.rn.at_.keep hb h.d1.symm, h.rn.op, h.rn.oa, h.rn.be.trans (hb.to_below h.fs.rb h.rn.be.size)⟩, o, h.rt.keep hb h.d3, h.fs.anew an h.rn.be.size, h.ft, h.d1.right an.rb h.rn.at_.lts, h.d2, h.d3.left an.rb h.rt.lts⟩
/-- the second one grows -/
theorem NX.appT (h : NX w0 w p l s cs ms t ct us) {t' : Option Addr} {c' n : Nat} {us' : List Lt} (o : OwnL w' t' c' us') (g : w.grownBy w' (Value.slice t n ct).ownBlock) (an : Anew w t t') : NX w0 w' p l s cs ms t' c' us' := by
  obtain ⟨a, h⟩ := h
  have hb : But (rb t) w w' := (But.refl _ _).grown g fun k hk => .inl (own_rb hk)
  exact ⟨a, ⟨h.rn.at_.keep hb h.d2.symm, h.rn.op, h.rn.oa, h.rn.be.trans (hb.to_below h.ft.rb h.rn.be.size)⟩, h.rs.keep hb h.d3.symm, o, h.fs, h.ft.anew an h.rn.be.size, h.d1, h.d2.right an.rb h.rn.at_.lts, h.d3.right an.rb h.rs.lts⟩
/-- a new net, no rows yet -/
theorem NX.new (h : Rn w0 w p none []) : NX w0 w p [] none 0 [] none 0 [] := ⟨none, h, OwnL.nil _, OwnL.nil _, Fresh.none _, Fresh.none _, Dis.none _, Dis.none _, Dis.none _⟩
/-- []api.Letter{} for the first row -/
theorem NX.makeS (h : NX w0 w p l none 0 [] t ct us) : NX w0 (w.alloc (.cells #[] 31)) p l (some ⟨w.heap.size, 0, none⟩) 0 [] t ct us := by
  have hb := (Below.refl w.heap.size w).alloc (Nat.le_refl _) (.cells #[] 31)
  obtain ⟨a, h1⟩ := h.below hb
  obtain ⟨a0, h0⟩ := h
  refine NX.appS (s := none) (w := w) (n := 0) ⟨a0, h0⟩ (own_empty w) ⟨rfl, rfl, rfl, by simp, fun k hk _ => Below.heap_alloc _ _ _ hk⟩ (.inr ⟨_, rfl, Nat.le_refl _⟩)
theorem NX.makeT (h : NX w0 w p l s cs ms none 0 []) : NX w0 (w.alloc (.cells #[] 31)) p l s cs ms (some ⟨w.heap.size, 0, none⟩) 0 [] := by
  obtain ⟨a0, h0⟩ := h
  refine NX.appT (t := none) (w := w) (n := 0) ⟨a0, h0⟩ (own_empty w) ⟨rfl, rfl, rfl, by simp, fun k hk _ => Below.heap_alloc _ _ _ hk⟩ (.inr ⟨_, rfl, Nat.le_refl _⟩)
end
end Go.Proofs.Ythbgabmmfokioaa.Nt
