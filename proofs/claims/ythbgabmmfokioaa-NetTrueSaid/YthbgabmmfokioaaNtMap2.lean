/-
  A map from letters to numbers in memory, as a function: looked up, raised, deleted from, gone through.
-/
import Derived.Test.YthbgabmmfokioaaNtMap
namespace Go.Proofs.Ythbgabmmfokioaa.Nt
open Go.RowKit Go.Maps
open Go.ChangeMaps (setBlock heap_setBlock_same heap_setBlock_other)
set_option linter.unusedVariables false
set_option linter.unusedSimpArgs false
set_option maxRecDepth 20000

theorem zeroI (w : World) : (zeroValue 3).run Try.prog w = .ok (.int .i64 0) w := by kernel_rfl
/-- what the datum of a map says -/
def Says (D : DataW Unit) (f : Lt → Option Int) : Prop :=
  IsMap D ∧ (∀ x, Gd x → has D (lk x) = (f x).isSome) ∧ (∀ x, Gd x → ∀ c, f x = some c → ∀ z, D.atKey (lk x) z = .lit (.int .i64 c)) ∧ ∀ kl, has D kl = true → ∃ x, Gd x ∧ kl = lk x
def upd (f : Lt → Option Int) (x : Lt) (c : Option Int) : Lt → Option Int := fun y => if y = x then c else f y
/-- the map in block b holds f, in at most n entries -/
def ML (w : World) (b n : Nat) (f : Lt → Option Int) : Prop := ∃ D, w.ownsMap (H := Unit) Try.prog 31 (plainElem Try.prog 3) b n D ∧ Says D f

theorem says_none : Says (.map []) fun _ => none := ⟨isMap_empty, fun x _ => rfl, fun x _ c h => (by cases h), fun kl h => (by cases h)⟩
theorem says_put {D : DataW Unit} {f : Lt → Option Int} (h : Says D f) {x : Lt} (hx : Gd x) (c : Int) : Says (D.put (lk x) (.lit (.int .i64 c))) (upd f x (some c)) := by
  obtain ⟨h0, h1, h2, h3⟩ := h
  refine ⟨h0.put _ _, fun y hy => ?_, fun y hy c' hc z => ?_, fun kl hk => ?_⟩
  · by_cases e : y = x
    · subst e; simp [upd, has_put_same h0 (lk_key hx)]
    · rw [has_put_other (fun e' => e (lk_inj hy hx e')), h1 y hy]; simp [upd, e]
  · by_cases e : y = x
    · subst e
      simp [upd] at hc
      subst hc
      exact atKey_put_same h0 (lk_key hx) _ _
    · rw [atKey_put_other (fun e' => e (lk_inj hy hx e'))]
      simp only [upd, if_neg e] at hc
      exact h2 y hy c' hc z
  · by_cases e : kl = lk x
    · exact ⟨x, hx, e⟩
    · rw [has_put_other e] at hk
      exact h3 kl hk
theorem says_del {D : DataW Unit} {f : Lt → Option Int} (h : Says D f) {x : Lt} (hx : Gd x) : Says (D.del (lk x)) (upd f x none) := by
  obtain ⟨h0, h1, h2, h3⟩ := h
  refine ⟨h0.del _, fun y hy => ?_, fun y hy c' hc z => ?_, fun kl hk => ?_⟩
  · by_cases e : y = x
    · subst e; simp [upd, has_del_same]
    · rw [has_del_other (fun e' => e (lk_inj hy hx e')), h1 y hy]; simp [upd, e]
  · by_cases e : y = x
    · subst e; simp [upd] at hc
    · rw [atKey_del_other (fun e' => e (lk_inj hy hx e'))]
      simp only [upd, if_neg e] at hc
      exact h2 y hy c' hc z
  · by_cases e : kl = lk x
    · rw [e, has_del_same] at hk; cases hk
    · rw [has_del_other e] at hk
      exact h3 kl hk

section
variable {w w' : World} {b n : Nat} {f : Lt → Option Int}
theorem ml_made (w : World) : ML (w.alloc (.map #[] 0)) w.heap.size 0 fun _ => none := ⟨_, World.ownsMap_made w _ _ _, says_none⟩
theorem ML.lt (h : ML w b n f) : b < w.heap.size := by
  obtain ⟨D, h, _⟩ := h
  exact h.lt
theorem ML.of_block (h : ML w b n f) (hb : w'.heap[b]? = w.heap[b]?) : ML w' b n f := by
  obtain ⟨D, ⟨es, clock, h1, h2⟩, h3⟩ := h
  exact ⟨D, ⟨es, clock, hb.trans h1, h2⟩, h3⟩
theorem ML.but (h : ML w b n f) {l : List Nat} (hb : But l w w') (hn : b ∉ l) : ML w' b n f := h.of_block (hb.block _ h.lt hn)
theorem ML.below (h : ML w b n f) (hb : Below w.heap.size w w') : ML w' b n f := h.of_block (hb.block _ h.lt)
theorem ML.mono (h : ML w b n f) {n' : Nat} (hn : n ≤ n') : ML w b n' f := by
  obtain ⟨D, h1, h2⟩ := h
  exact ⟨D, h1.mono hn, h2⟩
/-- a block of cells is another one -/
theorem ML.ne (h : ML w b n f) {g : Nat} {cs : Array Value} {t : TypeId} {fr : Nat × Nat} (hg : w.heap[g]? = some (.cells cs t fr)) : g ≠ b := by
  obtain ⟨D, ⟨es, clock, h1, _⟩, _⟩ := h
  rintro rfl
  rw [h1] at hg
  cases hg

/-- m[x] -/
theorem ML.look (h : ML w b n f) {x : Lt} (hx : Gd x) : (Instr.lookup 45 (.map (some b)) (.agg #[.int .i64 x.fr, .int .i64 x.to, .string x.body]) false).run Try.prog w = .ok (.int .i64 ((f x).getD 0)) w := by
  obtain ⟨D, h1, h0, hh, ha, _⟩ := h
  obtain ⟨c, hrun, hat, _⟩ := h1.lookup_int ltLaw Try.underlying45 Try.underlying3 (zeroI w) (key_of x hx)
  rw [hrun]
  have e := hh x hx
  cases hf : f x with
  | none =>
    rw [hf] at e
    rw [atKey_of_not_has e] at hat
    injection hat with hat
    injection hat with _ hat
    rw [← hat]; rfl
  | some c' =>
    rw [ha x hx c' hf] at hat
    injection hat with hat
    injection hat with _ hat
    rw [← hat]; rfl

theorem set_twice (w : World) (b : Nat) (o o' : Obj) : setBlock (setBlock w b o) b o' = setBlock w b o' := by simp [setBlock]
/-- m[x] = c, as Go does it where the element was read first: an entry, then the store -/
theorem ML.entry (h : ML w b n f) (hn : n < maxLen) {x : Lt} (hx : Gd x) {c : Int} (hc : (Lit.int .i64 c).wf = true) :
    ∃ (v0 : Value) (st : Nat) (w1 w2 : World), (Instr.mapEntry 45 (.map (some b)) (.agg #[.int .i64 x.fr, .int .i64 x.to, .string x.body])).run Try.prog w = .ok (.tuple #[v0, .int .i64 st]) w1 ∧
      (Instr.entryStore 45 (.map (some b)) (.int .i64 st) (.int .i64 c)).run Try.prog w1 = .ok () w2 ∧ ML w2 b (n + 1) (upd f x (some c)) ∧ But [b] w w2 ∧ w2.heap.size = w.heap.size := by
  obtain ⟨D, h1, hs⟩ := h
  have h1' := h1
  obtain ⟨es, clock, hb, F, hsz, hD⟩ := h1
  obtain ⟨v0, st, es1, clock1, e1, _, e3⟩ := Go.WideElems.entry_then_store ltLaw0 Try.underlying45 zeroI hb F (key_of x hx)
  obtain ⟨es', clock', e4, e5⟩ := e3 (setBlock w b (.map es1 clock1)) (.int .i64 c) (heap_setBlock_same hb _)
  obtain ⟨w3, u1, u2, u3⟩ := h1'.update ltLaw Try.underlying45 hn (key_of x hx) (plainElem_int Try.underlying3 hc)
  rw [e5] at u1
  injection u1 with _ u1
  rw [set_twice] at e4
  refine ⟨v0, st, _, _, e1, e4, ?_, ?_, by simp [setBlock]⟩
  · rw [u1]; exact ⟨_, u2, says_put hs hx c⟩
  · rw [u1]; exact (But.refl _ _).grown u3 fun k hk => by injection hk with hk; simp [hk]
end

section
variable (w : World) {ops : Array Oper} {rest : List Oper} {o : Oper} {a : Act} {Q : Exit → Act → World → Prop} {b n : Nat} {f : Lt → Option Int}
/-- delete(m, x) -/
theorem wpList_delete_ML (hg : o.guard = none) (m x : Operand) (hop : o.op = Op.call { callee := Callee.builtin Builtin.delete, args := #[m, x], argTypes := #[45, 31] })
    (hm : a.eval m = .map (some b)) (h : ML w b n f) (y : Lt) (hy : Gd y) (hx : a.eval x = .agg #[.int .i64 y.fr, .int .i64 y.to, .string y.body])
    (hK : ∀ w', ML w' b n (upd f y none) → But [b] w w' → w'.heap.size = w.heap.size → wpList Try.prog ops Q rest (a.put o.dst (.tuple #[])) w') : wpList Try.prog ops Q (o :: rest) a w := by
  obtain ⟨D, h1, hs⟩ := h
  refine wpList_delete_own w hg m x _ _ hop 3 ltLaw Try.underlying45 _ b n D hm h1 _ (lk y) hx (key_of y hy) fun w' o' ht => ?_
  have hbt : But [b] w w' := (But.refl _ _).grown ht.grown fun k hk => by injection hk with hk; simp [hk]
  refine hK w' ⟨_, o', says_del hs hy⟩ hbt ?_
  obtain ⟨_, _, _, _, _, e⟩ := ht
  rw [e]; simp [setBlock]
/-- len(m), of a map without entries -/
theorem wpList_len_ML (hg : o.guard = none) (m : Operand) (hop : o.op = Op.call { callee := Callee.builtin Builtin.len, args := #[m], argTypes := #[45] })
    (hm : a.eval m = .map (some b)) (h : ML w b n f) (hf : ∀ x, Gd x → f x = none) (hK : wpList Try.prog ops Q rest (a.put o.dst (.int .i64 0)) w) : wpList Try.prog ops Q (o :: rest) a w := by
  obtain ⟨D, h1, h0, hh, ha, hi⟩ := h
  have hz : Maps.size D = 0 := by
    obtain ⟨es, rfl⟩ := h0
    cases es with
    | nil => rfl
    | cons p r =>
      exfalso
      obtain ⟨es', he, _, hkey⟩ := h1.entries ltLaw
      injection he with he
      have hp : has (.map (p :: r) : DataW Unit) p.1 = true := by
        rw [has_eq]
        simp [WideAt.sameKey_self (hkey p (by rw [← he]; simp))]
      obtain ⟨x, hx, e⟩ := hi _ hp
      rw [e, hh x hx, hf x hx] at hp
      cases hp
  exact wpList_len_own w hg m _ hop _ _ Try.underlying45 _ b n D hm h1 (by rw [hz]; exact hK)
end
end Go.Proofs.Ythbgabmmfokioaa.Nt
