/-
  PROVED: which records may be, their bytes, how many, and any number's bytes are as the document says; they stay
-/
import Derived.Test.YtdakfhoadfbfiaaBox
import Derived.Test.YtdakfhoadfbfiaaOpen
import Derived.Test.YtdakfhoadfbfiaaRefw
import Derived.Deep.RegionHeldLaw
import Derived.Deep.DeepCutAuto
import Derived.Deep.RegionHeld3
namespace Go.Proofs.Ytdakfhoadfbfiaa.codeEncodes
open Go.ChangeShapes Go.WideShapes Go.ChangeAt Go.RowKit Go.Joins
set_option linter.unusedVariables false
set_option linter.unusedSimpArgs false
set_option maxRecDepth 20000

theorem str_back (l : List UInt8) : (str l).toList = l := by simp [str]
theorem own_at {e : TypeId} {W : World} {B k : Nat} (hB : B ≤ k) (h : W.heap[k]? = some (.cells #[] e)) : Own e W B (some ⟨k, 0, none⟩) 0 0 [] :=
  ⟨⟨rfl, .inr ⟨k, 0, #[], rfl, hB, h, by omega, by simp [maxLen], rfl, rfl⟩⟩, rfl, by omega⟩
theorem heap_new (W : World) (o : Obj) {k : Nat} (hk : k = W.heap.size) : (W.alloc o).heap[k]? = some o := by subst hk; exact heap_alloc_new W o
theorem heap_old (W : World) (o : Obj) {k : Nat} {x : Option Obj} (hk : k < W.heap.size) (h : W.heap[k]? = x) : (W.alloc o).heap[k]? = x := by
  rw [← h]; simp only [World.alloc]; rw [Array.getElem?_push]; rw [if_neg (by omega)]
theorem heap_grown {w w' : World} {b k : Nat} {x : Option Obj} (hg : w.grownBy w' (some b)) (hk : k < w.heap.size) (hne : k ≠ b) (h : w.heap[k]? = x) : w'.heap[k]? = x := by
  rw [← h]; exact hg.block k hk (by simpa using hne)
theorem step_append_i64g (w : World) {ops : Array Oper} {o : Oper} {act : Act} {K : Act → World → Prop} {Q : Exit → Act → World → Prop} {E : Prop} (hgd : o.guard = none) (s x : Operand)
    (ho : o.op = .call { callee := .builtin .append, args := #[s, x], argTypes := #[22, 22] })
    (B : Nat) (b : Nat) (hs : act.eval s = .slice (some ⟨b, 0, none⟩) 0 0) (hB : B ≤ b) (hh : w.heap[b]? = some (.cells #[] 2))
    (A : Option Addr) (m c : Nat) (y : List Int) (hx : act.eval x = .slice A m c) (hr : Row w A m c (i64s y)) (hsum : m ≤ 1048576)
    (h : ∀ a' cap' w', Own 2 w' B a' m cap' (i64s y) → Below B w w' → w.grownBy w' (some b) →
      ((Value.slice a' m cap').ownBlock = some b ∨ (Value.slice a' m cap').ownBlock = some w.heap.size) → K (act.put o.dst (.slice a' m cap')) w') :
    if Region.wanted o (yielded ops act.tmps) = true then Oper.wp Try.prog o act w K Q else E := by
  have hw : Region.wanted o (yielded ops act.tmps) = true := by simp [Region.wanted, hgd]
  rw [if_pos hw]
  have hbs : b < w.heap.size := by
    rcases Nat.lt_or_ge b w.heap.size with h | h
    · exact h
    · rw [Array.getElem?_eq_none h] at hh; cases hh
  obtain ⟨a', cap', w', hrun, h2, h3, h4, h5⟩ := run_append_i64 w o.type B _ 0 0 [] (own_at hB hh) A m c y hr (by omega) (by omega)
  rw [Nat.zero_add] at hrun h2 h5
  unfold Oper.wp execOp
  simp only [ho, resolve, invoke, builtin, Sem.run_bind, Sem.run_pure, Result.andThen_ok, List.map_toArray, List.map_cons, List.map_nil, hs, hx, hrun]
  exact h a' cap' w' h2 h3 h4 h5
theorem step_append_strg (w : World) {ops : Array Oper} {o : Oper} {act : Act} {K : Act → World → Prop} {Q : Exit → Act → World → Prop} {E : Prop} (hgd : o.guard = none) (s x : Operand)
    (ho : o.op = .call { callee := .builtin .append, args := #[s, x], argTypes := #[23, 23] })
    (B : Nat) (b : Nat) (hs : act.eval s = .slice (some ⟨b, 0, none⟩) 0 0) (hB : B ≤ b) (hh : w.heap[b]? = some (.cells #[] 9))
    (A : Option Addr) (m c : Nat) (y : List ByteArray) (hx : act.eval x = .slice A m c) (hr : Row w A m c (strs y)) (hsum : m ≤ 1048576)
    (h : ∀ a' cap' w', Own 9 w' B a' m cap' (strs y) → Below B w w' → w.grownBy w' (some b) →
      ((Value.slice a' m cap').ownBlock = some b ∨ (Value.slice a' m cap').ownBlock = some w.heap.size) → K (act.put o.dst (.slice a' m cap')) w') :
    if Region.wanted o (yielded ops act.tmps) = true then Oper.wp Try.prog o act w K Q else E := by
  have hw : Region.wanted o (yielded ops act.tmps) = true := by simp [Region.wanted, hgd]
  rw [if_pos hw]
  have hbs : b < w.heap.size := by
    rcases Nat.lt_or_ge b w.heap.size with h | h
    · exact h
    · rw [Array.getElem?_eq_none h] at hh; cases hh
  obtain ⟨a', cap', w', hrun, h2, h3, h4, h5⟩ := run_append_str w o.type B _ 0 0 [] (own_at hB hh) A m c y hr (by omega) (by omega)
  rw [Nat.zero_add] at hrun h2 h5
  unfold Oper.wp execOp
  simp only [ho, resolve, invoke, builtin, Sem.run_bind, Sem.run_pure, Result.andThen_ok, List.map_toArray, List.map_cons, List.map_nil, hs, hx, hrun]
  exact h a' cap' w' h2 h3 h4 h5
theorem own_kept {e : TypeId} {w w' : World} {B b : Nat} {a : Option Addr} {n cap : Nat} {vs : List Value} (h : Own e w B a n cap vs) (hg : w.grownBy w' (some b)) (hne : (Value.slice a n cap).ownBlock ≠ some b) : Own e w' B a n cap vs := ⟨h.1.kept hg (.inr hne), h.2⟩
theorem box_cells {W : World} {k : Nat} (h : W.heap[k]? = some (.cells #[.int .i64 0, .slice none 0 0, .slice none 0 0] 25)) : W.cell? ⟨k, 0, none⟩ = some (.int .i64 0) ∧ W.cell? ⟨k, 1, none⟩ = some (.slice none 0 0) ∧ W.cell? ⟨k, 2, none⟩ = some (.slice none 0 0) ∧ W.frozen? ⟨k, 0, none⟩ = false ∧ W.frozen? ⟨k, 1, none⟩ = false ∧ W.frozen? ⟨k, 2, none⟩ = false := by
  simp [World.cell?, World.frozen?, h]
theorem set_grown (w : World) (p : Addr) (v : Value) : w.grownBy (w.setCell p v) (some p.block) := by
  have b := (Below.refl p.block w).setCell (p := p) (Nat.le_refl _) v
  exact ⟨b.os, b.tape, b.output, b.size, fun k _ hk => Below.heap_setCell _ _ _ _ (by intro h; exact hk (by rw [h]))⟩
theorem alloc_heap (w : World) (o : Obj) : (w.alloc o).heap = w.heap.push o := rfl
theorem set_keep {W : World} {k i g : Nat} {v a b c : Value} (h : W.cell? ⟨k, i, none⟩ = some v) (hne : k ≠ g) : (((W.setCell ⟨g, 0, none⟩ a).setCell ⟨g, 1, none⟩ b).setCell ⟨g, 2, none⟩ c).cell? ⟨k, i, none⟩ = some v := by
  rw [World.cell?_setCell_other _ _ _ _ (by simp [hne]), World.cell?_setCell_other _ _ _ _ (by simp [hne]), World.cell?_setCell_other _ _ _ _ (by simp [hne])]; exact h
theorem drew_heap (W : World) : W.drew.heap = W.heap := rfl
theorem below_al {N : Nat} {w W : World} (h : Below N w W) (hN : N ≤ w.heap.size) (o : Obj) : Below N w (W.alloc o) := h.alloc (Nat.le_trans hN h.size) o
abbrev boxed : Array Value := #[.int .i64 0, .slice none 0 0, .slice none 0 0]
theorem keep_type {w w' : World} {b t : Nat} {c : Array Value} (hg : w.grownBy w' (some b)) (hb : w.heap[b]? = some (.cells c t (0, 0))) : ∀ (k s : Nat) (d : Array Value) (f : Nat × Nat), s ≠ t → w.heap[k]? = some (.cells d s f) → w'.heap[k]? = some (.cells d s f) := by
  intro k s d f hst hk
  have hlt : k < w.heap.size := (Array.getElem?_eq_some_iff.1 hk).1
  have hne : k ≠ b := by
    intro e
    subst e
    rw [hb] at hk
    injection hk with hk
    injection hk with _ e2
    exact hst e2.symm
  exact (hg.block k hlt (by simpa using hne)).trans hk
theorem own_other {e t : TypeId} {w : World} {B g : Nat} {a : Option Addr} {n cap : Nat} {vs : List Value} {c : Array Value} {f : Nat × Nat} (h : Own e w B a n cap vs) (hg : w.heap[g]? = some (.cells c t f)) (hne : e ≠ t) : (Value.slice a n cap).ownBlock ≠ some g := by
  rcases h.1.2 with ⟨hv, _⟩ | ⟨k, c', cur, hv, hB, hh, _⟩
  · rw [hv]; simp [Value.ownBlock]
  · rw [hv]
    simp only [Value.ownBlock]
    intro e'
    injection e' with e'
    subst e'
    rw [hh] at hg
    injection hg with hg
    injection hg with _ e2
    exact hne e2
theorem own_type {e t : TypeId} {w w' : World} {B b : Nat} {a : Option Addr} {n cap : Nat} {vs : List Value} {c : Array Value} {f : Nat × Nat} (h : Own e w B a n cap vs) (hg : w.grownBy w' (some b)) (hb : w.heap[b]? = some (.cells c t f)) (hne : e ≠ t) : Own e w' B a n cap vs :=
  own_kept h hg (own_other h hb hne)
theorem box_end {w W : World} {o : Obj} {B g : Nat} {r : M.Rc} {a4 : Option Addr} {n cap4 : Nat} {a6 : Option Addr} {nT cap6 : Nat} (ho : Own 2 W B a4 n cap4 (i64s r.nums)) (ht : Own 9 W B a6 nT cap6 (strs r.texts))
    (hbx : W.heap[g]? = some (.cells #[.int .i64 0, .slice none 0 0, .slice none 0 0] 25 (0, 0))) (hb : Bx w o W) (hg : w.heap.size < g) :
    let F := ((W.setCell ⟨g, 0, none⟩ (.int .i64 r.kind)).setCell ⟨g, 1, none⟩ (.slice a4 n cap4)).setCell ⟨g, 2, none⟩ (.slice a6 nT cap6)
    g < F.heap.size ∧ F.cell? ⟨g, 0, none⟩ = some (.int .i64 r.kind) ∧ F.cell? ⟨g, 1, none⟩ = some (.slice a4 n cap4) ∧ F.cell? ⟨g, 2, none⟩ = some (.slice a6 nT cap6) ∧ RecAt F r a4 n cap4 a6 nT cap6 ∧ Bx w o F := by
  obtain ⟨c0, c1, c2, _, _, _⟩ := box_cells hbx
  have h4 := own_other ho hbx (by decide)
  have h6 := own_other ht hbx (by decide)
  have hlt : g < W.heap.size := (Array.getElem?_eq_some_iff.1 hbx).1
  have g1 := set_grown W ⟨g, 0, none⟩ (.int .i64 r.kind)
  have g2 := set_grown (W.setCell ⟨g, 0, none⟩ (.int .i64 r.kind)) ⟨g, 1, none⟩ (.slice a4 n cap4)
  have g3 := set_grown ((W.setCell ⟨g, 0, none⟩ (.int .i64 r.kind)).setCell ⟨g, 1, none⟩ (.slice a4 n cap4)) ⟨g, 2, none⟩ (.slice a6 nT cap6)
  refine ⟨Nat.lt_of_lt_of_le hlt (Nat.le_trans g1.size (Nat.le_trans g2.size g3.size)), ?_, ?_, ?_, ⟨(own_row (own_kept (own_kept (own_kept ho g1 h4) g2 h4) g3 h4)).1, (own_row (own_kept (own_kept (own_kept ht g1 h6) g2 h6) g3 h6)).1⟩, ((hb.set _ hg).set _ hg).set _ hg⟩
  · rw [World.cell?_setCell_other _ _ _ _ (by simp), World.cell?_setCell_other _ _ _ _ (by simp)]; exact World.cell?_setCell_same _ _ _ c0
  · rw [World.cell?_setCell_other _ _ _ _ (by simp)]; exact World.cell?_setCell_same _ _ _ ((World.cell?_setCell_other _ _ _ _ (by simp)).trans c1)
  · exact World.cell?_setCell_same _ _ _ ((World.cell?_setCell_other _ _ _ _ (by simp)).trans ((World.cell?_setCell_other _ _ _ _ (by simp)).trans c2))
theorem box_fresh {w W : World} {o : Obj} {B : Nat} {r : M.Rc} {a4 : Option Addr} {n cap4 : Nat} {a6 : Option Addr} {nT cap6 : Nat} (ho : Own 2 W B a4 n cap4 (i64s r.nums)) (ht : Own 9 W B a6 nT cap6 (strs r.texts)) (hb : Bx w o W) :
    let F := W.alloc (.cells #[.int .i64 r.kind, .slice a4 n cap4, .slice a6 nT cap6] 25)
    W.heap.size < F.heap.size ∧ F.cell? ⟨W.heap.size, 0, none⟩ = some (.int .i64 r.kind) ∧ F.cell? ⟨W.heap.size, 1, none⟩ = some (.slice a4 n cap4) ∧ F.cell? ⟨W.heap.size, 2, none⟩ = some (.slice a6 nT cap6) ∧ RecAt F r a4 n cap4 a6 nT cap6 ∧ Bx w o F := by
  have hal := (Below.refl W.heap.size W).alloc (Nat.le_refl _) (.cells #[.int .i64 r.kind, .slice a4 n cap4, .slice a6 nT cap6] 25)
  refine ⟨by show W.heap.size < (W.heap.push _).size; rw [Array.size_push]; omega, ?_, ?_, ?_, ⟨(own_row (own_below ho hal (Nat.le_refl _))).1, (own_row (own_below ht hal (Nat.le_refl _))).1⟩, hb.alloc _⟩
  · rw [World.cell?_alloc_mark]; rfl
  · rw [World.cell?_alloc_mark]; rfl
  · rw [World.cell?_alloc_mark]; rfl
theorem row_nil (W : World) : Row W none 0 0 (u8s []) := ⟨rfl, Nat.le_refl _, by simp [maxLen], .inl rfl⟩
theorem both (r : M.Rc) (hf : M.Fits r) : ∃ (L : List UInt8) (n : Nat) (z : Int) (b : Bool),
    (∀ (W : World) (aN : Option Addr) (nN cN : Nat) (aT : Option Addr) (nT cT : Nat), RecAt W r aN nN cN aT nT cT → Calls Try.prog 14 #[.agg #[.int .i64 r.kind, .slice aN nN cN, .slice aT nT cT]] W fun e w' => ∃ a cap, e = .returned (.tuple #[.slice a n cap, .int .i64 z]) ∧ Row w' a n cap (u8s L) ∧ Below W.heap.size W w') ∧
    (∀ (W : World) (aN : Option Addr) (nN cN : Nat) (aT : Option Addr) (nT cT : Nat), RecAt W r aN nN cN aT nT cT → Calls Try.prog 15 #[.agg #[.int .i64 r.kind, .slice aN nN cN, .slice aT nT cT]] W fun e w' => ∃ a cap, e = .returned (.tuple #[.slice a n cap, .int .i64 z]) ∧ Row w' a n cap (u8s L) ∧ Below W.heap.size W w') ∧
    (∀ (W : World) (aN : Option Addr) (nN cN : Nat) (aT : Option Addr) (nT cT : Nat), RecAt W r aN nN cN aT nT cT → Calls Try.prog 16 #[.agg #[.int .i64 r.kind, .slice aN nN cN, .slice aT nT cT]] W fun e w' => e = .returned (.bool b) ∧ Below W.heap.size W w') ∧
    (∀ (W : World) (aN : Option Addr) (nN cN : Nat) (aT : Option Addr) (nT cT : Nat), RecAt W r aN nN cN aT nT cT → Calls Try.prog 17 #[.agg #[.int .i64 r.kind, .slice aN nN cN, .slice aT nT cT]] W fun e w' => e = .returned (.bool b) ∧ Below W.heap.size W w') ∧
    (∀ (W : World) (aN : Option Addr) (nN cN : Nat) (aT : Option Addr) (nT cT : Nat), RecAt W r aN nN cN aT nT cT → Calls Try.prog 18 #[.agg #[.int .i64 r.kind, .slice aN nN cN, .slice aT nT cT]] W fun e w' => e = .returned (.int .i64 (n : Int)) ∧ Below W.heap.size W w') := by
  by_cases hm : M.May r
  · refine ⟨M.enc r, (M.enc r).length, 0, true, ?_, ?_, ?_, ?_, ?_⟩
    · intro W aN nN cN aT nT cT h
      refine (encode_yes W r aN nN cN aT nT cT h hm hf).mono ?_
      rintro e w' ⟨a, cap, rfl, ho, hb⟩
      exact ⟨a, cap, rfl, (own_row ho).1, hb⟩
    · intro W aN nN cN aT nT cT h
      refine (refencode_yes W r aN nN cN aT nT cT h hm hf).mono ?_
      rintro e w' ⟨a, cap, rfl, ho, hb⟩
      exact ⟨a, cap, rfl, (own_row ho).1, hb⟩
    · intro W aN nN cN aT nT cT h
      exact may_yes W r aN nN cN aT nT cT h hm
    · intro W aN nN cN aT nT cT h
      exact refmay_yes W r aN nN cN aT nT cT h hm
    · intro W aN nN cN aT nT cT h
      exact size_yes W r aN nN cN aT nT cT h hm hf
  · refine ⟨[], 0, 4, false, ?_, ?_, ?_, ?_, ?_⟩
    · intro W aN nN cN aT nT cT h
      refine (encode_no W r aN nN cN aT nT cT h hm).mono ?_
      rintro e w' ⟨rfl, hb⟩
      exact ⟨none, 0, rfl, row_nil w', hb⟩
    · intro W aN nN cN aT nT cT h
      refine (refencode_no W r aN nN cN aT nT cT h hm).mono ?_
      rintro e w' ⟨rfl, hb⟩
      exact ⟨none, 0, rfl, row_nil w', hb⟩
    · intro W aN nN cN aT nT cT h
      exact may_no W r aN nN cN aT nT cT h hm
    · intro W aN nN cN aT nT cT h
      exact refmay_no W r aN nN cN aT nT cT h hm
    · intro W aN nN cN aT nT cT h
      exact size_no W r aN nN cN aT nT cT h hm
theorem s_all {w wc w4 w5 w' : World} {r : M.Rc} {aN0 : Option Addr} {nN0 cN0 : Nat} {aT0 : Option Addr} {nT0 cT0 : Nat} {g : Nat} {v0 v1 v2 : Value} {a4 a5 : Option Addr} {n cap4 cap5 : Nat} {L : List UInt8}
    (hbx : Bx w (.cells #[.int .i64 r.kind, .slice aN0 nN0 cN0, .slice aT0 nT0 cT0] 25) wc) (b4 : Below wc.heap.size wc w4) (b5 : Below w4.heap.size w4 w5) (hg : g < wc.heap.size)
    (e0 : wc.cell? ⟨g, 0, none⟩ = some v0) (e1 : wc.cell? ⟨g, 1, none⟩ = some v1) (e2 : wc.cell? ⟨g, 2, none⟩ = some v2)
    (o4 : Row w4 a4 n cap4 (u8s L)) (o5 : Row w5 a5 n cap5 (u8s L)) (hb : Below w5.heap.size w5 w') :
    w'.cell? ⟨w.heap.size, 0, none⟩ = some (.int .i64 r.kind) ∧ w'.cell? ⟨w.heap.size, 1, none⟩ = some (.slice aN0 nN0 cN0) ∧ w'.cell? ⟨w.heap.size, 2, none⟩ = some (.slice aT0 nT0 cT0) ∧
    w'.cell? ⟨g, 0, none⟩ = some v0 ∧ w'.cell? ⟨g, 1, none⟩ = some v1 ∧ w'.cell? ⟨g, 2, none⟩ = some v2 ∧
    (convert 28 9 (.slice a4 n cap4)).run Try.prog w' = .ok (.string (str L)) w' ∧ (convert 28 9 (.slice a5 n cap5)).run Try.prog w' = .ok (.string (str L)) w' := by
  have hall : Below wc.heap.size wc w' := (b4.trans (b5.mono b4.size)).trans (hb.mono (Nat.le_trans b4.size b5.size))
  obtain ⟨k0, k1, k2⟩ := (hbx.next hall (Nat.le_refl _)).cells
  refine ⟨k0, k1, k2, ?_, ?_, ?_, run_string_bytes (row_below (row_below o4 b5 (Nat.le_refl _)) hb (Nat.le_refl _)), run_string_bytes (row_below o5 hb (Nat.le_refl _))⟩
  · rw [hall.cell (p := ⟨g, 0, none⟩) hg]; exact e0
  · rw [hall.cell (p := ⟨g, 1, none⟩) hg]; exact e1
  · rw [hall.cell (p := ⟨g, 2, none⟩) hg]; exact e2

set_option maxHeartbeats 8000000 in
theorem walk (r0 : M.Rc) (aN0 : Option Addr) (nN0 cN0 : Nat) (aT0 : Option Addr) (nT0 cT0 : Nat) (x1 : Int) (w : World) (w0 : RecAt w r0 aN0 nN0 cN0 aT0 nT0 cT0) (f0 : M.Fits r0) (w1 : (Lit.int .i64 x1).wf = true) :
    Calls Try.prog 3 #[.agg #[.int .i64 r0.kind, .slice aN0 nN0 cN0, .slice aT0 nT0 cT0], .int .i64 x1] w fun e w' => e = .returned (.bool true) ∧ Below w.heap.size w w' := by
  have H := Lib.hid w0
  have F := Lib.hid f0
  have hfit : M.fits x1 := by simp [Lit.wf, IntKind.min, IntKind.max, IntKind.signed, IntKind.bits] at w1; unfold M.fits; omega
  have Hfit := Lib.hid hfit
  clear w0 f0 w1 hfit
  by_cases hl : nN0 ≤ 1000 ∧ nT0 ≤ 1000
  · obtain ⟨hl1, hl2⟩ := hl
    have Hl1 := Lib.hid hl1
    have Hl2 := Lib.hid hl2
    go_enter Try.func3, Try.ntmps3
    go_upto_region 5 with (first
        | (go_at_call 12; refine (awake_any _).mono ?_; rintro e w1 ⟨rfl, hb⟩; have B1 := Lib.hid ((Bx.refl w (.cells #[.int .i64 r0.kind, .slice aN0 nN0 cN0, .slice aT0 nT0 cT0] 25)).next hb (Nat.le_refl _)); obtain ⟨c1, c2, c3⟩ := B1.out.cells; clear hb)
        | (go_at_call 13; refine (large_no _ _ _ _ _ _ _ _ hl1 hl2).mono ?_; rintro e w3 ⟨rfl, hb⟩; have B3 := Lib.hid (B1.out.next hb (Nat.le_refl _)); obtain ⟨d1, d2, d3⟩ := B3.out.cells; clear hb))
    clear c1 c2 c3 hl1 hl2
    have HR3 := Lib.hid (B3.out.rec H.out)
    have hwsz := B3.out.size
    go_cut [5] (fun s wx => ∃ (g : Nat) (aN : Option Addr) (cN : Nat) (aT : Option Addr) (cT : Nat), s = .pointer (some ⟨g, 0, none⟩) ∧ g < wx.heap.size ∧ wx.cell? ⟨g, 0, none⟩ = some (.int .i64 r0.kind) ∧ wx.cell? ⟨g, 1, none⟩ = some (.slice aN nN0 cN) ∧ wx.cell? ⟨g, 2, none⟩ = some (.slice aT nT0 cT) ∧ RecAt wx r0 aN nN0 cN aT nT0 cT ∧ Bx w (.cells #[.int .i64 r0.kind, .slice aN0 nN0 cN0, .slice aT0 nT0 cT0] 25) wx)
    case first =>
      go_region_held_law (fun w' => w'.cell? ⟨w.heap.size, 0, none⟩ = some (.int .i64 r0.kind) ∧ w'.cell? ⟨w.heap.size, 1, none⟩ = some (.slice aN0 nN0 cN0) ∧ w'.cell? ⟨w.heap.size, 2, none⟩ = some (.slice aT0 nT0 cT0)) (first | (refine Bx.cells (Bx.next B3.out (B := w3.heap.size) ?_ (Nat.le_refl _)); (repeat (first | refine below_al ?_ (Nat.le_refl _) _ | refine Below.drew ?_)); (first | exact Below.refl _ _ | exact HB6.out | exact HB4.out); done) | (go_keep; done) | (exact ⟨set_keep (by assumption) (by omega), set_keep (by assumption) (by omega), set_keep (by assumption) (by omega)⟩))
        (first
          | (refine step_append_i64g _ rfl (.tmp 16) (.tmp 18) rfl w3.heap.size _ rfl (by first | omega | (simp only [alloc_heap, drew_heap, Array.size_push] <;> omega) | (simp [drew_heap] <;> omega) | fail) (by first | ((try simp only [alloc_heap, drew_heap, Array.getElem?_push, Array.size_push, if_true, if_false]); all_goals ((repeat' split) <;> (first | rfl | (exfalso; omega) | assumption | fail))) | fail) aN0 nN0 cN0 r0.nums rfl (row_below HR3.out.nums (B := w3.heap.size) (by (repeat (first | refine below_al ?_ (Nat.le_refl _) _ | refine Below.drew ?_)); first | exact Below.refl _ _ | fail) (Nat.le_refl _)) (by have := Hl1.out; omega) ?_
             intro a4 cap4 w4 hown hb hg hat
             have HB4 := Lib.hid (show Below w3.heap.size w3 w4 from Below.trans (by (repeat (first | refine below_al ?_ (Nat.le_refl _) _ | refine Below.drew ?_)); first | exact Below.refl _ _ | fail) hb)
             obtain ⟨k0, k1, k2⟩ := (B3.out.next HB4.out (Nat.le_refl _)).cells
             have O4 := Lib.hid hown
             have HT4 := Lib.hid (keep_type (t := 2) (c := #[]) hg (by first | ((try simp only [alloc_heap, drew_heap, Array.getElem?_push, Array.size_push, if_true, if_false]); all_goals ((repeat' split) <;> (first | rfl | (exfalso; omega) | assumption | fail))) | fail))
             have hsz4 := hg.size
             try simp [drew_heap] at hsz4
             clear hb hg hown hat)
          | (refine step_append_strg _ rfl (.tmp 20) (.tmp 22) rfl w3.heap.size _ rfl (by first | omega | (simp only [alloc_heap, drew_heap, Array.size_push] <;> omega) | (simp [drew_heap] <;> omega) | fail) (by first | ((try simp only [alloc_heap, drew_heap, Array.getElem?_push, Array.size_push, if_true, if_false]); all_goals ((repeat' split) <;> (first | rfl | (exfalso; omega) | (exact HT4.out _ _ _ _ (by decide) (by first | ((try simp only [alloc_heap, drew_heap, Array.getElem?_push, Array.size_push, if_true, if_false]); all_goals ((repeat' split) <;> (first | rfl | (exfalso; omega) | assumption | fail))) | fail)) | fail))) | fail) aT0 nT0 cT0 r0.texts rfl (row_below HR3.out.texts (B := w3.heap.size) (by (repeat (first | refine below_al ?_ (Nat.le_refl _) _ | refine Below.drew ?_)); first | exact HB4.out | fail) (Nat.le_refl _)) (by have := Hl2.out; omega) ?_
             intro a6 cap6 w6 hown6 hb6 hg6 hat6
             have HB6 := Lib.hid (show Below w3.heap.size w3 w6 from Below.trans (by (repeat (first | refine below_al ?_ (Nat.le_refl _) _ | refine Below.drew ?_)); first | exact HB4.out | fail) hb6)
             obtain ⟨j0, j1, j2⟩ := (B3.out.next HB6.out (Nat.le_refl _)).cells
             have HT6 := Lib.hid (keep_type (t := 9) (c := #[]) hg6 (by first | ((try simp only [alloc_heap, drew_heap, Array.getElem?_push, Array.size_push, if_true, if_false]); all_goals ((repeat' split) <;> (first | rfl | (exfalso; omega) | (exact HT4.out _ _ _ _ (by decide) (by first | ((try simp only [alloc_heap, drew_heap, Array.getElem?_push, Array.size_push, if_true, if_false]); all_goals ((repeat' split) <;> (first | rfl | (exfalso; omega) | assumption | fail))) | fail)) | fail))) | fail))
             have hsz6 := hg6.size
             try simp [drew_heap] at hsz6
             have N6 := Lib.hid (show Own 2 w6 w3.heap.size a4 nN0 cap4 (i64s r0.nums) from own_type (t := 9) (c := #[]) (f := (0, 0)) (own_below (C := w4.heap.size) O4.out (by (repeat (first | refine below_al ?_ (Nat.le_refl _) _ | refine Below.drew ?_)); first | exact Below.refl _ _ | fail) (Nat.le_refl _)) hg6 (by first | ((try simp only [alloc_heap, drew_heap, Array.getElem?_push, Array.size_push, if_true, if_false]); all_goals ((repeat' split) <;> (first | rfl | (exfalso; omega) | (exact HT4.out _ _ _ _ (by decide) (by first | ((try simp only [alloc_heap, drew_heap, Array.getElem?_push, Array.size_push, if_true, if_false]); all_goals ((repeat' split) <;> (first | rfl | (exfalso; omega) | assumption | fail))) | fail)) | fail))) | fail) (by decide))
             try (have yy := HT6.out w3.heap.size 25 #[.int .i64 0, .slice none 0 0, .slice none 0 0] (0, 0) (by decide) (by first | ((try simp only [alloc_heap, drew_heap, Array.getElem?_push, Array.size_push, if_true, if_false]); all_goals ((repeat' split) <;> (first | rfl | (exfalso; omega) | (exact HT4.out _ _ _ _ (by decide) (by first | ((try simp only [alloc_heap, drew_heap, Array.getElem?_push, Array.size_push, if_true, if_false]); all_goals ((repeat' split) <;> (first | rfl | (exfalso; omega) | assumption | fail))) | fail)) | fail))) | fail); have HY := Lib.hid yy; obtain ⟨y0, y1, y2, y3, y4, y5⟩ := box_cells yy; clear yy)
             try (have yy := HT6.out (w3.heap.size + 1) 25 #[.int .i64 0, .slice none 0 0, .slice none 0 0] (0, 0) (by decide) (by first | ((try simp only [alloc_heap, drew_heap, Array.getElem?_push, Array.size_push, if_true, if_false]); all_goals ((repeat' split) <;> (first | rfl | (exfalso; omega) | (exact HT4.out _ _ _ _ (by decide) (by first | ((try simp only [alloc_heap, drew_heap, Array.getElem?_push, Array.size_push, if_true, if_false]); all_goals ((repeat' split) <;> (first | rfl | (exfalso; omega) | assumption | fail))) | fail)) | fail))) | fail); have HY := Lib.hid yy; obtain ⟨y0, y1, y2, y3, y4, y5⟩ := box_cells yy; clear yy)
             try (have yy := HT6.out (w3.heap.size + 1 + 1) 25 #[.int .i64 0, .slice none 0 0, .slice none 0 0] (0, 0) (by decide) (by first | ((try simp only [alloc_heap, drew_heap, Array.getElem?_push, Array.size_push, if_true, if_false]); all_goals ((repeat' split) <;> (first | rfl | (exfalso; omega) | (exact HT4.out _ _ _ _ (by decide) (by first | ((try simp only [alloc_heap, drew_heap, Array.getElem?_push, Array.size_push, if_true, if_false]); all_goals ((repeat' split) <;> (first | rfl | (exfalso; omega) | assumption | fail))) | fail)) | fail))) | fail); have HY := Lib.hid yy; obtain ⟨y0, y1, y2, y3, y4, y5⟩ := box_cells yy; clear yy)
             try (have yy := HT6.out w4.heap.size 25 #[.int .i64 0, .slice none 0 0, .slice none 0 0] (0, 0) (by decide) (by first | ((try simp only [alloc_heap, drew_heap, Array.getElem?_push, Array.size_push, if_true, if_false]); all_goals ((repeat' split) <;> (first | rfl | (exfalso; omega) | (exact HT4.out _ _ _ _ (by decide) (by first | ((try simp only [alloc_heap, drew_heap, Array.getElem?_push, Array.size_push, if_true, if_false]); all_goals ((repeat' split) <;> (first | rfl | (exfalso; omega) | assumption | fail))) | fail)) | fail))) | fail); have HY := Lib.hid yy; obtain ⟨y0, y1, y2, y3, y4, y5⟩ := box_cells yy; clear yy)
             try (have yy := HT6.out (w4.heap.size + 1) 25 #[.int .i64 0, .slice none 0 0, .slice none 0 0] (0, 0) (by decide) (by first | ((try simp only [alloc_heap, drew_heap, Array.getElem?_push, Array.size_push, if_true, if_false]); all_goals ((repeat' split) <;> (first | rfl | (exfalso; omega) | (exact HT4.out _ _ _ _ (by decide) (by first | ((try simp only [alloc_heap, drew_heap, Array.getElem?_push, Array.size_push, if_true, if_false]); all_goals ((repeat' split) <;> (first | rfl | (exfalso; omega) | assumption | fail))) | fail)) | fail))) | fail); have HY := Lib.hid yy; obtain ⟨y0, y1, y2, y3, y4, y5⟩ := box_cells yy; clear yy)
             have O6 := Lib.hid hown6
             clear hown6 hb6 hg6 hat6 k0 k1 k2))
      all_goals
        go_wp2_with fail
        go_meet
        first
          | exact ⟨_, a4, cap4, a6, cap6, rfl, box_end N6.out O6.out HY.out (B3.out.next HB6.out (Nat.le_refl _)) (by omega)⟩
          | exact ⟨_, a4, cap4, a6, cap6, rfl, box_fresh N6.out O6.out (B3.out.next HB6.out (Nat.le_refl _))⟩
    case rest =>
      obtain ⟨g, aN, cN, aT, cT, rfl, hgl, e0, e1, e2, hr', hbx⟩ := hcut
      have HRc := Lib.hid hr'
      have BXc := Lib.hid hbx
      have HG := Lib.hid hgl
      clear hr' hbx hgl d1 d2 d3
      obtain ⟨L, n, z, b, hE, hR, hM, hRM, hZ⟩ := both r0 F.out
      have HE := Lib.hid hE
      have HRE := Lib.hid hR
      have HM := Lib.hid hM
      have HRM := Lib.hid hRM
      have HZ := Lib.hid hZ
      clear hE hR hM hRM hZ
      have hN := fun W => number2_any x1 W Hfit.out
      have hRN := fun W => refnumber_any x1 W Hfit.out
      generalize M.num x1 = D at hN hRN
      generalize D.length = nd at hN hRN
      have HN := Lib.hid hN
      have HRN := Lib.hid hRN
      clear hN hRN
      go_wp2_with (first
          | (go_at_call 14; refine (HE.out _ _ _ _ _ _ _ HRc.out).mono ?_; rintro e w4 ⟨a4, cap4, rfl, ho, hb⟩; have K4 := Lib.hid (BXc.out.next hb (Nat.le_refl _)); have Hb4 := Lib.hid hb; have O4 := Lib.hid ho; obtain ⟨c0, c1, c2⟩ := K4.out.cells; clear ho hb)
          | (go_at_call 15; refine (HRE.out _ _ _ _ _ _ _ (K4.out.rec H.out)).mono ?_; rintro e w5 ⟨a5, cap5, rfl, ho, hb⟩; have Hb5 := Lib.hid hb; have O5 := Lib.hid ho; clear ho hb))
      have HS : Hid (∀ w', Below w5.heap.size w5 w' → _) := Lib.hid (fun w' hb => s_all BXc.out Hb4.out Hb5.out HG.out e0 e1 e2 O4.out O5.out hb)
      have hall : ∀ w', Below w5.heap.size w5 w' → Below wc.heap.size wc w' := fun w' hb => (Hb4.out.trans (Hb5.out.mono Hb4.out.size)).trans (hb.mono (Nat.le_trans Hb4.out.size Hb5.out.size))
      have HA : Hid (∀ w', Below w5.heap.size w5 w' → RecAt w' r0 aN nN0 cN aT nT0 cT) := Lib.hid (fun w' hb => HRc.out.below (hall w' hb) (Nat.le_refl _))
      have HB : Hid (∀ w', Below w5.heap.size w5 w' → RecAt w' r0 aN0 nN0 cN0 aT0 nT0 cT0) := Lib.hid (fun w' hb => (BXc.out.next (hall w' hb) (Nat.le_refl _)).rec H.out)
      have HO : Hid (∀ w', Below w5.heap.size w5 w' → Below w.heap.size w w') := Lib.hid (fun w' hb => (BXc.out.next (hall w' hb) (Nat.le_refl _)).old)
      clear hall c0 c1 c2 e0 e1 e2
      have K5 := Lib.hid ((Below.refl w5.heap.size w5).drew)
      go_region_held_law (fun w' => w'.cell? ⟨w.heap.size, 0, none⟩ = some (.int .i64 r0.kind) ∧ w'.cell? ⟨w.heap.size, 1, none⟩ = some (.slice aN0 nN0 cN0) ∧ w'.cell? ⟨w.heap.size, 2, none⟩ = some (.slice aT0 nT0 cT0) ∧
            w'.cell? ⟨g, 0, none⟩ = some (.int .i64 r0.kind) ∧ w'.cell? ⟨g, 1, none⟩ = some (.slice aN nN0 cN) ∧ w'.cell? ⟨g, 2, none⟩ = some (.slice aT nT0 cT) ∧
            (convert 28 9 (.slice a4 n cap4)).run Try.prog w' = .ok (.string (str L)) w' ∧ (convert 28 9 (.slice a5 n cap5)).run Try.prog w' = .ok (.string (str L)) w')
          (first | exact HS.out _ K5.out | exact HS.out _ K6.out | exact HS.out _ K7.out | exact HS.out _ K8.out | exact HS.out _ K9.out | exact HS.out _ K10.out | exact HS.out _ K11.out | exact HS.out _ (Below.refl _ _))
          (first
            | (go_at_call 16; refine (HM.out _ _ _ _ _ _ _ (HA.out _ K5.out)).mono ?_; rintro e w6 ⟨rfl, hb⟩; have K6 := Lib.hid (K5.out.trans (hb.mono K5.out.size)); clear hb)
            | (go_at_call 17; refine (HRM.out _ _ _ _ _ _ _ (HB.out _ K6.out)).mono ?_; rintro e w7 ⟨rfl, hb⟩; have K7 := Lib.hid (K6.out.trans (hb.mono K6.out.size)); clear hb)
            | (go_at_call 18; refine (HZ.out _ _ _ _ _ _ _ (HA.out _ K7.out)).mono ?_; rintro e w8 ⟨rfl, hb⟩; have K8 := Lib.hid (K7.out.trans (hb.mono K7.out.size)); clear hb)
            | (go_at_call 19; refine (HN.out _).mono ?_; rintro e w9 ⟨a9, cap9, rfl, ho, hb⟩; have K9 := Lib.hid (K8.out.trans (hb.mono K8.out.size)); have O9 := Lib.hid (own_row ho).1; have q9 := run_string_bytes (own_row ho).1; clear ho hb)
            | (go_at_call 20; refine (HRN.out _).mono ?_; rintro e w10 ⟨a10, cap10, rfl, ho, hb⟩; have K10 := Lib.hid (K9.out.trans (hb.mono K9.out.size)); have q10 := run_string_bytes (own_row ho).1; have p9 := run_string_bytes (row_below O9.out hb (Nat.le_refl _)); clear ho hb)
            | (go_at_call 21; refine (same_yes _ r0 _ _ _ _ _ _ _ _ _ _ _ _ (HA.out _ K10.out) (HB.out _ K10.out) (by have := Hl1.out; omega) (by have := Hl2.out; omega)).mono ?_; rintro e w11 ⟨rfl, hb⟩; have K11 := Lib.hid (K10.out.trans (hb.mono K10.out.size)); clear hb))
      all_goals
        go_wp2_with fail
        go_ret
        exact ⟨rfl, HO.out _ K11.out⟩
  · go_enter Try.func3, Try.ntmps3
    go_wp2_with (first
        | (go_at_call 12; refine (awake_any _).mono ?_; rintro e w1 ⟨rfl, hb⟩; have B1 := Lib.hid ((Bx.refl w (.cells #[.int .i64 r0.kind, .slice aN0 nN0 cN0, .slice aT0 nT0 cT0] 25)).next hb (Nat.le_refl _)); obtain ⟨c1, c2, c3⟩ := B1.out.cells; clear hb)
        | (go_at_call 13; refine (large_yes _ _ _ _ _ _ _ _ hl).mono ?_; rintro e w2 ⟨rfl, hb⟩; have B2 := Lib.hid (B1.out.next hb (Nat.le_refl _)); clear hb))
    go_ret
    exact ⟨rfl, B2.out.old⟩

set_option maxRecDepth 100000 in
theorem lifted (os : Os) (started : os.Started) (H : Type) (enc : TypeId × Value → H) :
    ReturnsInHanded {} Try.checked os 3 .any (Rows.codeEncodesSpec.pre6 enc Try.prog Try.f3 Rows.codeEncodesRow.domain false) (Rows.codeEncodesSpec.post enc Try.prog Try.f3 false true false false) := by
  refine returnsInHanded_of_change (C := Try.checked) own started (by kernel_rfl) Try.func3
    (ChangeSpec.witness6 (enc := enc) (C := Try.checked) false ⟨#[], #[.agg #[.int .i64 0, .slice none 0 0, .slice none 0 0], .int .i64 0], []⟩ 8 (by kernel_rfl) (by kernel_rfl) (by kernel_rfl) (by kernel_rfl)) ?_
  intro W base args ds gs before hval0 hW hcnd _
  have hval : ∀ (j : Nat) t v, Try.f3.params[j]? = some t → args[j]? = some v → Value.okWide Try.prog W .any base t v := hval0
  have hW' := hW
  obtain ⟨p, q, hA0, hV, rfl, hfz, hnd⟩ := hW
  have hA : DataW.TrodAll enc Try.prog W 0 (fun _ => true) true Try.f3.params.toList args.toList ds p := hA0
  rw [Try.params3] at hA hval
  obtain ⟨v0, vs0, d0, ds0, p0, q0, hargs, rfl, rfl, h0, r0'⟩ := trodAll_cons hA
  obtain ⟨v1, vs1, d1, ds1, p1, q1, rfl, rfl, rfl, h1, r1'⟩ := trodAll_cons r0'
  obtain ⟨rfl, rfl, rfl⟩ := trodAll_nil r1'
  obtain rfl : args = #[v0, v1] := by cases args; simp_all
  obtain ⟨rfl, rfl⟩ := trodVars_none hV
  have k0 := h0
  have lt0 : ∀ x ∈ p0, x.block < W.heap.size := by obtain ⟨m, hm⟩ := k0; exact DataW.trod_lt m _ _ _ hm
  obtain ⟨r0, aN0, nN0, cN0, aT0, nT0, cT0, rfl, w0, f0⟩ := open_rec (hval 0 25 v0 rfl rfl) h0
  obtain ⟨x1, rfl, rfl, rfl, w1⟩ := open_int Try.underlying2 (hval 1 2 v1 rfl rfl) h1
  clear hA0 hval0
  refine (walk r0 aN0 nN0 cN0 aT0 nT0 cT0 x1 W w0 f0 w1).mono fun e W' ⟨he, bel⟩ => ?_
  subst he
  exact ⟨_, rfl, _, _, _, [], _, [], hW', trodAll_mk1 (shut_bool Try.underlying4 _), (trodAll_cons_mk (Below.trod laidOut (by kernel_rfl) (of_decide_eq_true (by kernel_rfl)) k0 bel lt0) (trodAll_cons_mk (shut_int Try.underlying2 w1) trodAll_mk0)), rfl, bel.frame _, fun h => by cases h⟩

theorem over : Rows.codeEncodesRow.holds Try.pinned (OpenSpec.ofChange Rows.codeEncodesSpec) :=
  OpenClaim.holds_of_wide 3 Try.f3 rfl rfl rfl rfl rfl rfl rfl ⟨rfl, rfl, rfl, rfl, rfl⟩ rfl rfl rfl rfl rfl (by kernel_rfl) Try.func3 (by kernel_rfl)
    (of_decide_eq_true (by kernel_rfl)) (by unfold Func.isWrapper; first | (rw [if_pos (by decide +kernel)]; kernel_rfl) | (rw [if_neg (by decide +kernel)]; exact ⟨rfl, rfl⟩))
    (fun os started H enc _ => lifted os started H enc)

/-- the statement -/
theorem proved : Rows.CodeEncodesSaid := over
#print axioms proved
end Go.Proofs.Ytdakfhoadfbfiaa.codeEncodes
