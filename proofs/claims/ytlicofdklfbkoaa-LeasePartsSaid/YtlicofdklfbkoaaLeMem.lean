/-
  Rows of bools in memory; rows that a call makes itself, and what an append onto one leaves.
-/
import Derived.Test.YtlicofdklfbkoaaProg
import Derived.Test.YtlicofdklfbkoaaLeMath
import Derived.WalkKit
import Derived.Lib.Hide
import Derived.Below
import Derived.Maps.AppendAt
import Derived.OwnWalk
import Derived.RegionTactic
import Derived.ChangeAlike
import Derived.Deep.QuietTactic
import Derived.BigQuiet
namespace Go.Proofs.Ytlicofdklfbkoaa.Le
open Go.RowKit
set_option linter.unusedVariables false
set_option linter.unusedSimpArgs false
set_option maxRecDepth 20000

theorem bool_info : (Try.prog.info? 4).map (fun i => (i.zero, i.size, i.bytes)) = some (some (.bool false), 1, 1) := by kernel_rfl
def bits (l : List Bool) : List Value := l.map Value.bool
theorem bits_length (l : List Bool) : (bits l).length = l.length := List.length_map _
theorem bits_append (l m : List Bool) : bits (l ++ m) = bits l ++ bits m := List.map_append
theorem bits_one (l : List Bool) : ∀ u ∈ bits l, u.oneCell' = true := by
  intro u hu
  obtain ⟨_, _, rfl⟩ := List.mem_map.1 hu
  rfl
theorem below_drewN (w : World) (n : Nat) : Below w.heap.size w (w.drewN n) := ⟨rfl, rfl, rfl, Nat.le_refl _, fun _ _ => rfl⟩
theorem bel1 (w : World) (o : Obj) : Below w.heap.size w (w.alloc o) := (Below.refl _ _).alloc (Nat.le_refl _) _
/-- the slice at a, of length n, reads as vs -/
def Row (w : World) (a : Option Addr) (n cap : Nat) (vs : List Value) : Prop :=
  vs.length = n ∧ n ≤ cap ∧ cap ≤ maxLen ∧ (vs = [] ∨ ∃ b off, a = some ⟨b, off, none⟩ ∧ b < w.heap.size ∧ ∀ i, i < n → w.cell? ⟨b, off + i, none⟩ = vs[i]?)

theorem row_below {w w' : World} {B : Nat} {a : Option Addr} {n cap : Nat} {vs : List Value} (h : Row w a n cap vs) (hb : Below B w w') (hB : w.heap.size ≤ B) : Row w' a n cap vs := by
  obtain ⟨h1, h2, h3, h4⟩ := h
  refine ⟨h1, h2, h3, ?_⟩
  rcases h4 with h4 | ⟨b, off, ha, hlt, hc⟩
  · exact .inl h4
  · exact .inr ⟨b, off, ha, Nat.lt_of_lt_of_le hlt hb.size, fun i hi => by rw [hb.cell (p := ⟨b, off + i, none⟩) (Nat.lt_of_lt_of_le hlt hB)]; exact hc i hi⟩

theorem row_same {w w' : World} {a : Option Addr} {n cap : Nat} {vs : List Value} (h : Row w a n cap vs) (hs : w'.heap = w.heap) : Row w' a n cap vs := by
  obtain ⟨h1, h2, h3, h4⟩ := h
  refine ⟨h1, h2, h3, ?_⟩
  rcases h4 with h4 | ⟨b, off, ha, hlt, hc⟩
  · exact .inl h4
  · exact .inr ⟨b, off, ha, by rw [hs]; exact hlt, fun i hi => by rw [← hc i hi]; simp [World.cell?, hs]⟩

def adv (a : Option Addr) (cap k : Nat) : Option Addr := if cap = k then a else a.map (·.add k)

theorem row_drop {w : World} {a : Option Addr} {n cap : Nat} {vs : List Value} (h : Row w a n cap vs) (k : Nat) (hk : k ≤ n) : Row w (adv a cap k) (n - k) (cap - k) (vs.drop k) := by
  obtain ⟨h1, h2, h3, h4⟩ := h
  refine ⟨by rw [List.length_drop, h1], by omega, by omega, ?_⟩
  by_cases h0 : n = k
  · exact .inl (List.eq_nil_of_length_eq_zero (by rw [List.length_drop]; omega))
  · rcases h4 with h4 | ⟨b, off, ha, hlt, hc⟩
    · subst h4; simp at h1; omega
    · refine .inr ⟨b, off + k, ?_, hlt, fun i hi => ?_⟩
      · unfold adv
        rw [if_neg (by omega), ha]
        by_cases g : k = 0 <;> simp [Addr.add, g]
      · rw [Nat.add_assoc, hc (k + i) (by omega), List.getElem?_drop]

theorem row_take {w : World} {a : Option Addr} {n cap : Nat} {vs : List Value} (h : Row w a n cap vs) (k : Nat) (hk : k ≤ n) : Row w (adv a cap 0) k cap (vs.take k) := by
  obtain ⟨h1, h2, h3, h4⟩ := h
  refine ⟨by rw [List.length_take]; omega, by omega, by omega, ?_⟩
  by_cases h0 : k = 0
  · subst h0; exact .inl rfl
  · rcases h4 with h4 | ⟨b, off, ha, hlt, hc⟩
    · subst h4; simp at h1; omega
    · refine .inr ⟨b, off, ?_, hlt, fun i hi => ?_⟩
      · unfold adv
        rw [if_neg (by omega), ha]
        simp [Addr.add]
      · rw [hc i (by omega), List.getElem?_take, if_pos hi]

/-- a store elsewhere -/
theorem row_set {w : World} {a : Option Addr} {n cap : Nat} {vs : List Value} (h : Row w a n cap vs) {p : Addr} (v : Value) (hp : vs = [] ∨ ∀ b off, a = some ⟨b, off, none⟩ → b ≠ p.block) : Row (w.setCell p v) a n cap vs := by
  obtain ⟨h1, h2, h3, h4⟩ := h
  refine ⟨h1, h2, h3, ?_⟩
  rcases h4 with h4 | ⟨b, off, ha, hlt, hc⟩
  · exact .inl h4
  · rcases hp with hp | hp
    · exact .inl hp
    refine .inr ⟨b, off, ha, by simpa [World.setCell] using hlt, fun i hi => ?_⟩
    rw [← hc i hi]
    exact World.cell?_of_block (Below.heap_setCell w p v b (hp b off ha))

/-- a row of the call's own, from block B on, of elements of type e -/
def Own (e : TypeId) (w : World) (B : Nat) (a : Option Addr) (n cap : Nat) (vs : List Value) : Prop :=
  w.ownsRow B e 1 (.slice a n cap) n vs ∧ vs.length = n ∧ n ≤ 17592186044416

theorem own_row {e : TypeId} {w : World} {B : Nat} {a : Option Addr} {n cap : Nat} {vs : List Value} (h : Own e w B a n cap vs) : Row w a n cap vs ∧ ∀ b off, a = some ⟨b, off, none⟩ → B ≤ b ∧ off = 0 := by
  obtain ⟨h1, h2, h3⟩ := h
  rcases h1.2 with ⟨hv, h'⟩ | ⟨g, c, cur, hv, hB, hh, hn, hm, hs, ht⟩
  · injection hv with e1 e2 e3
    subst e1 e2 e3
    exact ⟨⟨h2, by omega, by simp [maxLen], .inl (List.eq_nil_of_length_eq_zero h2)⟩, by simp⟩
  · injection hv with e1 e2 e3
    subst e1 e3
    refine ⟨⟨h2, hn, hm, .inr ⟨g, 0, rfl, (h1.lt g rfl).2, fun i hi => ?_⟩⟩, fun b off hb => ?_⟩
    · rw [Nat.zero_add]; exact World.ownsRow.cellAt h1 i (by omega)
    · injection hb with hb
      injection hb with hb1 hb2
      omega

theorem own_nil (e : TypeId) (w : World) (B : Nat) : Own e w B none 0 0 [] := ⟨World.ownsRow_nil _ _ _ _, rfl, by omega⟩

theorem own_lit (e : TypeId) (w : World) (B : Nat) (vs : List Value) (hB : B ≤ w.heap.size) (hn : vs.length ≤ 1000) : Own e (w.alloc (.cells vs.toArray e)) B (some ⟨w.heap.size, 0, none⟩) vs.length vs.length vs :=
  ⟨World.ownsRow_lit w vs.toArray vs.length hB (by simp only [maxLen]; omega) (by simp), rfl, by omega⟩

theorem own_mono {e : TypeId} {w : World} {B B' : Nat} {a : Option Addr} {n cap : Nat} {vs : List Value} (h : Own e w B a n cap vs) (hB : B' ≤ B) : Own e w B' a n cap vs := by
  obtain ⟨h1, h2⟩ := h
  refine ⟨⟨h1.1, ?_⟩, h2⟩
  rcases h1.2 with h' | ⟨g, c, cur, hv, hg, r⟩
  · exact .inl h'
  · exact .inr ⟨g, c, cur, hv, Nat.le_trans hB hg, r⟩

theorem own_below {e : TypeId} {w w' : World} {B C : Nat} {a : Option Addr} {n cap : Nat} {vs : List Value} (h : Own e w B a n cap vs) (hb : Below C w w') (hC : w.heap.size ≤ C) : Own e w' B a n cap vs := by
  obtain ⟨h1, h2⟩ := h
  have hlt := h1.lt
  refine ⟨⟨h1.1, ?_⟩, h2⟩
  rcases h1.2 with h' | ⟨g, c, cur, hv, hg, hh, r⟩
  · exact .inl h'
  · have := hlt g (by rw [hv]; rfl)
    exact .inr ⟨g, c, cur, hv, hg, by rw [hb.block g (by omega)]; exact hh, r⟩

/-- a store elsewhere -/
theorem own_set {e : TypeId} {w : World} {B : Nat} {a : Option Addr} {n cap : Nat} {vs : List Value} (h : Own e w B a n cap vs) {p : Addr} (v : Value) (hp : p.block < B) : Own e (w.setCell p v) B a n cap vs := by
  obtain ⟨h1, h2⟩ := h
  refine ⟨⟨h1.1, ?_⟩, h2⟩
  rcases h1.2 with h' | ⟨g, c, cur, hv, hg, hh, r⟩
  · exact .inl h'
  · exact .inr ⟨g, c, cur, hv, hg, by rw [Below.heap_setCell _ _ _ _ (by omega)]; exact hh, r⟩

/-- an append onto a row of the call's own: of another row -/
theorem run_append_own' (t e : TypeId) (i : TypeInfo) (z : Value) (bytes : Nat) (ht : Try.prog.underlying t = some (.slice e)) (hi : Try.prog.info? e = some i) (hz : i.zero = some z) (hs : i.size = 1) (hby : i.bytes = bytes) (hzs : z.cells.size = 1) (hb8 : bytes ≤ 16)
    (w : World) (ty : TypeId) (B : Nat) (a : Option Addr) (n cap : Nat) (l : List Value) (hown : Own e w B a n cap l) (A : Option Addr) (m c : Nat) (x : List Value) (hr : Row w A m c x) (h1 : ∀ u ∈ x, u.oneCell' = true)
    (hsum : n + m ≤ 1048576) (hB : B ≤ w.heap.size) :
    ∃ a' cap' w', (Builtin.append_ #[t, t] ty #[.slice a n cap, .slice A m c]).run Try.prog w = .ok (.slice a' (n + m) cap') w' ∧ Own e w' B a' (n + m) cap' (l ++ x) ∧ Below B w w' ∧ w.grownBy w' (Value.slice a n cap).ownBlock ∧ ((Value.slice a' (n + m) cap').ownBlock = (Value.slice a n cap).ownBlock ∨ (Value.slice a' (n + m) cap').ownBlock = some w.heap.size) := by
  obtain ⟨g1, g2, g3⟩ := hown
  obtain ⟨r1, r2, r2', r4⟩ := hr
  have hlen : (l ++ x).length = n + m := by rw [List.length_append, g2, r1]
  have hbnd : (n + m) * bytes ≤ 140737488355328 := by
    have := Nat.mul_le_mul hsum hb8
    omega
  by_cases hm0 : m = 0
  · have hx : x = [] := List.eq_nil_of_length_eq_zero (by omega)
    subst hx
    subst hm0
    refine ⟨a, cap, w, ?_, ⟨by simpa using g1, by simpa using g2, by omega⟩, Below.refl _ _, ⟨rfl, rfl, rfl, Nat.le_refl _, fun _ _ _ => rfl⟩, .inl (by cases a <;> rfl)⟩
    rcases g1.2 with ⟨hv, _⟩ | ⟨g, c', cur, hv, _, _, hnc, _⟩
    · injection hv with e1 e2 e3
      subst e1 e2 e3
      cases A <;> simp [Builtin.append_, run_underlying ht, sizeOf, typeInfo, hi, Builtin.lenOf, Builtin.firstCells, loadCells, loadCellsFrom]
    · injection hv with e1 e2 e3
      subst e1 e3
      cases A <;> simp [Builtin.append_, run_underlying ht, sizeOf, typeInfo, hi, Builtin.lenOf, Builtin.firstCells, hnc, storeCells, loadCells, loadCellsFrom]
  · rcases r4 with r4 | ⟨b, off, rfl, hb, hc⟩
    · subst r4; simp at r1; omega
    have hcells : ∀ j u, x[j]? = some u → w.cell? ((⟨b, off, none⟩ : Addr).add j) = some u := by
      intro j u hu
      have hj : j < m := by
        have := (List.getElem?_eq_some_iff.1 hu).1
        omega
      rw [show ((⟨b, off, none⟩ : Addr).add j) = ⟨b, off + j, none⟩ from by by_cases g : j = 0 <;> simp [Addr.add, g]]
      rw [hc j hj, hu]
    obtain ⟨v', w', hrun, h5, h6, _, h7⟩ := run_append_own_at (P := Try.prog) w B t ty e i z 1 bytes ht hi hz hs hby hzs (by omega) _ n l g1 ⟨b, off, none⟩ m c x
      (by simpa using r1) hcells h1 (by simp only [maxLen]; omega) hbnd hB
    obtain ⟨a', cap', rfl⟩ : ∃ a' cap', v' = .slice a' (n + m) cap' := by
      rcases h5.2 with ⟨rfl, h0⟩ | ⟨g, c', cur, rfl, _⟩
      · exact ⟨none, 0, by rw [h0]⟩
      · exact ⟨_, _, rfl⟩
    exact ⟨a', cap', w', hrun, ⟨h5, hlen, by omega⟩, (Below.refl _ _).grown h6 hB fun k hk => (g1.lt k hk).1, h6, h7⟩

theorem run_append_bool (w : World) (ty : TypeId) (B : Nat) (a : Option Addr) (n cap : Nat) (l : List Bool) (hown : Own 4 w B a n cap (bits l)) (A : Option Addr) (m c : Nat) (x : List Bool) (hr : Row w A m c (bits x))
    (hsum : n + m ≤ 1048576) (hB : B ≤ w.heap.size) :
    ∃ a' cap' w', (Builtin.append_ #[22, 22] ty #[.slice a n cap, .slice A m c]).run Try.prog w = .ok (.slice a' (n + m) cap') w' ∧ Own 4 w' B a' (n + m) cap' (bits (l ++ x)) ∧ Below B w w' := by
  obtain ⟨i0, hi0, hz0, hz1, hz2⟩ := info_parts bool_info
  rw [bits_append]
  obtain ⟨a', cap', w', h1, h2, h3, _⟩ := run_append_own' 22 4 i0 _ 1 Try.underlying22 hi0 hz0 hz1 hz2 rfl (by omega) w ty B a n cap _ hown A m c _ hr (bits_one x) hsum hB
  exact ⟨a', cap', w', h1, h2, h3⟩
/-- append of one tick -/
theorem wpList_append_bool (w : World) {ops : Array Oper} {rest : List Oper} {o : Oper} {act : Act} {Q : Exit → Act → World → Prop} (hgd : o.guard = none) (s x : Operand)
    (ho : o.op = .call { callee := .builtin .append, args := #[s, x], argTypes := #[22, 22] })
    (B : Nat) (a : Option Addr) (n cap : Nat) (l : List Bool) (hs : act.eval s = .slice a n cap) (hown : Own 4 w B a n cap (bits l)) (A : Option Addr) (c : Nat) (k : Bool) (hx : act.eval x = .slice A 1 c) (hr : Row w A 1 c (bits [k]))
    (hsum : n + 1 ≤ 1048576) (hB : B ≤ w.heap.size)
    (h : ∀ a' cap' w', Own 4 w' B a' (n + 1) cap' (bits (l ++ [k])) → Below B w w' → wpList Try.prog ops Q rest (act.put o.dst (.slice a' (n + 1) cap')) w') : wpList Try.prog ops Q (o :: rest) act w := by
  refine wpList_plain hgd fun K hK => ?_
  obtain ⟨a', cap', w', hrun, h2, h3⟩ := run_append_bool w o.type B a n cap l hown A 1 c [k] hr hsum hB
  unfold Oper.wp execOp
  simp only [ho, resolve, invoke, builtin, Sem.run_bind, Sem.run_pure, Result.andThen_ok, List.map_toArray, List.map_cons, List.map_nil, hs, hx, hrun]
  exact hK _ _ (h a' cap' w' h2 h3)
theorem row_one (w : World) (e : TypeId) (u : Value) : Row (w.alloc (.cells #[u] e)) (some ⟨w.heap.size, 0, none⟩) 1 1 [u] := by
  refine ⟨rfl, Nat.le_refl _, by simp [maxLen], .inr ⟨w.heap.size, 0, rfl, by simp, fun i hi => ?_⟩⟩
  obtain rfl : i = 0 := by omega
  rw [World.cell?_alloc_mark]
  rfl
/-- a tick of a row -/
theorem Row.tick {w : World} {a : Option Addr} {n cap : Nat} {l : List Bool} (h : Row w a n cap (bits l)) {i : Nat} {x : Bool} (hx : l[i]? = some x) : ∃ b off, a = some ⟨b, off, none⟩ ∧ b < w.heap.size ∧ w.cell? ⟨b, off + i, none⟩ = some (.bool x) := by
  obtain ⟨h1, h2, h3, h4⟩ := h
  rw [bits_length] at h1
  have hi := (List.getElem?_eq_some_iff.1 hx).1
  rcases h4 with h4 | ⟨b, off, ha, hlt, hc⟩
  · have := congrArg List.length h4; rw [bits_length, List.length_nil] at this; omega
  · refine ⟨b, off, ha, hlt, ?_⟩
    rw [hc i (by omega)]
    unfold bits
    rw [List.getElem?_map, hx]
    rfl
theorem Row.len {w : World} {a : Option Addr} {n cap : Nat} {l : List Bool} (h : Row w a n cap (bits l)) : l.length = n := by have := h.1; rwa [bits_length] at this
end Go.Proofs.Ytlicofdklfbkoaa.Le
