/-
  Slices that a call makes itself, and what an append onto one leaves.
-/
import Derived.Test.YtbcblcnnffdjdaaFree
import Derived.Maps.AppendAt
namespace Go.Proofs.Ytbcblcnnffdjdaa
open Go.RowKit
set_option linter.unusedVariables false
set_option linter.unusedSimpArgs false
set_option maxRecDepth 20000

/-- a row of the call's own, from block B on, of elements of type e -/
def Own (e : TypeId) (w : World) (B : Nat) (a : Option Addr) (n cap : Nat) (vs : List Value) : Prop :=
  w.ownsRow B e 1 (.slice a n cap) n vs ∧ vs.length = n ∧ n ≤ 17592186044416

theorem Own.row {e : TypeId} {w : World} {B : Nat} {a : Option Addr} {n cap : Nat} {vs : List Value} (h : Own e w B a n cap vs) : Row w a n cap vs ∧ ∀ b off, a = some ⟨b, off, none⟩ → B ≤ b ∧ off = 0 := by
  obtain ⟨h1, h2, h3⟩ := h
  obtain ⟨a', c', hv, hr, hb⟩ := own_row h1 h2
  injection hv with e1 e2 e3
  subst e1 e3
  exact ⟨hr, hb⟩
theorem own_lit (e : TypeId) (w : World) (B : Nat) (vs : List Value) (hB : B ≤ w.heap.size) (hn : vs.length ≤ 1000) : Own e (w.alloc (.cells vs.toArray e)) B (some ⟨w.heap.size, 0, none⟩) vs.length vs.length vs :=
  ⟨World.ownsRow_lit w vs.toArray vs.length hB (by simp only [maxLen]; omega) (by simp), rfl, by omega⟩
theorem Own.but {e : TypeId} {w w' : World} {B : Nat} {a : Option Addr} {n cap : Nat} {vs : List Value} (h : Own e w B a n cap vs) {l : List Nat} (hb : But l w w') (hl : ∀ x ∈ l, x < B) : Own e w' B a n cap vs := by
  obtain ⟨h1, h2⟩ := h
  have hlt := h1.lt
  refine ⟨⟨h1.1, ?_⟩, h2⟩
  rcases h1.2 with h' | ⟨g, c, cur, hv, hg, hh, r⟩
  · exact .inl h'
  · have := hlt g (by rw [hv]; rfl)
    exact .inr ⟨g, c, cur, hv, hg, by rw [hb.block g this.2 (fun hm => by have := hl g hm; omega)]; exact hh, r⟩

/-- append onto a row of the call's own: of another row that is no empty one -/
theorem run_append_own' (t e : TypeId) (i : TypeInfo) (z : Value) (bytes : Nat) (ht : Try.prog.underlying t = some (.slice e)) (hi : Try.prog.info? e = some i) (hz : i.zero = some z) (hs : i.size = 1) (hby : i.bytes = bytes) (hzs : z.cells.size = 1) (hb8 : bytes ≤ 24)
    (w : World) (ty : TypeId) (B : Nat) (a : Option Addr) (n cap : Nat) (l : List Value) (hown : Own e w B a n cap l) (A : Addr) (m c : Nat) (x : List Value) (hr : Row w (some A) m c x) (hm0 : 0 < m) (h1 : ∀ u ∈ x, u.oneCell' = true)
    (hsum : n + m ≤ 1048576) (hB : B ≤ w.heap.size) :
    ∃ a' cap' w', (Builtin.append_ #[t, t] ty #[.slice a n cap, .slice (some A) m c]).run Try.prog w = .ok (.slice a' (n + m) cap') w' ∧ Own e w' B a' (n + m) cap' (l ++ x) ∧ w.grownBy w' (Value.slice a n cap).ownBlock ∧ Below B w w' := by
  obtain ⟨g1, g2, g3⟩ := hown
  obtain ⟨r1, r2, r2', r4⟩ := hr
  have hlen : (l ++ x).length = n + m := by rw [List.length_append, g2, r1]
  have hbnd : (n + m) * bytes ≤ 140737488355328 := by
    have := Nat.mul_le_mul hsum hb8
    omega
  rcases r4 with r4 | ⟨b, off, hA, hb, hc⟩
  · subst r4; simp at r1; omega
  injection hA with hA
  subst hA
  have hcells : ∀ j u, x[j]? = some u → w.cell? ((⟨b, off, none⟩ : Addr).add j) = some u := by
    intro j u hu
    have hj : j < m := by
      have := (List.getElem?_eq_some_iff.1 hu).1
      omega
    rw [Addr.add_mid, hc j hj, hu]
  obtain ⟨v', w', hrun, h5, h6, _, h7⟩ := run_append_own_at (P := Try.prog) w B t ty e i z 1 bytes ht hi hz hs hby hzs (by omega) _ n l g1 ⟨b, off, none⟩ m c x
    (by simpa using r1) hcells h1 (by simp only [maxLen]; omega) hbnd hB
  obtain ⟨a', cap', rfl⟩ : ∃ a' cap', v' = .slice a' (n + m) cap' := by
    rcases h5.2 with ⟨rfl, h0⟩ | ⟨g, c', cur, rfl, _⟩
    · exact ⟨none, 0, by rw [h0]⟩
    · exact ⟨_, _, rfl⟩
  exact ⟨a', cap', w', hrun, ⟨h5, hlen, by omega⟩, h6, (Below.refl _ _).grown h6 hB fun k hk => (g1.lt k hk).1⟩

theorem str_info : (Try.prog.info? 9).map (fun i => (i.zero, i.size, i.bytes)) = some (some (.string ⟨#[]⟩), 1, 16) := by kernel_rfl
theorem row_info : (Try.prog.info? 28).map (fun i => (i.zero, i.size, i.bytes)) = some (some (.slice none 0 0), 1, 24) := by kernel_rfl

def strs (l : List ByteArray) : List Value := l.map Value.string
theorem strs_append (l m : List ByteArray) : strs (l ++ m) = strs l ++ strs m := List.map_append

section
variable {ops : Array Oper} {rest : List Oper} {o : Oper} {a : Act} {w : World} {Q : Exit → Act → World → Prop}
/-- append of one element that lies in a new block -/
theorem wpList_append_one (hg : o.guard = none) (x y : Operand) (t e : TypeId) (ho : o.op = Op.call { callee := Callee.builtin Builtin.append, args := #[x, y], argTypes := #[t, t] })
    (z : Value) (bytes : Nat) (ht : Try.prog.underlying t = some (.slice e)) (hinf : (Try.prog.info? e).map (fun i => (i.zero, i.size, i.bytes)) = some (some z, 1, bytes)) (hzs : z.cells.size = 1) (hb8 : bytes ≤ 24)
    (B : Nat) (A : Option Addr) (n cap : Nat) (l : List Value) (hx : a.eval x = .slice A n cap) (hown : Own e w B A n cap l) (g c : Nat) (u : Value) (hy : a.eval y = .slice (some ⟨g, 0, none⟩) 1 c) (hr : Row w (some ⟨g, 0, none⟩) 1 c [u]) (h1 : u.oneCell' = true)
    (hsum : n + 1 ≤ 1048576) (hB : B ≤ w.heap.size)
    (h : ∀ A' cap' w', Own e w' B A' (n + 1) cap' (l ++ [u]) → w.grownBy w' (Value.slice A n cap).ownBlock → Below B w w' → wpList Try.prog ops Q rest (a.put o.dst (.slice A' (n + 1) cap')) w') : wpList Try.prog ops Q (o :: rest) a w := by
  refine wpList_plain hg fun K hK => ?_
  obtain ⟨i0, hi0, hz0, hz1, hz2⟩ := info_parts hinf
  obtain ⟨A', cap', w', hrun, r1, r2, r3⟩ := run_append_own' t e i0 z bytes ht hi0 hz0 hz1 hz2 hzs hb8 w o.type B A n cap l hown ⟨g, 0, none⟩ 1 c [u] hr (by omega) (by simpa using h1) hsum hB
  unfold Oper.wp
  simp [execOp, ho, resolve, invoke, builtin, hx, hy, hrun, Result.andThen]
  exact hK _ _ (h A' cap' w' r1 r2 r3)
end
/-- the sectors' bytes as strings -/
def seenL (d : M.Dv) (k : Nat) : List ByteArray := (List.range k).map fun i => str (M.seen d i)
theorem seenL_succ (d : M.Dv) (k : Nat) : strs (seenL d (k + 1)) = strs (seenL d k) ++ [.string (str (M.seen d k))] := by
  unfold seenL
  rw [List.range_succ, List.map_append, strs_append]
  rfl
theorem seenL_get {d : M.Dv} {n k : Nat} (h : k < n) : (strs (seenL d n))[k]? = some (.string (str (M.seen d k))) := by
  simp [strs, seenL, h]
theorem seenL_len (d : M.Dv) (k : Nat) : (strs (seenL d k)).length = k := by simp [strs, seenL]

theorem DevAt.below {w w' : World} {dB sB mB n B : Nat} {d : M.Dv} (h : DevAt w dB sB mB n d) (hb : Below B w w') (hl : dB < B ∧ sB < B ∧ mB < B) : DevAt w' dB sB mB n d :=
  h.of_blocks (hb.block _ hl.1) (hb.block _ hl.2.1) (hb.block _ hl.2.2) hb.size
theorem seen_crash {d : M.Dv} (hp : ∀ k, d.P k = none) (n : Nat) (l : List (Int × Int)) (i : Nat) : M.seen (M.crashD n d l) i = M.seen d i := by
  have : M.pendL n d.P = [] := by
    unfold M.pendL
    rw [List.filter_eq_nil_iff]
    intro k _
    rw [hp k]
    simp
  unfold M.seen M.crashD
  rw [this, hp]
  simp [M.crashS]
theorem seen_fresh (i : Nat) : M.seen M.fresh i = M.zero := rfl
theorem zero_get {j : Nat} (h : j < 144) : M.zero[j]? = some 0 := by
  unfold M.zero
  rw [List.getElem?_replicate, if_pos h]
theorem row_one (w : World) (e : TypeId) (u : Value) : Row (w.alloc (.cells #[u] e)) (some ⟨w.heap.size, 0, none⟩) 1 1 [u] := by
  refine ⟨rfl, Nat.le_refl _, by simp [maxLen], .inr ⟨w.heap.size, 0, rfl, by simp, fun i hi => ?_⟩⟩
  obtain rfl : i = 0 := by omega
  rw [World.cell?_alloc_mark]
  rfl
end Go.Proofs.Ytbcblcnnffdjdaa
