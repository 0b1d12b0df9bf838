/-
  Acts as they lie in memory, and as a statement is handed them.
-/
import Derived.Test.YtcofahpeinkhfaaGreatCel7
import Derived.Test.YtcofahpeinkhfaaGreatOpens
namespace Go.Proofs.YtcofahpeinkhfaaGreat
open Go.ChangeShapes Go.WideShapes Go.ChangeAt Go.RowKit Go.Joins Go.Deep
set_option linter.unusedVariables false
set_option linter.unusedSimpArgs false
set_option maxRecDepth 20000

/-- an act, with where its parts lie -/
structure A where
  kind : Int
  i : Int
  s : ByteArray
  aL : Option Addr
  k : Nat
  cL : Nat
  l : List (Int × Int)

def A.val (x : A) : Value := .agg #[.int .i64 x.kind, .int .i64 x.i, .string x.s, .slice x.aL x.k x.cL]
def A.cells (x : A) : Array Value := #[.int .i64 x.kind, .int .i64 x.i, .string x.s, .slice x.aL x.k x.cL]

structure A.Ok (w : World) (x : A) : Prop where
  sz : x.s.size ≤ maxLen
  keep : KRow w x.aL x.k x.cL x.l
  k1 : -9223372036854775808 ≤ x.kind
  k2 : x.kind ≤ 9223372036854775807
  i1 : -9223372036854775808 ≤ x.i
  i2 : x.i ≤ 9223372036854775807

theorem A.Ok.len {w : World} {x : A} (h : x.Ok w) : x.k = x.l.length := h.keep.1.symm
theorem A.Ok.but {w w' : World} {x : A} (h : x.Ok w) {l : List Nat} (hb : But l w w') (hl : ∀ y ∈ l, w.heap.size ≤ y) : x.Ok w' := ⟨h.sz, krow_but h.keep hb (krow_old h.keep hl), h.k1, h.k2, h.i1, h.i2⟩

/-- acts that came in -/
def Acts (w : World) (a : Option Addr) (n c : Nat) (l : List A) : Prop :=
  l.length = n ∧ n ≤ c ∧ c ≤ maxLen ∧ (∀ x ∈ l, x.Ok w) ∧ (l = [] ∨ ∃ b off, a = some ⟨b, off, none⟩ ∧ b < w.heap.size ∧ ∀ k x, l[k]? = some x →
    w.cell? ⟨b, off + k * 4, none⟩ = some (.int .i64 x.kind) ∧ w.cell? ⟨b, off + k * 4 + 1, none⟩ = some (.int .i64 x.i) ∧ w.cell? ⟨b, off + k * 4 + 2, none⟩ = some (.string x.s) ∧ w.cell? ⟨b, off + k * 4 + 3, none⟩ = some (.slice x.aL x.k x.cL))

/-- the k-th of acts that came in, read later -/
theorem acts_at {w w' : World} {a : Option Addr} {n c : Nat} {l : List A} (h : Acts w a n c l) (hb : Below w.heap.size w w') {k : Nat} (hk : k < n) :
    ∃ b off x, a = some ⟨b, off, none⟩ ∧ l[k]? = some x ∧ x.Ok w ∧ x.Ok w' ∧ w'.cell? ⟨b, off + k * 4, none⟩ = some (.int .i64 x.kind) ∧ w'.cell? ⟨b, off + k * 4 + 1, none⟩ = some (.int .i64 x.i) ∧ w'.cell? ⟨b, off + k * 4 + 2, none⟩ = some (.string x.s) ∧ w'.cell? ⟨b, off + k * 4 + 3, none⟩ = some (.slice x.aL x.k x.cL) ∧ b < w.heap.size := by
  obtain ⟨h1, h2, h3, h4, h5⟩ := h
  rcases h5 with h5 | ⟨b, off, ha, hlt, hc⟩
  · subst h5; simp at h1; omega
  · obtain ⟨x, hx⟩ : ∃ x, l[k]? = some x := ⟨l[k]'(by omega), List.getElem?_eq_getElem _⟩
    obtain ⟨g1, g2, g3, g4⟩ := hc k x hx
    have hok := h4 x (List.mem_of_getElem? hx)
    have hbu := But.of_below hb
    refine ⟨b, off, x, ha, hx, hok, hok.but hbu (by simp), ?_, ?_, ?_, ?_, hlt⟩
    · rw [hbu.cell hlt (by simp)]; exact g1
    · rw [hbu.cell hlt (by simp)]; exact g2
    · rw [hbu.cell hlt (by simp)]; exact g3
    · rw [hbu.cell hlt (by simp)]; exact g4

/-- is an act too large to be looked at? -/
def largeB (x : A) : Bool := decide (1000 < x.s.size) || decide (600 < x.k)

theorem large_any (w : World) (x : A) : Calls Tryz.prog 9 #[x.val] w fun e w' => e = .returned (.bool (largeB x)) ∧ Below w.heap.size w w' := by
  unfold A.val
  by_cases h1 : 1000 < x.s.size
  · have e : largeB x = true := by simp [largeB, h1]
    rw [e]
    have h1' : (1000 : Int) < (x.s.size : Int) := by omega
    clear e h1
    go_enter Tryz.func9, Tryz.ntmps9
    go_wp2
    go_ret
    exact ⟨rfl, (Below.refl _ _).alloc (Nat.le_refl _) _⟩
  · have h1' : ¬ ((1000 : Int) < (x.s.size : Int)) := by omega
    by_cases h2 : 600 < x.k
    · have e : largeB x = true := by simp [largeB, h2]
      rw [e]
      have h2' : (600 : Int) < (x.k : Int) := by omega
      clear e h1 h2
      go_enter Tryz.func9, Tryz.ntmps9
      go_wp2
      go_ret
      exact ⟨rfl, (Below.refl _ _).alloc (Nat.le_refl _) _⟩
    · have e : largeB x = false := by simp [largeB]; omega
      rw [e]
      have h2' : ¬ ((600 : Int) < (x.k : Int)) := by omega
      clear e h1 h2
      go_enter Tryz.func9, Tryz.ntmps9
      go_wp2
      go_ret
      exact ⟨rfl, (Below.refl _ _).alloc (Nat.le_refl _) _⟩


instance : Inhabited A := ⟨⟨0, 0, ⟨#[]⟩, none, 0, 0, []⟩⟩
section
variable {H : Type} {enc : TypeId × Value → H} {W : World}

theorem open_keeps {fuel : Nat} {v : Value} {x : DataW H × List MemPlace} (h : DataW.trod enc Tryz.prog W 0 (fun _ => true) true fuel 35 [v] = some x) :
    ∃ a n cap l, v = .slice a n cap ∧ KRow W a n cap l := by
  rcases open_slice_pairs Tryz.underlying35 Tryz.underlying97 (by kernel_rfl) rfl rfl (by kernel_rfl) (by kernel_rfl) h with ⟨hcs, _⟩ | ⟨a, l, c, m, n, V0, V1, D0, D1, P0, P1, hcs, _, hl, hm, hmm, _, hi⟩
  · injection hcs with hcs
    exact ⟨none, 0, 0, [], hcs, krow_nil W⟩
  · injection hcs with hcs
    simp only [if_true] at hmm
    have each : ∀ i, i < l → ∃ q : Int × Int, W.cell? (a.add (i * 2)) = some (.int .i64 q.1) ∧ W.cell? (a.add (i * 2 + 1)) = some (.int .i64 q.2) := by
      intro i hil
      obtain ⟨h1, h2, h3, h4⟩ := hi i (by omega)
      obtain ⟨n0, e0, _, _⟩ := DataW.trod_int Tryz.underlying3 h3
      obtain ⟨n1, e1, _, _⟩ := DataW.trod_int Tryz.underlying3 h4
      injection e0 with e0
      injection e1 with e1
      exact ⟨(n0, n1), by rw [h1, e0], by rw [h2, e1]⟩
    obtain ⟨q, hq⟩ := choose_lt each
    refine ⟨some a, l, c, (List.range l).map q, hcs, by simp, hl, hm, ?_⟩
    by_cases h0 : l = 0
    · subst h0; exact .inl rfl
    · obtain ⟨b, off, spot⟩ := a
      have hc0 := (hq 0 (by omega)).1
      have hspot : spot = none := by simpa [Addr.add] using World.cell?_spot hc0
      subst hspot
      refine .inr ⟨b, off, rfl, by simpa [Addr.add] using World.block_lt_of_cell? W _ hc0, fun i x hx => ?_⟩
      have hil : i < l := by have := (List.getElem?_eq_some_iff.1 hx).1; simpa using this
      have hxq : x = q i := by simp [hil] at hx; exact hx.symm
      subst hxq
      have := hq i hil
      rw [addr_add, addr_add, ← Nat.add_assoc] at this
      exact this

theorem open_acts {fuel : Nat} {v : Value} {x : DataW H × List MemPlace} (h : DataW.trod enc Tryz.prog W 0 (fun _ => true) true fuel 22 [v] = some x) :
    ∃ a n cap l, v = .slice a n cap ∧ Acts W a n cap l := by
  have c31 : Tryz.prog.cellsOf 37 = 4 := by kernel_rfl
  have c3 : Tryz.prog.cellsOf 3 = 1 := by kernel_rfl
  have c28 : Tryz.prog.cellsOf 9 = 1 := by kernel_rfl
  have c29 : Tryz.prog.cellsOf 35 = 1 := by kernel_rfl
  rcases open_slice Tryz.underlying22 h with ⟨hcs, _⟩ | ⟨a, l, c, m, n, D, Pl, hcs, _, hl, hm, hmm, _, hi⟩
  · injection hcs with hcs
    exact ⟨none, 0, 0, [], hcs, rfl, Nat.le_refl _, by simp [maxLen], by simp, .inl rfl⟩
  · injection hcs with hcs
    simp only [if_true] at hmm
    have each : ∀ i, i < l → ∃ q : A, q.Ok W ∧ W.cell? (a.add (i * 4)) = some (.int .i64 q.kind) ∧ W.cell? (a.add (i * 4 + 1)) = some (.int .i64 q.i) ∧ W.cell? (a.add (i * 4 + 2)) = some (.string q.s) ∧ W.cell? (a.add (i * 4 + 3)) = some (.slice q.aL q.k q.cL) := by
      intro i hil
      obtain ⟨cs', h1, h2⟩ := hi i (by omega)
      rw [c31] at h1
      obtain ⟨_, hlen, hcell⟩ := World.cells?_some h1
      obtain ⟨xs, k, _, _, _, hxl, hf⟩ := DataW.trod_struct Tryz.underlying37 h2
      match cs', hlen with
      | [v0, v1, v2, v3], _ =>
        have g0 := hf 0 _ rfl
        have g1 := hf 1 _ rfl
        have g2 := hf 2 _ rfl
        have g3 := hf 3 _ rfl
        match xs, hxl with
        | [y0, y1, y2, y3], _ =>
          simp [c3] at g0 g1
          simp [c28] at g2
          simp [c29] at g3
          obtain ⟨n0, e0, _, w0⟩ := DataW.trod_int Tryz.underlying3 g0
          obtain ⟨n1, e1, _, w1⟩ := DataW.trod_int Tryz.underlying3 g1
          obtain ⟨zs, e2, _, w2⟩ := DataW.trod_string Tryz.underlying9 g2
          obtain ⟨aL, nL, cL, ks, rfl, hL⟩ := open_keeps g3
          injection e0 with e0
          injection e1 with e1
          injection e2 with e2
          subst e0 e1 e2
          have q0 := hcell 0 (by omega)
          have q1 := hcell 1 (by omega)
          have q2 := hcell 2 (by omega)
          have q3 := hcell 3 (by omega)
          rw [add_add] at q0 q1 q2 q3
          exact ⟨⟨n0, n1, zs, aL, nL, cL, ks⟩, ⟨w2, hL, (wf_i64 w0).1, (wf_i64 w0).2, (wf_i64 w1).1, (wf_i64 w1).2⟩, q0, q1, q2, q3⟩
    obtain ⟨q, hq⟩ := choose_lt each
    refine ⟨some a, l, c, (List.range l).map q, hcs, by simp, hl, hm, ?_, ?_⟩
    · intro x hx
      obtain ⟨i, hi', rfl⟩ := List.mem_map.1 hx
      exact (hq i (List.mem_range.1 hi')).1
    · by_cases h0 : l = 0
      · subst h0; exact .inl rfl
      · obtain ⟨b, off, spot⟩ := a
        have hc0 := (hq 0 (by omega)).2.1
        have hspot : spot = none := by simpa [Addr.add] using World.cell?_spot hc0
        subst hspot
        refine .inr ⟨b, off, rfl, by simpa [Addr.add] using World.block_lt_of_cell? W _ hc0, fun i x hx => ?_⟩
        have hil : i < l := by have := (List.getElem?_eq_some_iff.1 hx).1; simpa using this
        have hxq : x = q i := by simp [hil] at hx; exact hx.symm
        subst hxq
        obtain ⟨_, h1, h2, h3, h4⟩ := hq i hil
        rw [addr_add] at h1 h2 h3 h4
        rw [← Nat.add_assoc] at h2 h3 h4
        exact ⟨h1, h2, h3, h4⟩

theorem open_lot {v : Value} {d : DataW H} {p : List MemPlace} (h : DataW.Trod enc Tryz.prog W 0 (fun _ => true) true 22 v d p) (hv : ∃ a n c, v = .slice a n c) :
    ∃ a n cap l, v = .slice a n cap ∧ Acts W a n cap l := by
  obtain ⟨a, n, c, rfl⟩ := hv
  obtain ⟨fuel, hf⟩ := h
  exact open_acts hf
end
end Go.Proofs.YtcofahpeinkhfaaGreat
