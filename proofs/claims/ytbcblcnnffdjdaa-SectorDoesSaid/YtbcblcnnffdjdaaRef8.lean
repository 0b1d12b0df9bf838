/-
  Both devices in memory, beside an own copy of an act's bytes.
-/
import Derived.Test.YtbcblcnnffdjdaaRef7
import Derived.Test.YtbcblcnnffdjdaaActs
namespace Go.Proofs.Ytbcblcnnffdjdaa
open Go.RowKit Go.Maps
set_option linter.unusedVariables false
set_option linter.unusedSimpArgs false
set_option maxRecDepth 20000

/-- what stays as it is while an act is done: x0 holds the act, the own copy lies from B on -/
structure Fix (w0 : World) (dB sB mB rB x0 B : Nat) : Prop where
  d : w0.heap.size ≤ dB
  s : w0.heap.size ≤ sB
  m : w0.heap.size ≤ mB
  r : w0.heap.size ≤ rB
  b : w0.heap.size ≤ B
  dl : dB < B
  sl : sB < B
  ml : mB < B
  rl : rB < B
  rd : rB ≠ dB
  rs : rB ≠ sB
  rm : rB ≠ mB
  xd : x0 ≠ dB
  xs : x0 ≠ sB
  xm : x0 ≠ mB
  xr : x0 ≠ rB
  xl : x0 < B

structure Mid (w0 : World) (dB sB mB n rB x0 B : Nat) (xi : Int) (aO : Option Addr) (mO : Nat) (wx : World) (d r : M.Dv) (LB : Nat) : Prop where
  dv : DevAt wx dB sB mB n d
  rf : RefAt wx rB LB n r
  bel : Below w0.heap.size w0 wx
  own : Wr wx B aO mO
  cell : wx.cell? ⟨x0, 1, none⟩ = some (.int .i64 xi)
  lb : w0.heap.size ≤ LB
  ld : LB ≠ dB
  ls : LB ≠ sB
  lm : LB ≠ mB
  lx : LB ≠ x0
  ao : ∀ b, aO = some ⟨b, 0, none⟩ → mO = 0 ∨ b ≠ LB
  sz : B ≤ wx.heap.size

variable {w0 wx wy : World} {dB sB mB n rB x0 B LB mO : Nat} {xi : Int} {aO : Option Addr} {d r d' r' : M.Dv}

theorem Wr.butl {w w' : World} {B : Nat} {a : Option Addr} {m : Nat} (h : Wr w B a m) {l : List Nat} (hb : But l w w') (hl : ∀ b, a = some ⟨b, 0, none⟩ → m = 0 ∨ b ∉ l) : Wr w' B a m := by
  rcases h with h | ⟨b, l, h1, h2, h3, h4, h5, h6⟩
  · exact .inl h
  · rcases hl b h1 with h0 | h0
    · exact .inl h0
    · have := hb.block b h6 h0
      exact .inr ⟨b, l, h1, h2, rangeAt_block h3 this, there_block h4 this, h5, Nat.lt_of_lt_of_le h6 hb.size⟩
theorem Wr.ge {w : World} {B : Nat} {a : Option Addr} {m b : Nat} (h : Wr w B a m) (ha : a = some ⟨b, 0, none⟩) : m = 0 ∨ (B ≤ b ∧ b < w.heap.size) := by
  rcases h with h | ⟨b', l, h1, h2, h3, h4, h5, h6⟩
  · exact .inl h
  · rw [h1] at ha
    injection ha with ha
    injection ha with ha
    subst ha
    exact .inr ⟨h5, h6⟩

theorem Mid.drew (h : Mid w0 dB sB mB n rB x0 B xi aO mO wx d r LB) : Mid w0 dB sB mB n rB x0 B xi aO mO wx.drew d r LB :=
  ⟨h.dv.drew, h.rf.drew, h.bel.drew, h.own.butl ((But.refl [] wx).drew) (fun _ _ => .inr (by simp)), h.cell, h.lb, h.ld, h.ls, h.lm, h.lx, h.ao, h.sz⟩
theorem Mid.dev (F : Fix w0 dB sB mB rB x0 B) (h : Mid w0 dB sB mB n rB x0 B xi aO mO wx d r LB) (hd : DevAt wy dB sB mB n d') {l : List Nat} (hb : But l wx wy) (hl : ∀ x ∈ l, x ∈ [dB, sB, mB] := by simp) : Mid w0 dB sB mB n rB x0 B xi aO mO wy d' r LB := by
  have hb := hb.mono hl
  exact ⟨hd, h.rf.but hb (by have := F.rd; have := F.rs; have := F.rm; simp; omega) (by have := h.ld; have := h.ls; have := h.lm; simp; omega),
    h.bel.trans (hb.to_below (by have := F.d; have := F.s; have := F.m; simp; omega) h.bel.size),
    h.own.but hb (by have := F.dl; have := F.sl; have := F.ml; simp; omega),
    (hb.cell (Nat.lt_of_lt_of_le F.xl h.sz) (by have := F.xd; have := F.xs; have := F.xm; simp; omega)).trans h.cell, h.lb, h.ld, h.ls, h.lm, h.lx, h.ao, Nat.le_trans h.sz hb.size⟩
theorem Mid.ref (F : Fix w0 dB sB mB rB x0 B) (h : Mid w0 dB sB mB n rB x0 B xi aO mO wx d r LB) (hr : RefAt wy rB LB n r') {l : List Nat} (hb : But l wx wy) (hl : ∀ x ∈ l, x ∈ [rB, LB] := by simp) : Mid w0 dB sB mB n rB x0 B xi aO mO wy d r' LB := by
  have hb := hb.mono hl
  refine ⟨h.dv.but hb (by have := F.rd; have := h.ld; simp; omega) (by have := F.rs; have := h.ls; simp; omega) (by have := F.rm; have := h.lm; simp; omega), hr,
    h.bel.trans (hb.to_below (by have := F.r; have := h.lb; simp; omega) h.bel.size), h.own.butl hb (fun b hb' => ?_),
    (hb.cell (Nat.lt_of_lt_of_le F.xl h.sz) (by have := F.xr; have := h.lx; simp; omega)).trans h.cell, h.lb, h.ld, h.ls, h.lm, h.lx, h.ao, Nat.le_trans h.sz hb.size⟩
  rcases h.ao b hb' with h1 | h1
  · exact .inl h1
  · rcases h.own.ge hb' with h2 | h2
    · exact .inl h2
    · exact .inr (by have := F.rl; simp; omega)
theorem Mid.lose (F : Fix w0 dB sB mB rB x0 B) (h : Mid w0 dB sB mB n rB x0 B xi aO mO wx d r LB) {LB' : Nat} (hr : RefAt wy rB LB' n r') (hb : But [rB] wx wy) (hL : wx.heap.size ≤ LB') : Mid w0 dB sB mB n rB x0 B xi aO mO wy d r' LB' := by
  have hs := h.sz
  have hdl := F.dl
  have hsl := F.sl
  have hml := F.ml
  have hxl := F.xl
  refine ⟨h.dv.but hb (by have := F.rd; simp; omega) (by have := F.rs; simp; omega) (by have := F.rm; simp; omega), hr,
    h.bel.trans (hb.to_below (by have := F.r; simp; omega) h.bel.size), h.own.but hb (by have := F.rl; simp; omega),
    (hb.cell (Nat.lt_of_lt_of_le F.xl h.sz) (by have := F.xr; simp; omega)).trans h.cell, Nat.le_trans h.bel.size hL, by omega, by omega, by omega, by omega, fun b hb' => ?_, Nat.le_trans h.sz hb.size⟩
  rcases h.own.ge hb' with h2 | h2
  · exact .inl h2
  · exact .inr (by omega)
/-- what is made anew touches none of it -/
theorem Mid.fresh (F : Fix w0 dB sB mB rB x0 B) (h : Mid w0 dB sB mB n rB x0 B xi aO mO wx d r LB) (hb : But [] wx wy) : Mid w0 dB sB mB n rB x0 B xi aO mO wy d r LB :=
  ⟨h.dv.but hb (by simp) (by simp) (by simp), h.rf.but hb (by simp) (by simp), h.bel.trans (hb.to_below (by simp) h.bel.size), h.own.but hb (by simp),
    (hb.cell (Nat.lt_of_lt_of_le F.xl h.sz) (by simp)).trans h.cell, h.lb, h.ld, h.ls, h.lm, h.lx, h.ao, Nat.le_trans h.sz hb.size⟩
/-- a byte of the own copy is turned -/
theorem Mid.turn (F : Fix w0 dB sB mB rB x0 B) (h : Mid w0 dB sB mB n rB x0 B xi aO mO wx d r LB) {k : Nat} (hk : k < mO) : ∃ (b : Nat) (c : UInt8), aO = some ⟨b, 0, none⟩ ∧ wx.cell? ⟨b, k, none⟩ = some (.int .u8 (c.toNat : Int)) ∧ wx.frozen? ⟨b, k, none⟩ = false ∧
    ∀ c' : UInt8, Mid w0 dB sB mB n rB x0 B xi aO mO (wx.setCell ⟨b, k, none⟩ (.int .u8 (c'.toNat : Int))) d r LB := by
  obtain ⟨b, c, h1, h2, h3, h4, h5, h6⟩ := h.own.at hk
  have hne : b ≠ LB := by
    rcases h.ao b h1 with h0 | h0
    · omega
    · exact h0
  refine ⟨b, c, h1, h2, h3, fun c' => ?_⟩
  have hb := (But.refl [b] wx).set (p := ⟨b, k, none⟩) (.int .u8 (c'.toNat : Int)) (.inl (by simp))
  have hdl := F.dl
  have hsl := F.sl
  have hml := F.ml
  have hrl := F.rl
  have hxl := F.xl
  exact ⟨h.dv.but hb (by simp; omega) (by simp; omega) (by simp; omega), h.rf.but hb (by simp; omega) (by simp; omega), h.bel.trans (hb.to_below (by have := F.b; simp; omega) h.bel.size), h6 c',
    (hb.cell (Nat.lt_of_lt_of_le F.xl h.sz) (by simp; omega)).trans h.cell, h.lb, h.ld, h.ls, h.lm, h.lx, h.ao, Nat.le_trans h.sz hb.size⟩
/-- behind the own copy: it is no longer looked at -/
theorem Mid.done (h : Mid w0 dB sB mB n rB x0 B xi aO mO wx d r LB) : Mid w0 dB sB mB n rB x0 B xi none 0 wx d r LB :=
  ⟨h.dv, h.rf, h.bel, .inl rfl, h.cell, h.lb, h.ld, h.ls, h.lm, h.lx, fun _ _ => .inl rfl, h.sz⟩
theorem Mid.far (F : Fix w0 dB sB mB rB x0 B) (h : Mid w0 dB sB mB n rB x0 B xi none 0 wx d r LB) {b : Nat} (hb : But [b] wx wy) (hB : B ≤ b) (hL : LB ≠ b) : Mid w0 dB sB mB n rB x0 B xi none 0 wy d r LB := by
  have hdl := F.dl
  have hsl := F.sl
  have hml := F.ml
  have hrl := F.rl
  have hxl := F.xl
  exact ⟨h.dv.but hb (by simp; omega) (by simp; omega) (by simp; omega), h.rf.but hb (by simp; omega) (by simp; omega), h.bel.trans (hb.to_below (by have := F.b; simp; omega) h.bel.size), .inl rfl,
    (hb.cell (Nat.lt_of_lt_of_le F.xl h.sz) (by simp; omega)).trans h.cell, h.lb, h.ld, h.ls, h.lm, h.lx, fun _ _ => .inl rfl, Nat.le_trans h.sz hb.size⟩
theorem Mid.dead (h : Mid w0 dB sB mB n rB x0 B xi aO mO wx d r LB) {wy : World} (hb : But [] wx wy) : wy.cell? ⟨rB, 1, none⟩ = some (.bool r.dead) := (hb.cell h.rf.ltR (by simp)).trans h.rf.dead

theorem pending_row {d : M.Dv} (w : World) (h : DevAt w dB sB mB n d) :
    Calls Try.prog 27 #[.pointer (some ⟨dB, 0, none⟩)] w fun e w' => ∃ a cap, e = .returned (.slice a (M.pendL n d.P).length cap) ∧ Row w' a (M.pendL n d.P).length cap (ints (M.pendL n d.P)) ∧ Below w.heap.size w w' := by
  refine (pending_any w h).mono ?_
  rintro e w' ⟨v, rfl, hrow, hb⟩
  obtain ⟨a, cap, rfl, hr, _⟩ := own_row hrow (by simp [ints])
  exact ⟨a, cap, rfl, hr, hb⟩
end Go.Proofs.Ytbcblcnnffdjdaa
