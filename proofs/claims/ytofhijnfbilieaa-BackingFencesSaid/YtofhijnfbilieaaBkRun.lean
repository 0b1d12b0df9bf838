/-
  What the walks of the statements have in common: the store that runs, messages of a row that came in.
-/
import Derived.Test.YtofhijnfbilieaaJBD
import Derived.Test.YtofhijnfbilieaaBkOpen
namespace Go.Proofs.Ytofhijnfbilieaa.Bk
open Go.RowKit
set_option linter.unusedVariables false
set_option linter.unusedSimpArgs false
set_option maxRecDepth 20000

theorem u8_in {x : Int} (h : (Lit.int .u8 x).wf = true) : 0 ≤ x ∧ x < 256 := by
  simp [Lit.wf, IntKind.min, IntKind.max, IntKind.signed, IntKind.bits] at h
  omega
/-- the cells of a message in a row that came in -/
theorem ms_at {w : World} {a : Option Addr} {n c : Nat} {l : List Ml.Mg} (h : Ms w a n c l) {k : Nat} {m : Ml.Mg} (hm : l[k]? = some m) : ∃ b off, a = some ⟨b, off, none⟩ ∧ b < w.heap.size ∧ ∀ i v, m.cells.toList[i]? = some v → w.cell? ⟨b, off + (k * 13 + i), none⟩ = some v := by
  obtain ⟨_, _, _, h4⟩ := h
  rcases h4 with rfl | ⟨b, off, ha, hb, hc⟩
  · simp at hm
  · exact ⟨b, off, ha, hb, fun i v hv => hc k m hm i v hv⟩
/-- the store that a statement runs, with what it was made of -/
structure RS (w0 w : World) (dB sB mB n bl : Nat) (d : M.Dv) (tB : Nat) (K : Nat → Nat) (C : Cs) (g : Int) : Prop where
  st : ST w dB sB mB n d tB bl 0 K C
  fr : FR n 0 bl g d C
  be : Below w0.heap.size w0 w
  ge : w0.heap.size ≤ tB ∧ ∀ b ∈ ours dB sB mB bl K, w0.heap.size ≤ b
theorem RS.take {w0 w : World} {dB sB mB n bl : Nat} {d : M.Dv} {tB : Nat} {K : Nat → Nat} {C : Cs} {g : Int} (h : RS w0 w dB sB mB n bl d tB K C g) (hg : g + 1 < 4611686018427387904) (m : Ml.Mg) :
    Calls Try.prog 12 #[.pointer (some ⟨tB, 0, none⟩), Ml.msgV m] w fun e w' => e = .returned (.tuple #[Ml.msgV (takA n 0 bl d C m), .bool (takI n 0 bl d C m)]) ∧ RS w0 w' dB sB mB n bl (takD n 0 bl d C m) tB K (takC n 0 bl d C m) (g + 2) ∧ But (ours dB sB mB bl K) w w' := by
  refine (take_any w h.st m).mono ?_
  rintro e w' ⟨rfl, hs, hb⟩
  exact ⟨rfl, ⟨hs, (h.fr.take hg m).1, h.be.trans (hb.to_below h.ge.2 h.be.size), h.ge⟩, hb⟩
theorem RS.below {w0 w w' : World} {dB sB mB n bl : Nat} {d : M.Dv} {tB : Nat} {K : Nat → Nat} {C : Cs} {g : Int} (h : RS w0 w dB sB mB n bl d tB K C g) (hb : Below w.heap.size w w') : RS w0 w' dB sB mB n bl d tB K C g :=
  ⟨h.st.below hb, h.fr, h.be.trans (hb.mono h.be.size), h.ge⟩
theorem pend_none {n : Nat} {P : Int → Option M.Sec} (h : ∀ k, P k = none) : M.pendL n P = [] := by
  unfold M.pendL
  rw [List.filter_eq_nil_iff]
  intro k _
  rw [h k]; simp
theorem ms13 {w : World} {b off k : Nat} {m : Ml.Mg} (h : ∀ i v, m.cells.toList[i]? = some v → w.cell? ⟨b, off + (k * 13 + i), none⟩ = some v) :
    w.cell? ⟨b, off + k * 13, none⟩ = some (.int .i64 m.kind) ∧ w.cell? ⟨b, off + k * 13 + 1, none⟩ = some (.int .i64 m.epoch) ∧ w.cell? ⟨b, off + k * 13 + 2, none⟩ = some (.int .i64 m.seq) ∧ w.cell? ⟨b, off + k * 13 + 3, none⟩ = some (.int .i64 m.n) ∧ w.cell? ⟨b, off + k * 13 + 4, none⟩ = some (.int .i64 m.block) ∧ w.cell? ⟨b, off + k * 13 + 5, none⟩ = some (.int .i64 m.client) ∧ w.cell? ⟨b, off + k * 13 + 6, none⟩ = some (.int .i64 m.e) ∧ w.cell? ⟨b, off + k * 13 + 7, none⟩ = some (.int .i64 m.t0) ∧ w.cell? ⟨b, off + k * 13 + 8, none⟩ = some (.int .i64 m.t1) ∧ w.cell? ⟨b, off + k * 13 + 9, none⟩ = some (.int .i64 m.t2) ∧ w.cell? ⟨b, off + k * 13 + 10, none⟩ = some (.int .i64 m.t3) ∧ w.cell? ⟨b, off + k * 13 + 11, none⟩ = some (.string m.data) ∧ w.cell? ⟨b, off + k * 13 + 12, none⟩ = some (.string m.row) :=
  ⟨h 0 _ rfl, h 1 _ rfl, h 2 _ rfl, h 3 _ rfl, h 4 _ rfl, h 5 _ rfl, h 6 _ rfl, h 7 _ rfl, h 8 _ rfl, h 9 _ rfl, h 10 _ rfl, h 11 _ rfl, h 12 _ rfl⟩

/-- a store that is opened on the device of one that runs tells the same -/
theorem FR.again {n bl : Nat} {g : Int} {d : M.Dv} {C : Cs} (h : FR n 0 bl g d C) : token (there d 0) = token C ∧ (∀ i, getV bl (there d 0) i = getV bl C i) ∧ tab (there d 0) bl = tab C bl := by
  have hb : ∀ k, k < bl → blk (there d 0) k = blk C k := fun k hk => by unfold blk; rw [h.fnd (k + 1) (by omega)]
  have ht : ∀ k, k ≤ bl → tab (there d 0) k = tab C k := by
    intro k
    induction k with
    | zero => intro _; rfl
    | succ k ih => intro hk; unfold tab; rw [ih (by omega), hb k (by omega)]
  refine ⟨by unfold token; rw [h.fnd 0 (Nat.zero_le _)], fun i => ?_, ht bl (Nat.le_refl _)⟩
  unfold getV
  by_cases hi : isB bl i = true
  · rw [if_pos hi, if_pos hi]
    have hi' := hi
    unfold isB at hi'
    simp at hi'
    rw [hb i.toNat (by omega)]
  · rw [if_neg hi, if_neg hi]
theorem lopen_run (w0 : World) {x0 : Int} (hx : 0 ≤ x0 ∧ x0 < 256) {bl : Nat} (hbl : bl = (x0 % 32).toNat + 1) (w' : World) (hb : Below w0.heap.size w0 w') : Calls Try.prog 9 #[.int .u8 x0] w' fun e w'' => ∃ dB sB mB tB K, e = .returned (.tuple #[.pointer (some ⟨dB, 0, none⟩), .pointer (some ⟨tB, 0, none⟩), .int .i64 (bl : Int)]) ∧ RS w0 w'' dB sB mB (2 + 2 * bl) bl M.fresh tB K (there M.fresh 0) 0 := by
  refine (lopen_any w' x0 hx bl hbl).mono ?_
  rintro e w'' ⟨dB, sB, mB, tB, K, rfl, h1, h2, h3, h4⟩
  have hs := hb.size
  exact ⟨dB, sB, mB, tB, K, rfl, h1, fr_fresh _ _ (by omega), hb.trans (h2.mono hs), by omega, fun b hx => by have := h4 b hx; omega⟩
theorem mem_lt {w : World} {dB sB mB n bl f : Nat} {d : M.Dv} {tB : Nat} {K : Nat → Nat} {C : Cs} (h : ST w dB sB mB n d tB bl f K C) {b : Nat} (hb : w.heap.size ≤ b) : b ∉ ours dB sB mB bl K := fun hx => by have := h.ours_lt.2 b hx; omega
end Go.Proofs.Ytofhijnfbilieaa.Bk
