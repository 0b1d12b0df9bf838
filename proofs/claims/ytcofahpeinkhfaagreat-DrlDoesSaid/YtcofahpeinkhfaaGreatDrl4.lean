/-
  A list on a device without a fuse: what Mark, Clear and Open make of it.
-/
import Derived.Test.YtcofahpeinkhfaaGreatDrl3
namespace Go.Proofs.YtcofahpeinkhfaaGreat
open Go.RowKit
set_option linter.unusedVariables false
set_option linter.unusedSimpArgs false
set_option maxRecDepth 20000

variable {dB sB mB n : Nat} {d : M.Dv}

theorem D.put_same {m i : Nat} (h : m.testBit i = true) : B.M.put m i = m := by
  apply B.M.same_bits
  intro j
  rw [B.M.put_bit]
  by_cases hj : i = j
  · subst hj; rw [h]; rfl
  · rw [decide_eq_false hj, Bool.or_false]

theorem LD.but {w w' : World} {lB cB a b bl : Nat} {c : M.Cl} (h : LD w dB sB mB n d lB cB a b bl c) {l : List Nat} (hb : But l w w') (hn : ∀ x ∈ l, x ≠ dB ∧ x ≠ sB ∧ x ≠ mB ∧ x ≠ lB ∧ x ≠ cB) : LD w' dB sB mB n d lB cB a b bl c where
  dev := h.dev.but hb (fun hx => (hn _ hx).1 rfl) (fun hx => (hn _ hx).2.1 rfl) (fun hx => (hn _ hx).2.2.1 rfl)
  cel := h.cel.but hb (fun hx => (hn _ hx).2.2.2.2 rfl)
  li := h.li.but hb (fun hx => (hn _ hx).2.2.2.1 rfl)
  cd := h.cd
  ld := h.ld
  o1 := h.o1
  gn := h.gn
  tx := h.tx
  bl1 := h.bl1
  ab := h.ab
theorem LD.below {w w' : World} {lB cB a b bl : Nat} {c : M.Cl} (h : LD w dB sB mB n d lB cB a b bl c) (hb : Below w.heap.size w w') : LD w' dB sB mB n d lB cB a b bl c := h.but (But.of_below hb) (by simp)

structure LF (w : World) (dB sB mB n : Nat) (d : M.Dv) (lB cB a b bl : Nat) (c : M.Cl) : Prop where
  ld : LD w dB sB mB n d lB cB a b bl c
  fr : Free d
  fnd : c = M.found (M.rdS (M.seen d a)) (M.rdS (M.seen d b))
  an : a ≠ b ∧ a < n ∧ b < n

theorem LF.below {w w' : World} {lB cB a b bl : Nat} {c : M.Cl} (h : LF w dB sB mB n d lB cB a b bl c) (hb : Below w.heap.size w w') : LF w' dB sB mB n d lB cB a b bl c := ⟨h.ld.below hb, h.fr, h.fnd, h.an⟩

/-- a put that went well -/
theorem put_lf {w w' : World} {lB cB a b bl : Nat} {c : M.Cl} (h : LF w dB sB mB n d lB cB a b bl c) (hg : c.gen < 4611686018427387904) (t : ByteArray) (ht : t.size ≤ 100)
    (hd : DevAt w' dB sB mB n (M.puD n d a b c t)) (hc : CellAt w' cB dB a b (M.puC n d a b c t)) (hb : But [dB, sB, mB, cB] w w') :
    M.puE n d a b c t = 0 ∧ LF w' dB sB mB n (M.puD n d a b c t) lB cB a b bl ⟨1 - c.o, c.gen + 1, t⟩ ∧ ∀ k, (M.puD n d a b c t).P k = none := by
  have hne : ¬ c.gen = 4611686018427387904 := by omega
  obtain ⟨hl, hf, hfn, hab, ha, hbn⟩ := h
  have hm : M.MayS (c.gen + 1) t := ⟨by have := hl.gn; omega, by omega, ht⟩
  have hp : M.pos c.o a b < n := by unfold M.pos; split <;> assumption
  obtain ⟨q1, q2, q3, q4⟩ := put_free hf hl.dev.wf hp (l := M.slot (c.gen + 1) t) (by have := M.slot_small hm; omega)
  have eE : M.puE n d a b c t = 0 := by unfold M.puE; rw [if_neg hne]; exact q1
  have eC : M.puC n d a b c t = ⟨1 - c.o, c.gen + 1, t⟩ := by unfold M.puC; rw [if_neg hne, q1, M.putC_ok]
  have eD : M.puD n d a b c t = M.putD n d (M.pos c.o a b) (M.slot (c.gen + 1) t) := by unfold M.puD; rw [if_neg hne]
  have hfa := (found_after hf hl.dev.wf hab ha hbn ht hfn hg).symm
  rw [eC] at hc
  rw [eD] at hd ⊢
  exact ⟨eE, ⟨⟨hd, hc, hl.li.but hb (by have := hl.ld; simp; omega), hl.cd, hl.ld, by simp only; omega, by have := hl.gn; simp only; omega, ht, hl.bl1, hl.ab⟩, q2, hfa, hab, ha, hbn⟩, q3⟩

theorem mark_free (w : World) {lB cB a b bl : Nat} {c : M.Cl} (H : LF w dB sB mB n d lB cB a b bl c) (hg : c.gen < 4611686018427387904) (k : Nat) (hk : k < bl) :
    Calls Tryz.prog 10 #[.pointer (some ⟨lB, 0, none⟩), .int .i64 (k : Int)] w fun e w' => e = .returned (.int .i64 0) ∧ ∃ d' c', LF w' dB sB mB n d' lB cB a b bl c' ∧
      D.marks bl c'.text = B.M.put (D.marks bl c.text) (k / 4) ∧ c'.gen ≤ c.gen + 1 ∧ ((∀ k, d.P k = none) → ∀ k, d'.P k = none) ∧ But [dB, sB, mB, cB] w w' := by
  have hl := H.ld
  cases hbit : (D.marks bl c.text).testBit (k / 4) with
  | true =>
    refine (mark_has w hl.li hl.cel hl.bl1 hl.tx k hk hbit).mono ?_
    rintro e w' ⟨rfl, hb⟩
    exact ⟨rfl, d, c, H.below hb, (D.put_same hbit).symm, by omega, fun h => h, (But.of_below hb).mono (by simp)⟩
  | false =>
    refine (mark_put w hl k hk hbit _ rfl).mono ?_
    rintro e w' ⟨rfl, hd, hc, hb⟩
    obtain ⟨e1, e2, e3⟩ := put_lf H hg _ (D.txt_small hl.bl1.2) hd hc hb
    exact ⟨by rw [e1], _, _, e2, D.marks_txt hl.bl1.2 (B.M.put_lt (D.marks_lt _ _) (D.reg_lt hk)), by simp, fun _ => e3, hb⟩

theorem clear_free (w : World) {lB cB a b bl : Nat} {c : M.Cl} (H : LF w dB sB mB n d lB cB a b bl c) (hg : c.gen < 4611686018427387904) :
    Calls Tryz.prog 12 #[.pointer (some ⟨lB, 0, none⟩)] w fun e w' => e = .returned (.int .i64 0) ∧ ∃ d' c', LF w' dB sB mB n d' lB cB a b bl c' ∧
      D.marks bl c'.text = 0 ∧ c'.gen ≤ c.gen + 1 ∧ ((∀ k, d.P k = none) → ∀ k, d'.P k = none) ∧ But [dB, sB, mB, cB] w w' := by
  have hl := H.ld
  by_cases hz : D.marks bl c.text = 0
  · refine (clear_none w hl.li hl.cel hl.bl1 hl.tx hz).mono ?_
    rintro e w' ⟨rfl, hb⟩
    exact ⟨rfl, d, c, H.below hb, hz, by omega, fun h => h, (But.of_below hb).mono (by simp)⟩
  · refine (clear_put w hl hz _ rfl).mono ?_
    rintro e w' ⟨rfl, hd, hc, hb⟩
    obtain ⟨e1, e2, e3⟩ := put_lf H hg _ (D.txt_small hl.bl1.2) hd hc hb
    exact ⟨by rw [e1], _, _, e2, D.marks_txt hl.bl1.2 (Nat.two_pow_pos _), by simp, fun _ => e3, hb⟩

theorem lopen_free (w : World) (h : DevAt w dB sB mB n d) (hf : Free d) (a b : Nat) (hab : a ≠ b) (ha : a < n) (hb : b < n) (bl : Nat) (hbl : 1 ≤ bl ∧ bl ≤ 32) :
    Calls Tryz.prog 7 #[.pointer (some ⟨dB, 0, none⟩), .int .i64 (a : Int), .int .i64 (b : Int), .int .i64 (bl : Int)] w fun e w' => ∃ lB cB, e = .returned (.tuple #[.pointer (some ⟨lB, 0, none⟩), .int .i64 0]) ∧ w.heap.size ≤ cB ∧ w.heap.size ≤ lB ∧ lB ≠ cB ∧
      LF w' dB sB mB n d lB cB a b bl (M.found (M.rdS (M.seen d a)) (M.rdS (M.seen d b))) ∧ Below w.heap.size w w' := by
  refine (lopen_yes w h hf.2 a b hab ha hb bl hbl).mono ?_
  rintro e w' ⟨lB, cB, rfl, h1, h2, h3, h4, h5⟩
  exact ⟨lB, cB, rfl, h1, h2, h3, ⟨h4, hf, rfl, hab, ha, hb⟩, h5⟩

theorem D.count_one {g q : Nat} (hq : q < g) : (B.M.all g (B.M.put 0 q)).length = 1 := by
  have h : ∀ k, k ≤ q → B.M.all k (B.M.put 0 q) = [] := fun k hk => by
    rw [B.M.all_gap (k := k) (j := 0) (Nat.zero_le _) (fun x _ hx => by rw [B.M.put_bit, Nat.zero_testBit]; simp; omega)]
    rfl
  have h1 : B.M.all (q + 1) (B.M.put 0 q) = [q] := by
    rw [B.M.all_yes (by rw [B.M.put_bit]; simp), h q (Nat.le_refl _)]; rfl
  rw [B.M.all_gap (k := g) (j := q + 1) (by omega) (fun x hx1 hx2 => by rw [B.M.put_bit, Nat.zero_testBit]; simp; omega), h1]
  rfl
end Go.Proofs.YtcofahpeinkhfaaGreat
