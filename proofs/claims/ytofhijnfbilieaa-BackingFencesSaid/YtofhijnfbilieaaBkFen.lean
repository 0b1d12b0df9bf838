/-
  A store on a device with or without a fuse, behind crashes in which no sector tears: an elder token.
-/
import Derived.Test.YtofhijnfbilieaaJBD
namespace Go.Proofs.Ytofhijnfbilieaa
set_option linter.unusedVariables false
set_option linter.unusedSimpArgs false
namespace M
/-! what a device with a fuse does -/
theorem write_ways {d : Dv} {n i : Nat} {l : List UInt8} (hi : i < n) (hl : l.length ≤ 144) :
    (d.dead = false ∧ writeE n d i l = 0 ∧ (writeD n d i l).dead = false ∧ (writeD n d i l).S = d.S ∧ (writeD n d i l).P = upd d.P i (pad l)) ∨
    (writeE n d i l = 30 ∧ (writeD n d i l).dead = true ∧ (writeD n d i l).S = d.S ∧ (writeD n d i l).P = d.P) := by
  unfold writeE writeD
  cases hd : d.dead with
  | true =>
    have hr : reach n d (i : Int) = 30 := by unfold reach; rw [hd, if_pos rfl]
    right
    rw [hr, if_neg (by decide), if_neg (by decide)]
    exact ⟨rfl, hd, rfl, rfl⟩
  | false =>
    have hr : reach n d (i : Int) = 0 := by unfold reach; rw [hd, if_neg (by simp), if_neg (by omega)]
    rw [hr, if_pos rfl, if_pos rfl, if_neg (by omega), if_neg (by omega)]
    unfold actE
    by_cases hf : d.fuse = 0
    · right
      rw [if_pos hf, if_pos hf]
      refine ⟨rfl, ?_, act_S d, act_P d⟩
      unfold actD; rw [if_pos hf]
    · left
      rw [if_neg hf, if_neg hf]
      refine ⟨rfl, rfl, ?_, ?_, rfl⟩
      · show (actD d).dead = false
        unfold actD; rw [if_neg hf]; split <;> exact hd
      · exact act_S d
theorem barrier_ways (d : Dv) :
    (d.dead = false ∧ barrierE d = 0 ∧ (barrierD d).dead = false ∧ (∀ j, (barrierD d).S j = seen d j) ∧ (∀ k, (barrierD d).P k = none)) ∨
    (barrierE d = 30 ∧ (barrierD d).dead = true ∧ (barrierD d).S = d.S ∧ (barrierD d).P = d.P) := by
  by_cases hd : d.dead = true
  · have e1 : barrierE d = 30 := by unfold barrierE; rw [if_pos hd]
    have e2 : barrierD d = d := by unfold barrierD; rw [if_pos hd]
    right
    rw [e1, e2]
    exact ⟨rfl, hd, rfl, rfl⟩
  · by_cases hf : d.fuse = 0
    · have e1 : barrierE d = 30 := by unfold barrierE actE; rw [if_neg hd, if_pos hf]
      have e2 : barrierD d = actD d := by unfold barrierD; rw [if_neg hd, if_pos hf]
      right
      rw [e1, e2]
      exact ⟨rfl, by unfold actD; rw [if_pos hf], act_S d, act_P d⟩
    · have e1 : barrierE d = 0 := by unfold barrierE actE; rw [if_neg hd, if_neg hf]
      have e2 : barrierD d = { actD d with S := sure d, P := fun _ => none } := by unfold barrierD; rw [if_neg hd, if_neg hf]
      left
      rw [e1, e2]
      refine ⟨by simpa using hd, rfl, ?_, fun j => rfl, fun k => rfl⟩
      show (actD d).dead = false
      unfold actD; rw [if_neg hf]; split <;> simpa using hd

/-- how the sectors may be when the power comes again -/
def Two (d : Dv) (S2 : Nat → List UInt8) : Prop := ∀ j : Nat, S2 j = d.S j ∨ S2 j = seen d j
theorem crash_two (P : Int → Option Sec) : ∀ (r : List Int) (l : List (Int × Int)) (S : Nat → Sec) (j : Nat), r.Pairwise (· < ·) → (∀ x ∈ l, x.1 = 0 ∨ x.1 = 1) → (∀ i s, P i = some s → s.length = 144) → (S j).length = 144 → crashS P S r l j = S j ∨ crashS P S r l j = (P j).getD (S j)
  | [], _, S, _, _, _, _, _ => .inl rfl
  | i :: r, [], S, _, _, _, _, _ => .inl rfl
  | i :: r, k :: l, S, j, h, hl, hP, hS => by
    obtain ⟨h1, h2⟩ := List.pairwise_cons.1 h
    simp only [crashS]
    by_cases e : (j : Int) = i
    · rw [crashS_out P r l _ j fun h' => by have := h1 _ h'; omega, if_pos e]
      have hg : ((P i).getD (S j)).length = 144 := by
        cases hp : P i with
        | none => simpa using hS
        | some s => simpa using hP i s hp
      rcases hl k (by simp) with h0 | h0
      · left
        rw [show keptN k.1 k.2 = 0 by unfold keptN; rw [h0]; rfl]
        exact mix_zero _ _
      · right
        rw [show keptN k.1 k.2 = 144 by unfold keptN; rw [h0]; rfl, e]
        unfold mix
        rw [List.take_of_length_le (by omega), List.drop_of_length_le (by omega), List.append_nil]
    · have := crash_two P r l (fun j => if (j : Int) = i then mix ((P i).getD (S j)) (S j) (keptN k.1 k.2) else S j) j h2 (fun x hx => hl x (List.mem_cons_of_mem _ hx)) hP (by rw [if_neg e]; exact hS)
      rwa [if_neg e] at this
theorem Two.crash {n : Nat} {d : Dv} (h : Wf n d) {l : List (Int × Int)} (hl : ∀ x ∈ l, x.1 = 0 ∨ x.1 = 1) : Two d (crashD n d l).S := fun j =>
  crash_two d.P (pendL n d.P) l d.S j (pendL_rising _ _) hl (fun i s hs => (h.pend i s hs).2.2) (h.len j)
end M
namespace Bk
open Go.RowKit
open Ml (Mg may)

/-- the cell k that lies in these sectors -/
def cellS (S : Nat → List UInt8) (f k : Nat) : M.Cl := M.found (M.rdS (S (f + 2 * k))) (M.rdS (S (f + 2 * k + 1)))
theorem cellS_congr {S S' : Nat → List UInt8} {f k : Nat} (h1 : S' (f + 2 * k) = S (f + 2 * k)) (h2 : S' (f + 2 * k + 1) = S (f + 2 * k + 1)) : cellS S' f k = cellS S f k := by unfold cellS; rw [h1, h2]
theorem there_cellS {d : M.Dv} {f : Nat} (h : ∀ k, d.P k = none) (k : Nat) : there d f k = cellS d.S f k := by unfold there cellS M.seen; rw [h, h]; rfl

structure FI (n f bl : Nat) (d : M.Dv) (C : Cs) : Prop where
  wf : M.Wf n d
  fit : f + 2 * (1 + bl) ≤ n
  pn : d.dead = false → ∀ k, d.P k = none
  fnd : ∀ k, k ≤ bl → C k = cellS d.S f k
  safe : ∀ S2, M.Two d S2 → token C ≤ tok (cellS S2 f 0).text

theorem FI.same {n f bl : Nat} {d d' : M.Dv} {C : Cs} (h : FI n f bl d C) (hw : M.Wf n d') (hS : d'.S = d.S) (hP : d'.P = d.P) (hd : d'.dead = false → d.dead = false) : FI n f bl d' C :=
  ⟨hw, h.fit, fun e => by rw [hP]; exact h.pn (hd e), fun k hk => by rw [hS]; exact h.fnd k hk, fun S2 h2 => h.safe S2 fun j => by have := h2 j; unfold M.seen at this ⊢; rwa [hS, hP] at this⟩

/-- the cell that is found where the sector that may be written is turned to the slot behind -/
theorem cellS_put {S S' : Nat → List UInt8} {f k : Nat} {t : ByteArray} (hg : (cellS S f k).gen < 4611686018427387904) (ht : t.size ≤ 100)
    (hS : ∀ j : Nat, S' j = if j = M.pos (cellS S f k).o (f + 2 * k) (f + 2 * k + 1) then M.pad (M.slot ((cellS S f k).gen + 1) t) else S j) :
    cellS S' f k = ⟨1 - (cellS S f k).o, (cellS S f k).gen + 1, t⟩ := by
  have ho : (cellS S f k).o ≤ 1 := M.found_o _ _
  have hg2 := M.found_gen (S (f + 2 * k)) (S (f + 2 * k + 1))
  have hg3 : 0 ≤ (cellS S f k).gen := hg2.1
  have hm : M.MayS ((cellS S f k).gen + 1) t := ⟨by omega, by omega, ht⟩
  have key := M.found_put (l := S (f + 2 * k)) (m := S (f + 2 * k + 1)) (z := M.pad (M.slot ((cellS S f k).gen + 1) t)) (t := t) (M.rdS_pad hm)
  have e1 := hS (f + 2 * k)
  have e2 := hS (f + 2 * k + 1)
  change M.found (M.rdS (M.turn (cellS S f k).o _ _ _).1) (M.rdS (M.turn (cellS S f k).o _ _ _).2) = ⟨1 - (cellS S f k).o, (cellS S f k).gen + 1, t⟩ at key
  unfold cellS at e1 e2 ⊢
  generalize hc : M.found (M.rdS (S (f + 2 * k))) (M.rdS (S (f + 2 * k + 1))) = c at *
  have hcc : cellS S f k = c := hc
  rw [hcc] at key ho
  rw [e1, e2]
  by_cases h0 : c.o = 0
  · rw [h0] at key ⊢
    simp only [M.pos, if_true, M.turn0] at key ⊢
    rw [if_neg (by omega)]
    exact key
  · have h1 : c.o = 1 := by omega
    rw [h1] at key ⊢
    simp only [M.pos, M.turn1, show ¬ (1 = 0) by omega, if_false, if_true] at key ⊢
    rw [if_neg (by omega)]
    exact key
/-- the cell is another one's -/
theorem cellS_other {S S' : Nat → List UInt8} {f k j o : Nat} {z : List UInt8} (hjk : j ≠ k)
    (hS : ∀ i : Nat, S' i = S i ∨ i = M.pos o (f + 2 * k) (f + 2 * k + 1)) : cellS S' f j = cellS S f j := by
  have hp : M.pos o (f + 2 * k) (f + 2 * k + 1) = f + 2 * k ∨ M.pos o (f + 2 * k) (f + 2 * k + 1) = f + 2 * k + 1 := by unfold M.pos; split <;> simp
  apply cellS_congr
  · rcases hS (f + 2 * j) with h | h
    · exact h
    · omega
  · rcases hS (f + 2 * j + 1) with h | h
    · exact h
    · omega

theorem FI.put {n f bl : Nat} {d : M.Dv} {C : Cs} (h : FI n f bl d C) (k : Nat) (hk : k ≤ bl) {t : ByteArray} (ht : t.size ≤ 100) (ht0 : k = 0 → token C ≤ tok t) :
    FI n f bl (putD n f d C k t) (putC n f d C k t) ∧ ((putE n f d C k t = 0 ∧ putC n f d C k t = C.set k ⟨1 - (C k).o, (C k).gen + 1, t⟩) ∨ ((putE n f d C k t = 23 ∨ putE n f d C k t = 30) ∧ putC n f d C k t = C)) := by
  have hfit := h.fit
  have hck := h.fnd k hk
  by_cases hne : (C k).gen = 4611686018427387904
  · have e1 : putE n f d C k t = 23 := by unfold putE M.puE; rw [if_pos hne]
    have e2 : putD n f d C k t = d := by unfold putD M.puD; rw [if_pos hne]
    have e3 : putC n f d C k t = C := by unfold putC M.puC; rw [if_pos hne, Cs.set_self]
    rw [e1, e2, e3]
    exact ⟨h, .inr ⟨.inl rfl, rfl⟩⟩
  · have ho : (C k).o ≤ 1 := by rw [hck]; exact M.found_o _ _
    have hg0 : 0 ≤ (C k).gen ∧ (C k).gen ≤ 4611686018427387904 := by rw [hck]; exact M.found_gen _ _
    have hg : (cellS d.S f k).gen < 4611686018427387904 := by rw [← hck]; omega
    have hm : M.MayS ((C k).gen + 1) t := ⟨by omega, by omega, ht⟩
    have hp : M.pos (C k).o (f + 2 * k) (f + 2 * k + 1) < n := by unfold M.pos; split <;> omega
    have eE : putE n f d C k t = M.putE n d (M.pos (C k).o (f + 2 * k) (f + 2 * k + 1)) (M.slot ((C k).gen + 1) t) := by unfold putE M.puE; rw [if_neg hne]
    have eD : putD n f d C k t = M.putD n d (M.pos (C k).o (f + 2 * k) (f + 2 * k + 1)) (M.slot ((C k).gen + 1) t) := by unfold putD M.puD; rw [if_neg hne]
    have eC : putC n f d C k t = C.set k (M.putC (M.putE n d (M.pos (C k).o (f + 2 * k) (f + 2 * k + 1)) (M.slot ((C k).gen + 1) t)) (C k) t) := by unfold putC M.puC; rw [if_neg hne]
    have hl : (M.slot ((C k).gen + 1) t).length ≤ 144 := by have := M.slot_small hm; omega
    have hw1 := M.write_wf h.wf (M.pos (C k).o (f + 2 * k) (f + 2 * k + 1) : Nat) (M.slot ((C k).gen + 1) t)
    rw [eE, eD, eC]
    unfold M.putE M.putD
    rcases M.write_ways (d := d) hp hl with ⟨w1, w2, w3, w4, w5⟩ | ⟨w2, w3, w4, w5⟩
    · rw [w2, if_pos rfl, if_pos rfl]
      have hpn := h.pn w1
      have hsn : ∀ j : Nat, M.seen (M.writeD n d (M.pos (C k).o (f + 2 * k) (f + 2 * k + 1) : Nat) (M.slot ((C k).gen + 1) t)) j = if j = M.pos (C k).o (f + 2 * k) (f + 2 * k + 1) then M.pad (M.slot ((C k).gen + 1) t) else d.S j := by
        intro j
        unfold M.seen
        rw [w4, w5]
        unfold M.upd
        by_cases hj : j = M.pos (C k).o (f + 2 * k) (f + 2 * k + 1)
        · rw [if_pos (by omega), if_pos hj]; rfl
        · rw [if_neg (by omega), if_neg hj, hpn]; rfl
      generalize M.writeD n d (M.pos (C k).o (f + 2 * k) (f + 2 * k + 1) : Nat) (M.slot ((C k).gen + 1) t) = d1 at *
      rcases M.barrier_ways d1 with ⟨b1, b2, b3, b4, b5⟩ | ⟨b2, b3, b4, b5⟩
      · rw [b2, M.putC_ok]
        have hSS : ∀ j : Nat, (M.barrierD d1).S j = if j = M.pos (C k).o (f + 2 * k) (f + 2 * k + 1) then M.pad (M.slot ((C k).gen + 1) t) else d.S j := fun j => by rw [b4, hsn]
        have hfn : ∀ j, j ≤ bl → (C.set k ⟨1 - (C k).o, (C k).gen + 1, t⟩) j = cellS (M.barrierD d1).S f j := by
          intro j hj
          by_cases hjk : j = k
          · subst hjk
            rw [Cs.set_same]
            have := cellS_put (S := d.S) (S' := (M.barrierD d1).S) (f := f) (k := j) hg ht (by rw [← hck]; exact hSS)
            rw [← hck] at this
            exact this.symm
          · rw [Cs.set_other _ _ hjk, h.fnd j hj]
            refine (cellS_other (z := []) (o := (C k).o) hjk fun i => ?_).symm
            rw [hSS]
            by_cases hi : i = M.pos (C k).o (f + 2 * k) (f + 2 * k + 1)
            · exact .inr hi
            · rw [if_neg hi]; exact .inl rfl
        refine ⟨⟨M.barrier_wf hw1, hfit, fun _ => b5, hfn, fun S2 h2 => ?_⟩, .inl ⟨rfl, rfl⟩⟩
        have e0 : cellS S2 f 0 = cellS (M.barrierD d1).S f 0 := by
          have hh : ∀ j : Nat, S2 j = (M.barrierD d1).S j := fun j => by
            rcases h2 j with e | e
            · exact e
            · rw [e]; unfold M.seen; rw [b5]; rfl
          exact cellS_congr (hh _) (hh _)
        rw [e0, ← hfn 0 (Nat.zero_le _)]
        exact Int.le_refl _
      · have hn0 : M.putC 30 (C k) t = C k := by unfold M.putC; rw [if_neg (by omega)]
        rw [b2, hn0, Cs.set_self]
        refine ⟨⟨M.barrier_wf hw1, hfit, fun e => ?_, fun j hj => ?_, fun S2 h2 => ?_⟩, .inr ⟨.inr rfl, rfl⟩⟩
        · rw [b3] at e; simp at e
        · rw [b4, w4]; exact h.fnd j hj
        · have hh : ∀ j : Nat, S2 j = d.S j ∨ (j = M.pos (C k).o (f + 2 * k) (f + 2 * k + 1) ∧ S2 j = M.pad (M.slot ((C k).gen + 1) t)) := fun j => by
            rcases h2 j with e | e
            · rw [b4, w4] at e; exact .inl e
            · have e' : S2 j = M.seen d1 j := by rw [e]; unfold M.seen; rw [b4, b5]
              rw [hsn] at e'
              by_cases hj : j = M.pos (C k).o (f + 2 * k) (f + 2 * k + 1)
              · rw [if_pos hj] at e'; exact .inr ⟨hj, e'⟩
              · rw [if_neg hj] at e'; exact .inl e'
          have hd : ∀ S3, (∀ j : Nat, S3 j = d.S j) → token C ≤ tok (cellS S3 f 0).text := fun S3 h3 => h.safe S3 fun j => .inl (h3 j)
          have hold : token C = tok (cellS d.S f 0).text := by unfold token; rw [h.fnd 0 (Nat.zero_le _)]
          by_cases hk0 : k = 0
          · subst hk0
            rcases hh (M.pos (C 0).o (f + 2 * 0) (f + 2 * 0 + 1)) with e | ⟨_, e⟩
            · refine hd S2 fun j => ?_
              rcases hh j with e2 | ⟨e2, _⟩
              · exact e2
              · rw [e2]; exact e
            · have hx : ∀ j : Nat, S2 j = if j = M.pos (cellS d.S f 0).o (f + 2 * 0) (f + 2 * 0 + 1) then M.pad (M.slot ((cellS d.S f 0).gen + 1) t) else d.S j := by
                rw [← hck]
                intro j
                by_cases hj : j = M.pos (C 0).o (f + 2 * 0) (f + 2 * 0 + 1)
                · rw [if_pos hj, hj]; exact e
                · rw [if_neg hj]
                  rcases hh j with e2 | ⟨e2, _⟩
                  · exact e2
                  · exact absurd e2 hj
              rw [cellS_put hg ht hx]
              exact ht0 rfl
          · rw [hold, cellS_other (S := d.S) (S' := S2) (z := []) (o := (C k).o) (k := k) (Ne.symm hk0) fun i => by
              rcases hh i with e2 | ⟨e2, _⟩
              · exact .inl e2
              · exact .inr e2]
            exact Int.le_refl _
    · have hn0 : M.putC 30 (C k) t = C k := by unfold M.putC; rw [if_neg (by omega)]
      rw [w2, if_neg (by decide), if_neg (by decide), hn0, Cs.set_self]
      refine ⟨h.same hw1 w4 w5 fun e => ?_, .inr ⟨.inr rfl, rfl⟩⟩
      rw [w3] at e; simp at e
theorem FI.adm {n f bl : Nat} {d : M.Dv} {C : Cs} (h : FI n f bl d C) {ep : Int} (hep : 0 ≤ ep ∧ ep ≤ big) :
    FI n f bl (admD n f d C ep) (admC n f d C ep) ∧ token C ≤ token (admC n f d C ep) ∧ (ep < token C → admE n f d C ep = 24 ∧ admC n f d C ep = C) ∧
      (¬ ep < token C → admE n f d C ep ≠ 24) ∧ (admE n f d C ep = 0 → ep ≤ token (admC n f d C ep)) ∧ (∀ k, blk (admC n f d C ep) k = blk C k) := by
  by_cases h1 : ep < token C
  · have e1 : admE n f d C ep = 24 := by unfold admE; rw [if_pos h1]
    have e2 : admD n f d C ep = d := by unfold admD; rw [if_pos (by omega)]
    have e3 : admC n f d C ep = C := by unfold admC; rw [if_pos (by omega)]
    rw [e1, e2, e3]
    exact ⟨h, Int.le_refl _, fun _ => ⟨rfl, rfl⟩, fun h2 => absurd h1 h2, fun h2 => by omega, fun _ => rfl⟩
  · by_cases h2 : ep = token C
    · have e1 : admE n f d C ep = 0 := by unfold admE; rw [if_neg h1, if_pos h2]
      have e2 : admD n f d C ep = d := by unfold admD; rw [if_pos (by omega)]
      have e3 : admC n f d C ep = C := by unfold admC; rw [if_pos (by omega)]
      rw [e1, e2, e3]
      exact ⟨h, Int.le_refl _, fun h3 => absurd h3 h1, fun _ => by omega, fun _ => by omega, fun _ => rfl⟩
    · have e1 : admE n f d C ep = putE n f d C 0 (tokT ep) := by unfold admE; rw [if_neg h1, if_neg h2]
      have e2 : admD n f d C ep = putD n f d C 0 (tokT ep) := by unfold admD; rw [if_neg (by omega)]
      have e3 : admC n f d C ep = putC n f d C 0 (tokT ep) := by unfold admC; rw [if_neg (by omega)]
      obtain ⟨p1, p2⟩ := h.put 0 (Nat.zero_le _) (tokT_small ep) (fun _ => by rw [tok_tokT hep]; omega)
      rw [e1, e2, e3]
      rcases p2 with ⟨q1, q2⟩ | ⟨q1, q2⟩
      · rw [q1, q2]
        rw [q2] at p1
        have ht : token (C.set 0 ⟨1 - (C 0).o, (C 0).gen + 1, tokT ep⟩) = ep := by rw [token_set0, tok_tokT hep]
        exact ⟨p1, by rw [ht]; omega, fun h3 => absurd h3 h1, fun _ => by omega, fun _ => by rw [ht]; omega, fun k => blk_set0 _ _ _⟩
      · rw [q2]
        rw [q2] at p1
        exact ⟨p1, Int.le_refl _, fun h3 => absurd h3 h1, fun _ => by omega, fun h3 => by omega, fun _ => rfl⟩

theorem FI.sto {n f bl : Nat} {d : M.Dv} {C : Cs} (h : FI n f bl d C) {m : Mg} (hm : may m = true) :
    FI n f bl (stoD n f bl d C m) (stoC n f bl d C m) ∧ token (stoC n f bl d C m) = token C ∧ stoE n f bl d C m ≠ 24 := by
  cases hf : fresh bl C m with
  | false =>
    have e1 : stoE n f bl d C m ≠ 24 := by unfold stoE; rw [hf]; simp; split <;> (try split) <;> omega
    have e2 : stoD n f bl d C m = d := by unfold stoD; rw [hf]; rfl
    have e3 : stoC n f bl d C m = C := by unfold stoC; rw [hf]; rfl
    rw [e2, e3]
    exact ⟨h, rfl, e1⟩
  | true =>
    have hf' := hf
    unfold fresh at hf'
    simp only [Bool.and_eq_true, decide_eq_true_eq] at hf'
    obtain ⟨⟨hb, h8⟩, _⟩ := hf'
    have hb' := hb
    unfold isB at hb'
    simp at hb'
    obtain ⟨k, hk⟩ := Int.eq_ofNat_of_zero_le hb'.1
    have hk2 : m.block.toNat = k := by omega
    obtain ⟨p1, p2⟩ := h.put (k + 1) (by omega) (stT_small (s := newS bl C m) h8) (fun h0 => by omega)
    have e1 : stoE n f bl d C m = putE n f d C (k + 1) (stT (newS bl C m)) := by unfold stoE; rw [hf, if_neg (by simp [hb]), if_neg (by simp [h8]), if_pos rfl, hk2]
    have e2 : stoD n f bl d C m = putD n f d C (k + 1) (stT (newS bl C m)) := by unfold stoD; rw [hf, if_pos rfl, hk2]
    have e3 : stoC n f bl d C m = putC n f d C (k + 1) (stT (newS bl C m)) := by unfold stoC; rw [hf, if_pos rfl, hk2]
    rw [e1, e2, e3]
    refine ⟨p1, ?_, ?_⟩
    · rcases p2 with ⟨_, q2⟩ | ⟨_, q2⟩
      · rw [q2, token_set]
      · rw [q2]
    · rcases p2 with ⟨q1, _⟩ | ⟨q1, _⟩ <;> omega

/-- a message that comes -/
theorem FI.take {n f bl : Nat} {d : M.Dv} {C : Cs} (h : FI n f bl d C) (m : Mg) :
    FI n f bl (takD n f bl d C m) (takC n f bl d C m) ∧ token C ≤ token (takC n f bl d C m) ∧
      (m.epoch < token C → (∀ k, blk (takC n f bl d C m) k = blk C k) ∧ (takI n f bl d C m = true → (takA n f bl d C m).e = 24)) ∧
      (takI n f bl d C m = true → ¬ m.epoch < token C → (takA n f bl d C m).e ≠ 24) ∧ (takI n f bl d C m = true → (takA n f bl d C m).e = 0 → m.epoch ≤ token (takC n f bl d C m)) := by
  cases hc : can m with
  | false =>
    have e1 : takI n f bl d C m = false := by unfold takI; rw [hc]; rfl
    have e3 : takD n f bl d C m = d := by unfold takD; rw [if_pos hc]
    have e4 : takC n f bl d C m = C := by unfold takC; rw [if_pos hc]
    rw [e1, e3, e4]
    exact ⟨h, Int.le_refl _, fun _ => ⟨fun _ => rfl, by simp⟩, by simp, by simp⟩
  | true =>
    obtain ⟨hk, hm⟩ := (can_iff m).1 hc
    obtain ⟨a1, a2, a3, a4, a5, a6⟩ := h.adm (may_epoch hm)
    obtain ⟨s1, s2, s3⟩ := a1.sto hm
    have hA : takI n f bl d C m = true → (takA n f bl d C m).e = takE n f bl d C m := fun hi => by unfold takA; rw [hi, if_neg (by simp)]; split <;> rfl
    by_cases h1 : admE n f d C m.epoch ≠ 0
    · have g0 : takE n f bl d C m = admE n f d C m.epoch := by unfold takE; rw [if_pos h1]
      have e3 : takD n f bl d C m = admD n f d C m.epoch := by unfold takD; rw [if_neg (by simp [hc]), if_pos (.inl h1)]
      have e4 : takC n f bl d C m = admC n f d C m.epoch := by unfold takC; rw [if_neg (by simp [hc]), if_pos (.inl h1)]
      rw [e3, e4]
      exact ⟨a1, a2, fun hl => ⟨a6, fun hi => by rw [hA hi, g0]; exact (a3 hl).1⟩, fun hi hl => by rw [hA hi, g0]; exact a4 hl, fun hi h0 => by rw [hA hi, g0] at h0; exact absurd h0 h1⟩
    · have h1' : admE n f d C m.epoch = 0 := by omega
      have hnl : ¬ m.epoch < token C := fun hl => by have := (a3 hl).1; omega
      by_cases h12 : m.kind = 12
      · have g0 : takE n f bl d C m = loaE bl m.block := by unfold takE; rw [if_neg h1, if_pos h12]
        have e3 : takD n f bl d C m = admD n f d C m.epoch := by unfold takD; rw [if_neg (by simp [hc]), if_pos (.inr h12)]
        have e4 : takC n f bl d C m = admC n f d C m.epoch := by unfold takC; rw [if_neg (by simp [hc]), if_pos (.inr h12)]
        rw [e3, e4]
        exact ⟨a1, a2, fun hl => absurd hl hnl, fun hi _ => by rw [hA hi, g0]; unfold loaE; split <;> omega, fun _ _ => a5 h1'⟩
      · have g0 : takE n f bl d C m = stoE n f bl (admD n f d C m.epoch) (admC n f d C m.epoch) m := by unfold takE; rw [if_neg h1, if_neg h12]
        have e3 : takD n f bl d C m = stoD n f bl (admD n f d C m.epoch) (admC n f d C m.epoch) m := by unfold takD; rw [if_neg (by simp [hc]), if_neg (by simp [h1', h12])]
        have e4 : takC n f bl d C m = stoC n f bl (admD n f d C m.epoch) (admC n f d C m.epoch) m := by unfold takC; rw [if_neg (by simp [hc]), if_neg (by simp [h1', h12])]
        rw [e3, e4]
        exact ⟨s1, by rw [s2]; exact a2, fun hl => absurd hl hnl, fun hi _ => by rw [hA hi, g0]; exact s3, fun _ _ => by rw [s2]; exact a5 h1'⟩

/-- the power goes, and no sector tears -/
theorem FI.crash {n f bl : Nat} {d : M.Dv} {C : Cs} (h : FI n f bl d C) {l : List (Int × Int)} (hl : ∀ x ∈ l, x.1 = 0 ∨ x.1 = 1) :
    FI n f bl (M.crashD n d l) (there (M.crashD n d l) f) ∧ token C ≤ token (there (M.crashD n d l) f) ∧ (M.crashD n d l).dead = false := by
  have hp : ∀ k, (M.crashD n d l).P k = none := fun _ => rfl
  have ht := there_cellS (f := f) hp
  refine ⟨⟨M.crash_wf h.wf l, h.fit, fun _ => hp, fun k _ => ht k, fun S2 h2 => ?_⟩, ?_, rfl⟩
  · have e0 : cellS S2 f 0 = cellS (M.crashD n d l).S f 0 := by
      have hh : ∀ j : Nat, S2 j = (M.crashD n d l).S j := fun j => by
        rcases h2 j with e | e
        · exact e
        · rw [e]; rfl
      exact cellS_congr (hh _) (hh _)
    rw [e0]
    unfold token
    rw [ht]
    exact Int.le_refl _
  · have := h.safe _ (M.Two.crash h.wf hl)
    unfold token at this ⊢
    rwa [ht]

theorem FI.fuse {n f bl : Nat} {d : M.Dv} {C : Cs} (h : FI n f bl d C) {k : Int} (hk : -9223372036854775808 ≤ k ∧ k ≤ 9223372036854775807) : FI n f bl (M.fuseD d k) C :=
  h.same ⟨h.wf.len, h.wf.pend, hk.1, hk.2⟩ rfl rfl (fun e => e)

theorem fi_fresh (n f bl : Nat) (hfit : f + 2 * (1 + bl) ≤ n) : FI n f bl M.fresh (there M.fresh f) := by
  have hp : ∀ k, M.fresh.P k = none := fun _ => rfl
  have ht := there_cellS (f := f) hp
  refine ⟨M.fresh_wf n, hfit, fun _ => hp, fun k _ => ht k, fun S2 h2 => ?_⟩
  have e0 : cellS S2 f 0 = cellS M.fresh.S f 0 := by
    have hh : ∀ j : Nat, S2 j = M.fresh.S j := fun j => by
      rcases h2 j with e | e
      · exact e
      · rw [e]; rfl
    exact cellS_congr (hh _) (hh _)
  rw [e0]
  unfold token
  rw [ht]
  exact Int.le_refl _
theorem fi_token_fresh (f : Nat) : 0 ≤ token (there M.fresh f) := (tok_in _).1
theorem fi_token (C : Cs) : 0 ≤ token C := (tok_in _).1
end Bk
end Go.Proofs.Ytofhijnfbilieaa
