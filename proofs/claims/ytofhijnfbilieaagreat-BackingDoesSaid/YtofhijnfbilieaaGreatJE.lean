/-
  Plain mathematics of a slot: its bytes, and what a sector's bytes say as a slot; there and back.
  Rows of bytes as each of the three elder parts (sum, records, device) knows them; what stays.
  What a slot may have, and its bytes, as the code tells them.
  What the code reads of a sector's bytes as a slot.
  What the code reads of a sector's bytes as a slot, whatever they are.
  A cell in memory; what Get and Gen tell, and what Open makes.
  What Put tells, and what becomes of the cell and its device.
  Put, whichever sector it writes; a cell on a device that has no fuse and is not dead; what 'slots' tells; the calls whose answers the document fixes.
  A put on a device without a fuse; the calls whose answers the document fixes.
  Put in every case: also where no generation is left.
-/
import Derived.Test.YtofhijnfbilieaaGreatJK
import Derived.Test.YtofhijnfbilieaaGreatJC
import Derived.Test.YtofhijnfbilieaaGreatJS
import Derived.Deep.QuietTactic
import Derived.BigQuiet
import Derived.Deep.RegionLaw
import Derived.Deep.RegionHeld3
import Derived.BigRegion
set_option linter.unusedVariables false
namespace Go.Proofs.YtofhijnfbilieaaGreat
namespace M

def ints8 (l : List UInt8) : List Int := l.map fun c => (c.toNat : Int)
def sumB (l : List UInt8) : BitVec 32 := K.M.more 0#32 (ints8 l)
def word (s : BitVec 32) : List UInt8 := [UInt8.ofNat (s.toNat / 16777216), UInt8.ofNat (s.toNat / 65536), UInt8.ofNat (s.toNat / 256), UInt8.ofNat s.toNat]
def num4 (a b c d : UInt8) : Nat := a.toNat * 16777216 + b.toNat * 65536 + c.toNat * 256 + d.toNat

theorem num4_word (s : BitVec 32) : num4 (UInt8.ofNat (s.toNat / 16777216)) (UInt8.ofNat (s.toNat / 65536)) (UInt8.ofNat (s.toNat / 256)) (UInt8.ofNat s.toNat) = s.toNat := by
  have h : s.toNat < 4294967296 := s.isLt
  unfold num4
  simp only [UInt8.toNat_ofNat']
  omega
theorem num4_lt (a b c d : UInt8) : num4 a b c d < 4294967296 := by
  have := a.toNat_lt; have := b.toNat_lt; have := c.toNat_lt; have := d.toNat_lt
  unfold num4; omega
theorem word_num4 {a b c d : UInt8} {s : BitVec 32} (h : s.toNat = num4 a b c d) : word s = [a, b, c, d] := by
  have ha := a.toNat_lt; have hb := b.toNat_lt; have hc := c.toNat_lt; have hd := d.toNat_lt
  unfold word
  rw [h]
  unfold num4
  have e1 : UInt8.ofNat ((a.toNat * 16777216 + b.toNat * 65536 + c.toNat * 256 + d.toNat) / 16777216) = a := by
    apply UInt8.toNat.inj; rw [UInt8.toNat_ofNat']; omega
  have e2 : UInt8.ofNat ((a.toNat * 16777216 + b.toNat * 65536 + c.toNat * 256 + d.toNat) / 65536) = b := by
    apply UInt8.toNat.inj; rw [UInt8.toNat_ofNat']; omega
  have e3 : UInt8.ofNat ((a.toNat * 16777216 + b.toNat * 65536 + c.toNat * 256 + d.toNat) / 256) = c := by
    apply UInt8.toNat.inj; rw [UInt8.toNat_ofNat']; omega
  have e4 : UInt8.ofNat (a.toNat * 16777216 + b.toNat * 65536 + c.toNat * 256 + d.toNat) = d := by
    apply UInt8.toNat.inj; rw [UInt8.toNat_ofNat']; omega
  rw [e1, e2, e3, e4]

def summed (r : List UInt8) : List UInt8 := UInt8.ofNat r.length :: r
def framed (r : List UInt8) : List UInt8 := word (sumB (summed r)) ++ summed r

def unframe : List UInt8 → Option C.M.Rc
  | a :: b :: c :: d :: n :: r => if n.toNat ≤ r.length then (if (sumB (n :: r.take n.toNat)).toNat = num4 a b c d then C.M.dec (r.take n.toNat) else none) else none
  | _ => none

theorem unframe_framed {r : C.M.Rc} (hm : C.M.May r) (hf : C.M.Fits r) (hl : (C.M.enc r).length < 256) (x : List UInt8) : unframe (framed (C.M.enc r) ++ x) = some r := by
  have h0 : (UInt8.ofNat (C.M.enc r).length).toNat = (C.M.enc r).length := C.M.toNat_ofNat hl
  show unframe (UInt8.ofNat ((sumB (summed (C.M.enc r))).toNat / 16777216) :: UInt8.ofNat ((sumB (summed (C.M.enc r))).toNat / 65536) :: UInt8.ofNat ((sumB (summed (C.M.enc r))).toNat / 256) :: UInt8.ofNat (sumB (summed (C.M.enc r))).toNat :: UInt8.ofNat (C.M.enc r).length :: (C.M.enc r ++ x)) = _
  simp only [unframe]
  rw [h0, if_pos (by rw [List.length_append]; omega), List.take_left, if_pos (by rw [num4_word]; rfl)]
  exact C.M.dec_enc hm hf

theorem framed_unframe {l : List UInt8} {r : C.M.Rc} (h : unframe l = some r) : C.M.May r ∧ C.M.Fits r ∧ (C.M.enc r).length < 256 ∧ ∃ x, l = framed (C.M.enc r) ++ x := by
  match l, h with
  | a :: b :: c :: d :: n :: t, h =>
    simp only [unframe] at h
    split at h
    · rename_i hn
      split at h
      · rename_i hs
        obtain ⟨h1, h2, h3⟩ := C.M.enc_dec h
        have hl : (C.M.enc r).length = n.toNat := by rw [← h3, List.length_take]; omega
        have hn2 := n.toNat_lt
        refine ⟨h1, h2, by omega, t.drop n.toNat, ?_⟩
        have e0 : UInt8.ofNat (C.M.enc r).length = n := by apply UInt8.toNat.inj; rw [UInt8.toNat_ofNat', hl]; omega
        unfold framed summed
        rw [e0, ← h3, word_num4 hs]
        simp
      · cases h
    · cases h

/-- a slot's record -/
def recS (g : Int) (t : ByteArray) : C.M.Rc := ⟨1, [g], [t]⟩
def MayS (g : Int) (t : ByteArray) : Prop := 1 ≤ g ∧ g ≤ 4611686018427387904 ∧ t.size ≤ 100
def slot (g : Int) (t : ByteArray) : List UInt8 := framed (C.M.enc (recS g t))

theorem recS_may {g : Int} {t : ByteArray} (h : MayS g t) : C.M.May (recS g t) ∧ C.M.Fits (recS g t) := by
  obtain ⟨h1, h2, h3⟩ := h
  refine ⟨⟨by simp [recS], by simp [recS], by simp [recS], by simp [recS], fun x hx => ?_⟩, fun x hx => ?_⟩
  · simp [recS] at hx; subst hx; omega
  · simp [recS] at hx; subst hx; unfold C.M.fits; omega
theorem enc_len {g : Int} {t : ByteArray} : (C.M.enc (recS g t)).length = 2 + (C.M.num g).length + (1 + t.size) := by
  rw [C.M.enc_len]; simp [recS]
theorem enc_small {g : Int} {t : ByteArray} (h : MayS g t) : (C.M.enc (recS g t)).length ≤ 113 ∧ 4 ≤ (C.M.enc (recS g t)).length := by
  have := C.M.num_len g
  rw [enc_len]
  obtain ⟨_, _, h3⟩ := h
  omega
theorem slot_len (g : Int) (t : ByteArray) : (slot g t).length = 5 + (C.M.enc (recS g t)).length := by
  simp [slot, framed, word, summed]; omega
theorem slot_small {g : Int} {t : ByteArray} (h : MayS g t) : 9 ≤ (slot g t).length ∧ (slot g t).length ≤ 118 := by
  have := enc_small h
  rw [slot_len]; omega

def asSlot (r : C.M.Rc) : Option (Int × ByteArray) :=
  match r with
  | ⟨k, [g], [t]⟩ => if k = 1 then (if t.size ≤ 100 ∧ 1 ≤ g ∧ g ≤ 4611686018427387904 then some (g, t) else none) else none
  | _ => none

/-- what bytes say as a slot -/
def rdS (l : List UInt8) : Option (Int × ByteArray) := (unframe l).bind asSlot

theorem rdS_slot {g : Int} {t : ByteArray} (h : MayS g t) (x : List UInt8) : rdS (slot g t ++ x) = some (g, t) := by
  obtain ⟨h1, h2⟩ := recS_may h
  unfold rdS slot
  rw [unframe_framed h1 h2 (by have := enc_small h; omega)]
  simp only [Option.bind_some, recS, asSlot]
  rw [if_pos trivial, if_pos ⟨h.2.2, h.1, h.2.1⟩]

theorem asSlot_some {r : C.M.Rc} {g : Int} {t : ByteArray} (h : asSlot r = some (g, t)) : r = recS g t ∧ MayS g t := by
  obtain ⟨k, ns, ts⟩ := r
  match ns, ts, h with
  | [g'], [t'], h =>
    simp only [asSlot] at h
    split at h
    · rename_i hk
      split at h
      · rename_i hm
        simp only [Option.some.injEq, Prod.mk.injEq] at h
        obtain ⟨rfl, rfl⟩ := h
        subst hk
        exact ⟨rfl, hm.2.1, hm.2.2, hm.1⟩
      · cases h
    · cases h
  | [], _, h => simp [asSlot] at h
  | [_], [], h => simp [asSlot] at h
  | [_], _ :: _ :: _, h => simp [asSlot] at h
  | _ :: _ :: _, _, h => simp [asSlot] at h

theorem slot_rdS {l : List UInt8} {g : Int} {t : ByteArray} (h : rdS l = some (g, t)) : MayS g t ∧ ∃ x, l = slot g t ++ x := by
  unfold rdS at h
  cases hu : unframe l with
  | none => rw [hu] at h; cases h
  | some r =>
    rw [hu] at h
    simp only [Option.bind_some] at h
    obtain ⟨rfl, hm⟩ := asSlot_some h
    obtain ⟨_, _, _, x, hx⟩ := framed_unframe hu
    exact ⟨hm, x, hx⟩

theorem slot_inj {g h : Int} {s t : ByteArray} (h1 : MayS g s) (h2 : MayS h t) {x y : List UInt8} (e : slot g s ++ x = slot h t ++ y) : g = h ∧ s = t := by
  have a := rdS_slot h1 x
  have b := rdS_slot h2 y
  rw [e, b] at a
  simp only [Option.some.injEq, Prod.mk.injEq] at a
  exact ⟨a.1.symm, a.2.symm⟩

theorem slot_drop (g : Int) (t : ByteArray) : (slot g t).drop 4 = summed (C.M.enc (recS g t)) := by
  simp [slot, framed, word]

theorem slot_drop_inj {g h : Int} {s t : ByteArray} (h1 : MayS g s) (h2 : MayS h t) (e : (slot g s).drop 4 = (slot h t).drop 4) : g = h ∧ s = t := by
  rw [slot_drop, slot_drop] at e
  unfold summed at e
  injection e with _ e
  obtain ⟨a1, a2⟩ := recS_may h1
  obtain ⟨b1, b2⟩ := recS_may h2
  have a := C.M.dec_enc a1 a2
  rw [e, C.M.dec_enc b1 b2] at a
  simp only [Option.some.injEq, recS, C.M.Rc.mk.injEq, List.cons.injEq, and_true, true_and] at a
  exact ⟨a.1.symm, a.2.symm⟩

theorem rdS_five {l : List UInt8} (h : l[4]? = some 0) : rdS l = none := by
  match l, h with
  | a :: b :: c :: d :: n :: r, h =>
    simp only [List.getElem?_cons_succ, List.getElem?_cons_zero, Option.some.injEq] at h
    subst h
    unfold rdS unframe
    have e : C.M.dec ([] : List UInt8) = none := by rfl
    simp [e]

theorem rdS_zero : rdS zero = none := rdS_five (by rfl)

/-- a sector that holds a slot -/
theorem rdS_pad {g : Int} {t : ByteArray} (h : MayS g t) : rdS (pad (slot g t)) = some (g, t) := rdS_slot h _

/-! which slot a cell finds: the sector that it may write, the generation, the text -/
structure Cl where
  o : Nat
  gen : Int
  text : ByteArray

def step1 (i : Nat) (x : Option (Int × ByteArray)) (c : Cl) : Cl :=
  match x with
  | some (g, t) => if c.gen < g then ⟨1 - i, g, t⟩ else c
  | none => c
def none0 : Cl := ⟨0, 0, ByteArray.empty⟩
def found (x y : Option (Int × ByteArray)) : Cl := step1 1 y (step1 0 x none0)

theorem step1_up {i : Nat} {g : Int} {t : ByteArray} {c : Cl} (h : c.gen < g) : step1 i (some (g, t)) c = ⟨1 - i, g, t⟩ := if_pos h
theorem step1_no {i : Nat} {g : Int} {t : ByteArray} {c : Cl} (h : ¬ c.gen < g) : step1 i (some (g, t)) c = c := if_neg h
theorem f00 : found none none = ⟨0, 0, ByteArray.empty⟩ := rfl
theorem f01 {g : Int} {t : ByteArray} (h : 1 ≤ g) : found none (some (g, t)) = ⟨0, g, t⟩ := step1_up (show (0 : Int) < g by omega)
theorem f1 {g : Int} {t : ByteArray} (h : 1 ≤ g) : step1 0 (some (g, t)) none0 = ⟨1, g, t⟩ := step1_up (show (0 : Int) < g by omega)
theorem f10 {g : Int} {t : ByteArray} (h : 1 ≤ g) : found (some (g, t)) none = ⟨1, g, t⟩ := f1 h
theorem f11 {g g' : Int} {t t' : ByteArray} (h : 1 ≤ g) (h' : g < g') : found (some (g, t)) (some (g', t')) = ⟨0, g', t'⟩ := by
  unfold found; rw [f1 h]; exact step1_up h'
theorem f12 {g g' : Int} {t t' : ByteArray} (h : 1 ≤ g) (h' : ¬ g < g') : found (some (g, t)) (some (g', t')) = ⟨1, g, t⟩ := by
  unfold found; rw [f1 h]; exact step1_no h'

/-- the five ways of what is found -/
theorem found_ways (l m : List UInt8) :
    (rdS l = none ∧ rdS m = none ∧ found (rdS l) (rdS m) = ⟨0, 0, ByteArray.empty⟩) ∨
    (∃ g t, rdS l = none ∧ rdS m = some (g, t) ∧ MayS g t ∧ found (rdS l) (rdS m) = ⟨0, g, t⟩) ∨
    (∃ g t, rdS l = some (g, t) ∧ rdS m = none ∧ MayS g t ∧ found (rdS l) (rdS m) = ⟨1, g, t⟩) ∨
    (∃ g t g' t', rdS l = some (g, t) ∧ rdS m = some (g', t') ∧ MayS g t ∧ MayS g' t' ∧ g < g' ∧ found (rdS l) (rdS m) = ⟨0, g', t'⟩) ∨
    (∃ g t g' t', rdS l = some (g, t) ∧ rdS m = some (g', t') ∧ MayS g t ∧ MayS g' t' ∧ ¬ g < g' ∧ found (rdS l) (rdS m) = ⟨1, g, t⟩) := by
  cases hl : rdS l with
  | none =>
    cases hm : rdS m with
    | none => exact .inl ⟨rfl, rfl, f00⟩
    | some y =>
      obtain ⟨g, t⟩ := y
      have h := (slot_rdS hm).1
      exact .inr (.inl ⟨g, t, rfl, rfl, h, f01 h.1⟩)
  | some x =>
    obtain ⟨g, t⟩ := x
    have h := (slot_rdS hl).1
    cases hm : rdS m with
    | none => exact .inr (.inr (.inl ⟨g, t, rfl, rfl, h, f10 h.1⟩))
    | some y =>
      obtain ⟨g', t'⟩ := y
      have h' := (slot_rdS hm).1
      by_cases hg : g < g'
      · exact .inr (.inr (.inr (.inl ⟨g, t, g', t', rfl, rfl, h, h', hg, f11 h.1 hg⟩)))
      · exact .inr (.inr (.inr (.inr ⟨g, t, g', t', rfl, rfl, h, h', hg, f12 h.1 hg⟩)))

theorem found_o (l m : List UInt8) : (found (rdS l) (rdS m)).o ≤ 1 := by
  rcases found_ways l m with ⟨_, _, h⟩ | ⟨_, _, _, _, _, h⟩ | ⟨_, _, _, _, _, h⟩ | ⟨_, _, _, _, _, _, _, _, _, h⟩ | ⟨_, _, _, _, _, _, _, _, _, h⟩ <;> rw [h] <;> simp
theorem found_gen (l m : List UInt8) : 0 ≤ (found (rdS l) (rdS m)).gen ∧ (found (rdS l) (rdS m)).gen ≤ 4611686018427387904 := by
  rcases found_ways l m with ⟨_, _, h⟩ | ⟨_, _, _, _, ⟨h1, h2, _⟩, h⟩ | ⟨_, _, _, _, ⟨h1, h2, _⟩, h⟩ | ⟨_, _, _, _, _, _, _, ⟨h1, h2, _⟩, _, h⟩ | ⟨_, _, _, _, _, _, ⟨h1, h2, _⟩, _, _, h⟩ <;> rw [h] <;> simp only <;> omega
theorem found_text (l m : List UInt8) : (found (rdS l) (rdS m)).text.size ≤ 100 := by
  rcases found_ways l m with ⟨_, _, h⟩ | ⟨_, _, _, _, ⟨_, _, h1⟩, h⟩ | ⟨_, _, _, _, ⟨_, _, h1⟩, h⟩ | ⟨_, _, _, _, _, _, _, ⟨_, _, h1⟩, _, h⟩ | ⟨_, _, _, _, _, _, ⟨_, _, h1⟩, _, _, h⟩ <;> rw [h]
  · decide
  all_goals exact h1

/-- the two sectors, one of them turned -/
def turn (o : Nat) (z l m : List UInt8) : List UInt8 × List UInt8 := if o = 0 then (z, m) else (l, z)
theorem turn0 (z l m : List UInt8) : turn 0 z l m = (z, m) := rfl
theorem turn1 (z l m : List UInt8) : turn 1 z l m = (l, z) := rfl

/-- the sector that may be written is turned to the slot behind: the cell that is found has it -/
theorem found_put {l m z : List UInt8} {t : ByteArray} (hz : rdS z = some ((found (rdS l) (rdS m)).gen + 1, t)) :
    found (rdS (turn (found (rdS l) (rdS m)).o z l m).1) (rdS (turn (found (rdS l) (rdS m)).o z l m).2) = ⟨1 - (found (rdS l) (rdS m)).o, (found (rdS l) (rdS m)).gen + 1, t⟩ := by
  rcases found_ways l m with ⟨hl, hm, h⟩ | ⟨g, s, hl, hm, ⟨h1, _⟩, h⟩ | ⟨g, s, hl, hm, ⟨h1, _⟩, h⟩ | ⟨g, s, g', s', hl, hm, ⟨h1, _⟩, ⟨h2, _⟩, hg, h⟩ | ⟨g, s, g', s', hl, hm, ⟨h1, _⟩, ⟨h2, _⟩, hg, h⟩
  all_goals rw [h] at hz ⊢
  all_goals simp only [turn0, turn1]
  all_goals simp only at hz
  all_goals rw [hz]
  · rw [hm]; exact f10 (by omega)
  · rw [hm]; exact f12 (by omega) (by omega)
  · rw [hl]; exact f11 h1 (by omega)
  · rw [hm]; exact f12 (by omega) (by omega)
  · rw [hl]; exact f11 h1 (by omega)

/-- the sector that may be written is spoilt: the cell that is found has the same text -/
theorem found_spoil {l m z : List UInt8} (hz : rdS z = none) :
    (found (rdS (turn (found (rdS l) (rdS m)).o z l m).1) (rdS (turn (found (rdS l) (rdS m)).o z l m).2)).gen = (found (rdS l) (rdS m)).gen ∧
    (found (rdS (turn (found (rdS l) (rdS m)).o z l m).1) (rdS (turn (found (rdS l) (rdS m)).o z l m).2)).text = (found (rdS l) (rdS m)).text := by
  rcases found_ways l m with ⟨hl, hm, h⟩ | ⟨g, s, hl, hm, ⟨h1, _⟩, h⟩ | ⟨g, s, hl, hm, ⟨h1, _⟩, h⟩ | ⟨g, s, g', s', hl, hm, ⟨h1, _⟩, ⟨h2, _⟩, hg, h⟩ | ⟨g, s, g', s', hl, hm, ⟨h1, _⟩, ⟨h2, _⟩, hg, h⟩
  all_goals rw [h]
  all_goals simp only [turn0, turn1]
  all_goals rw [hz]
  · rw [hm, f00]; exact ⟨rfl, rfl⟩
  · rw [hm, f01 h1]; exact ⟨rfl, rfl⟩
  · rw [hl, f10 h1]; exact ⟨rfl, rfl⟩
  · rw [hm, f01 h2]; exact ⟨rfl, rfl⟩
  · rw [hl, f10 h1]; exact ⟨rfl, rfl⟩
end M
end Go.Proofs.YtofhijnfbilieaaGreat
namespace Go.Proofs.YtofhijnfbilieaaGreat
open Go.RowKit
set_option linter.unusedVariables false
set_option linter.unusedSimpArgs false
set_option maxRecDepth 20000

theorem row_c {w : World} {a : Option Addr} {n c : Nat} {vs : List Value} (h : C.Row w a n c vs) : Row w a n c vs := h
theorem c_row {w : World} {a : Option Addr} {n c : Nat} {vs : List Value} (h : Row w a n c vs) : C.Row w a n c vs := h

theorem k_row {w : World} {a : Option Addr} {n c : Nat} {l : List UInt8} (h : Row w a n c (u8s l)) (hn : n ≤ 140737488355328) : K.Row w a n (M.ints8 l) := by
  obtain ⟨h1, h2, h3, h4⟩ := h
  rw [u8s_length] at h1
  refine ⟨by rw [← h1]; simp [M.ints8], hn, fun x hx => ?_, ?_⟩
  · obtain ⟨c, _, rfl⟩ := List.mem_map.1 hx
    have := c.toNat_lt
    exact ⟨by omega, by omega⟩
  · rcases h4 with h4 | ⟨b, off, ha, _, hc⟩
    · refine .inl ?_
      have : l = [] := by simpa [u8s] using h4
      subst this; rfl
    · refine .inr ⟨b, off, ha, fun i hi => ?_⟩
      have hil : i < l.length := by simpa [M.ints8] using hi
      rw [hc i (by omega)]
      simp [u8s, u8, M.ints8, hil, List.getD_eq_getElem?_getD]

/-- an own row of bytes -/
abbrev OwnB (w : World) (B : Nat) (a : Option Addr) (n cap : Nat) (l : List UInt8) : Prop := C.Own 5 w B a n cap (u8s l)
theorem OwnB.row {w : World} {B : Nat} {a : Option Addr} {n cap : Nat} {l : List UInt8} (h : OwnB w B a n cap l) : Row w a n cap (u8s l) := (C.own_row h).1
theorem OwnB.at {w : World} {B : Nat} {a : Option Addr} {n cap : Nat} {l : List UInt8} (h : OwnB w B a n cap l) : ∀ b off, a = some ⟨b, off, none⟩ → B ≤ b ∧ off = 0 := (C.own_row h).2
theorem OwnB.len {w : World} {B : Nat} {a : Option Addr} {n cap : Nat} {l : List UInt8} (h : OwnB w B a n cap l) : l.length = n := by have := h.row.1; rwa [u8s_length] at this

/-- behind changes of some blocks a row elsewhere is as it was -/
theorem row_below {w w' : World} {B : Nat} {a : Option Addr} {n cap : Nat} {vs : List Value} (h : Row w a n cap vs) (hb : Below B w w') (hB : w.heap.size ≤ B) : Row w' a n cap vs := C.row_below h hb hB

theorem append_bytes (w : World) {ops : Array Oper} {rest : List Oper} {o : Oper} {act : Act} {Q : Exit → Act → World → Prop} (hgd : o.guard = none) (s x : Operand)
    (ho : o.op = .call { callee := .builtin .append, args := #[s, x], argTypes := #[50, 50] })
    (B : Nat) (a : Option Addr) (n cap : Nat) (l : List UInt8) (hs : act.eval s = .slice a n cap) (hown : OwnB w B a n cap l)
    (A : Option Addr) (m c : Nat) (y : List UInt8) (hx : act.eval x = .slice A m c) (hr : Row w A m c (u8s y)) (k : Nat) (hk : n + m = k) (hsum : k ≤ 1048576) (hB : B ≤ w.heap.size)
    (h : ∀ a' cap' w', OwnB w' B a' k cap' (l ++ y) → Below B w w' → wpList Tryz.prog ops Q rest (act.put o.dst (.slice a' k cap')) w') : wpList Tryz.prog ops Q (o :: rest) act w :=
  C.wpList_append_u8 w hgd s x ho B a n cap l hs hown A m c y hx hr k hk hsum hB h

theorem own_lit8 (w : World) (B : Nat) (l : List UInt8) (hB : B ≤ w.heap.size) (hl : l.length ≤ 1000) : OwnB (w.alloc (.cells (u8s l).toArray 5)) B (some ⟨w.heap.size, 0, none⟩) l.length l.length l := by
  have := C.own_lit 5 w B (u8s l) hB (by rw [u8s_length]; exact hl)
  rw [u8s_length] at this
  exact this

/-- the record of a slot, as Slot lays it -/
theorem recs_at (w : World) (g : Int) (t : ByteArray) :
    C.RecAt ((w.alloc (.cells #[.int .i64 g] 2)).alloc (.cells #[.string t] 9)) (M.recS g t) (some ⟨w.heap.size, 0, none⟩) 1 1 (some ⟨w.heap.size + 1, 0, none⟩) 1 1 where
  nums := C.row_below (C.row_i64_new w g) ((Below.refl (w.alloc (.cells #[.int .i64 g] 2)).heap.size _).alloc (Nat.le_refl _) _) (Nat.le_refl _)
  texts := by
    have := C.row_str_new (w.alloc (.cells #[.int .i64 g] 2)) t
    rw [show (w.alloc (.cells #[.int .i64 g] 2)).heap.size = w.heap.size + 1 by simp] at this
    exact this
end Go.Proofs.YtofhijnfbilieaaGreat
namespace Go.Proofs.YtofhijnfbilieaaGreat
open Go.RowKit
set_option linter.unusedVariables false
set_option linter.unusedSimpArgs false
set_option maxRecDepth 20000

instance (g : Int) (t : ByteArray) : Decidable (M.MayS g t) := by unfold M.MayS; infer_instance

theorem may_any (w : World) (g : Int) (t : ByteArray) :
    Calls Tryz.prog 86 #[.int .i64 g, .string t] w fun e w' => e = .returned (.bool (decide (M.MayS g t))) ∧ w = w' := by
  by_cases h1 : 1 ≤ g
  · by_cases h2 : g ≤ 4611686018427387904
    · by_cases h3 : t.size ≤ 100
      · have e : decide (M.MayS g t) = true := decide_eq_true ⟨h1, h2, h3⟩
        rw [e]
        have h3' : (t.size : Int) ≤ 100 := by omega
        clear e h3
        go_enter Tryz.func86, Tryz.ntmps86
        go_wp2
        go_ret
        exact ⟨rfl, rfl⟩
      · have e : decide (M.MayS g t) = false := decide_eq_false fun h => h3 h.2.2
        rw [e]
        have h3' : ¬ (t.size : Int) ≤ 100 := by omega
        clear e h3
        go_enter Tryz.func86, Tryz.ntmps86
        go_wp2
        go_ret
        exact ⟨rfl, rfl⟩
    · have e : decide (M.MayS g t) = false := decide_eq_false fun h => h2 h.2.1
      rw [e]
      clear e
      go_enter Tryz.func86, Tryz.ntmps86
      go_wp2
      go_ret
      exact ⟨rfl, rfl⟩
  · have e : decide (M.MayS g t) = false := decide_eq_false fun h => h1 h.1
    rw [e]
    clear e
    go_enter Tryz.func86, Tryz.ntmps86
    go_wp2
    go_ret
    exact ⟨rfl, rfl⟩

theorem slot_no (w : World) (g : Int) (t : ByteArray) (h : ¬ M.MayS g t) :
    Calls Tryz.prog 75 #[.int .i64 g, .string t] w fun e w' => e = .returned (.slice none 0 0) ∧ w = w' := by
  have HM := Lib.hid (may_any w g t)
  rw [decide_eq_false h] at HM
  clear h
  go_enter Tryz.func75, Tryz.ntmps75
  go_wp2_with (go_at_call 86; refine HM.out.mono ?_; rintro e w' ⟨rfl, rfl⟩)
  go_ret
  exact ⟨rfl, rfl⟩

theorem own_byte (w : World) (B : Nat) (x : Int) (c : UInt8) (hx : x = (c.toNat : Int)) (hB : B ≤ w.heap.size) : OwnB (w.alloc (.cells #[.int .u8 x] 5)) B (some ⟨w.heap.size, 0, none⟩) 1 1 [c] := by
  subst hx
  exact own_lit8 w B [c] hB (by simp)

theorem enc_slot (w : World) (g : Int) (t : ByteArray) (h : M.MayS g t) :
    Calls Tryz.prog 77 #[.agg #[.int .i64 1, .slice (some ⟨w.heap.size, 0, none⟩) 1 1, .slice (some ⟨w.heap.size + 1, 0, none⟩) 1 1]] ((w.alloc (.cells #[.int .i64 g] 2)).alloc (.cells #[.string t] 9)) fun e w' =>
      ∃ a cap, e = .returned (.tuple #[.slice a (C.M.enc (M.recS g t)).length cap, .int .i64 0]) ∧ OwnB w' (w.heap.size + 2) a (C.M.enc (M.recS g t)).length cap (C.M.enc (M.recS g t)) ∧ Below w.heap.size w w' := by
  obtain ⟨hm, hf⟩ := M.recS_may h
  refine (C.encode_yes _ (M.recS g t) _ _ _ _ _ _ (recs_at w g t) hm hf).mono ?_
  rintro e w' ⟨a, cap, rfl, ho, hb⟩
  have hs : ((w.alloc (.cells #[.int .i64 g] 2)).alloc (.cells #[.string t] 9)).heap.size = w.heap.size + 2 := by simp
  rw [hs] at ho hb
  exact ⟨a, cap, rfl, ho, (((Below.refl w.heap.size w).alloc (Nat.le_refl _) _).alloc (by simp) _).trans (hb.mono (by omega))⟩

theorem own_word (w : World) (B : Nat) (s : BitVec 32) (hB : B ≤ w.heap.size) :
    OwnB (w.alloc (.cells #[.int .u8 ((s.toNat : Int) / 16777216), .int .u8 ((s.toNat : Int) / 65536 % 256), .int .u8 ((s.toNat : Int) / 256 % 256), .int .u8 ((s.toNat : Int) % 256)] 5)) B (some ⟨w.heap.size, 0, none⟩) 4 4 (M.word s) := by
  have hb : s.toNat < 4294967296 := s.isLt
  have hu : u8s (M.word s) = [.int .u8 ((s.toNat : Int) / 16777216), .int .u8 ((s.toNat : Int) / 65536 % 256), .int .u8 ((s.toNat : Int) / 256 % 256), .int .u8 ((s.toNat : Int) % 256)] := by
    simp only [u8s, M.word, List.map_cons, List.map_nil, u8, UInt8.toNat_ofNat']
    congr 1
    · congr 1; omega
  have := own_lit8 w B (M.word s) hB (by simp [M.word])
  rw [hu] at this
  exact this

set_option maxHeartbeats 1000000 in
theorem slot_yes (w : World) (g : Int) (t : ByteArray) (h : M.MayS g t) :
    Calls Tryz.prog 75 #[.int .i64 g, .string t] w fun e w' => ∃ a cap, e = .returned (.slice a (M.slot g t).length cap) ∧ OwnB w' w.heap.size a (M.slot g t).length cap (M.slot g t) ∧ Below w.heap.size w w' := by
  have HM := Lib.hid (may_any w g t)
  rw [decide_eq_true h] at HM
  have HE := Lib.hid (enc_slot w g t h)
  have hsm := M.enc_small h
  have hlenI : ((C.M.enc (M.recS g t)).length : Int) ≤ 113 := by omega
  have HS := Lib.hid hsm
  have HB : Hid (((C.M.enc (M.recS g t)).length : Int) = (((UInt8.ofNat (C.M.enc (M.recS g t)).length).toNat : Nat) : Int)) := Lib.hid (by rw [C.M.toNat_ofNat (by omega)])
  have HSl : Hid (M.slot g t = M.word (M.sumB (M.summed (C.M.enc (M.recS g t)))) ++ M.summed (C.M.enc (M.recS g t))) := Lib.hid rfl
  have HLn := Lib.hid (M.slot_len g t)
  generalize M.slot g t = sl at *
  clear h hsm
  generalize C.M.enc (M.recS g t) = r at *
  go_enter Tryz.func75, Tryz.ntmps75
  go_wp2_with (first
    | (go_at_call 86; refine HM.out.mono ?_; rintro e w' ⟨rfl, rfl⟩)
    | (go_at_call 77; refine HE.out.mono ?_; rintro e w1 ⟨a, cap, rfl, ho, hb⟩
       have Ho := Lib.hid ho
       have Hb := Lib.hid hb
       clear ho hb)
    | (at_builtin
       refine append_bytes _ rfl (.tmp 25) (.tmp 26) rfl w.heap.size _ 1 1 [UInt8.ofNat r.length] rfl (own_byte w1 w.heap.size _ _ HB.out Hb.out.size) a r.length cap r rfl (row_below Ho.out.row ((Below.refl w1.heap.size w1).alloc (Nat.le_refl _) _) (Nat.le_refl _)) (1 + r.length) rfl (by have := HS.out; omega) (by have := Hb.out.size; simp; omega) ?_
       intro a2 cap2 w2 hown2 hb2
       have Ho2 : Hid (OwnB w2 w.heap.size a2 (1 + r.length) cap2 (M.summed r)) := Lib.hid hown2
       have Hb2 : Hid (Below w.heap.size w w2) := Lib.hid ((Hb.out.alloc Hb.out.size _).trans hb2)
       clear hown2 hb2)
    | (go_at_call 88; refine (K.sum_any _ _ _ (M.ints8 (M.summed r)) _ (k_row Ho2.out.row (by have := HS.out; omega))).mono ?_; rintro e w' ⟨rfl, rfl⟩
       have HSl2 : Hid (sl = M.word (K.M.more 0#32 (M.ints8 (M.summed r))) ++ M.summed r) := Lib.hid HSl.out
       clear HSl
       generalize K.M.more 0#32 (M.ints8 (M.summed r)) = sm at *)
    | (at_builtin
       refine append_bytes _ rfl (.tmp 41) (.tmp 42) rfl w.heap.size _ 4 4 (M.word sm) rfl (own_word w2 w.heap.size sm Hb2.out.size) a2 (1 + r.length) cap2 (M.summed r) rfl (row_below Ho2.out.row ((Below.refl w2.heap.size w2).alloc (Nat.le_refl _) _) (Nat.le_refl _)) (4 + (1 + r.length)) rfl (by have := HS.out; omega) (by have := Hb2.out.size; simp; omega) ?_
       intro a3 cap3 w3 hown3 hb3
       have Ho3 : Hid (OwnB w3 w.heap.size a3 (4 + (1 + r.length)) cap3 (M.word sm ++ M.summed r)) := Lib.hid hown3
       have Hb3 : Hid (Below w.heap.size w w3) := Lib.hid ((Hb2.out.alloc Hb2.out.size _).trans hb3)
       clear hown3 hb3))
  go_ret
  have hl : sl.length = 4 + (1 + r.length) := by have := HLn.out; omega
  refine ⟨a3, cap3, ?_, ?_, Hb3.out⟩
  · rw [hl]; rfl
  · rw [hl, HSl2.out]; exact Ho3.out
end Go.Proofs.YtofhijnfbilieaaGreat
namespace Go.Proofs.YtofhijnfbilieaaGreat
open Go.RowKit
set_option linter.unusedVariables false
set_option linter.unusedSimpArgs false
set_option maxRecDepth 20000

def M.rdP (l : List UInt8) : Int × ByteArray := (M.rdS l).getD (0, ByteArray.empty)

theorem or_u32 (a b : Int) : bits .or .u32 a b = ((BitVec.ofInt 32 a ||| BitVec.ofInt 32 b).toNat : Int) := by
  show IntKind.u32.wrap ((BitVec.ofInt 32 a ||| BitVec.ofInt 32 b).toNat : Int) = _
  exact K.wrap_u32 _

theorem or_add (a b k : Nat) (hb : b < 2 ^ k) (hs : a * 2 ^ k + b < 4294967296) : bits .or .u32 ((a * 2 ^ k : Nat) : Int) (b : Int) = ((a * 2 ^ k + b : Nat) : Int) := by
  rw [or_u32, BitVec.ofInt_natCast, BitVec.ofInt_natCast, BitVec.toNat_or, BitVec.toNat_ofNat, BitVec.toNat_ofNat, Nat.mod_eq_of_lt (by omega), Nat.mod_eq_of_lt (by omega)]
  congr 1
  rw [Nat.mul_comm]
  exact (Nat.two_pow_add_eq_or_of_lt hb a).symm

/-- the four bytes of a sum, put together -/
theorem or_four (z0 z1 z2 z3 : Nat) (h0 : z0 < 256) (h1 : z1 < 256) (h2 : z2 < 256) (h3 : z3 < 256) :
    bits .or .u32 (bits .or .u32 (bits .or .u32 ((z0 : Int) * 16777216) ((z1 : Int) * 65536)) ((z2 : Int) * 256)) (z3 : Int) = ((z0 * 16777216 + z1 * 65536 + z2 * 256 + z3 : Nat) : Int) := by
  have e1 : bits .or .u32 ((z0 : Int) * 16777216) ((z1 : Int) * 65536) = (((z0 * 256 + z1) * 65536 : Nat) : Int) := by
    have := or_add z0 (z1 * 65536) 24 (by omega) (by omega)
    rw [show ((z0 : Int) * 16777216) = ((z0 * 2 ^ 24 : Nat) : Int) by omega, show ((z1 : Int) * 65536) = ((z1 * 65536 : Nat) : Int) by omega, this]
    omega
  have e2 : bits .or .u32 (((z0 * 256 + z1) * 65536 : Nat) : Int) ((z2 : Int) * 256) = (((z0 * 65536 + z1 * 256 + z2) * 256 : Nat) : Int) := by
    have := or_add (z0 * 256 + z1) (z2 * 256) 16 (by omega) (by omega)
    rw [show (z0 * 256 + z1) * 65536 = (z0 * 256 + z1) * 2 ^ 16 by omega, show ((z2 : Int) * 256) = ((z2 * 256 : Nat) : Int) by omega, this]
    omega
  rw [e1, e2]
  have := or_add (z0 * 65536 + z1 * 256 + z2) z3 8 (by omega) (by omega)
  rw [show (z0 * 65536 + z1 * 256 + z2) * 256 = (z0 * 65536 + z1 * 256 + z2) * 2 ^ 8 by omega, this]
  omega

/-- a sector's first bytes as they lie -/
structure Five (w : World) (b off n cap : Nat) (z0 z1 z2 z3 z4 : Nat) : Prop where
  g0 : w.cell? ⟨b, off, none⟩ = some (.int .u8 (z0 : Int))
  g1 : w.cell? ⟨b, off + 1, none⟩ = some (.int .u8 (z1 : Int))
  g2 : w.cell? ⟨b, off + 2, none⟩ = some (.int .u8 (z2 : Int))
  g3 : w.cell? ⟨b, off + 3, none⟩ = some (.int .u8 (z3 : Int))
  g4 : w.cell? ⟨b, off + 4, none⟩ = some (.int .u8 (z4 : Int))
  b0 : z0 < 256
  b1 : z1 < 256
  b2 : z2 < 256
  b3 : z3 < 256
  b4 : z4 < 256
  n5 : 5 ≤ n
  nc : n ≤ cap

theorem five_of {w : World} {b off n cap : Nat} {c0 c1 c2 c3 k : UInt8} {r : List UInt8} (h : Row w (some ⟨b, off, none⟩) n cap (u8s (c0 :: c1 :: c2 :: c3 :: k :: r))) :
    Five w b off n cap c0.toNat c1.toNat c2.toNat c3.toNat k.toNat ∧ n = 5 + r.length := by
  obtain ⟨h1, h2, h3, h4⟩ := h
  rw [u8s_length] at h1
  simp only [List.length_cons] at h1
  rcases h4 with h4 | ⟨b', off', e, hlt, hc⟩
  · simp [u8s] at h4
  injection e with e
  injection e with e1 e2 _
  subst e1 e2
  exact ⟨⟨(hc 0 (by omega)).trans rfl, (hc 1 (by omega)).trans rfl, (hc 2 (by omega)).trans rfl, (hc 3 (by omega)).trans rfl, (hc 4 (by omega)).trans rfl, c0.toNat_lt, c1.toNat_lt, c2.toNat_lt, c3.toNat_lt, k.toNat_lt, by omega, h2⟩, by omega⟩

theorem read_short (w : World) (b off n cap : Nat) (z0 z1 z2 z3 z4 : Nat) (h : Five w b off n cap z0 z1 z2 z3 z4) (hn : n ≤ 1000) (hk : n < 5 + z4) :
    Calls Tryz.prog 69 #[.slice (some ⟨b, off, none⟩) n cap] w fun e w' => e = .returned (.tuple #[.int .i64 0, .string ByteArray.empty]) ∧ Below w.heap.size w w' := by
  obtain ⟨g0, g1, g2, g3, g4, b0, b1, b2, b3, b4, n5, nc⟩ := h
  have hk1 : (z4 : Int) < 256 := by omega
  have hk0 : (0 : Int) ≤ (z4 : Int) := by omega
  have hgt : (n : Int) < 5 + (z4 : Int) := by omega
  have hn5 : (5 : Int) ≤ (n : Int) := by omega
  have hs := or_four z0 z1 z2 z3 b0 b1 b2 b3
  clear hk nc n5
  go_enter Tryz.func69, Tryz.ntmps69
  go_wp2_with fail
  go_quiet (fail)
  go_wp2_with fail
  go_ret2
  exact ⟨rfl, rfl, rfl, rfl, Nat.le_refl _, fun _ _ => rfl⟩

theorem read_bad (w : World) (b off n cap : Nat) (z0 z1 z2 z3 z4 : Nat) (h : Five w b off n cap z0 z1 z2 z3 z4) (hn : n ≤ 1000) (hn6 : 6 ≤ n) (hk : 5 + z4 ≤ n)
    (hc : ∀ q, Calls Tryz.prog 85 #[.slice (some ⟨b, off + 4, none⟩) (5 + z4 - 4) (cap - 4), .int .u32 ((z0 : Int) * 16777216 + (z1 : Int) * 65536 + (z2 : Int) * 256 + (z3 : Int))] (w.drewN q) fun e w'' => e = .returned (.bool false) ∧ w.drewN q = w'') :
    Calls Tryz.prog 69 #[.slice (some ⟨b, off, none⟩) n cap] w fun e w' => e = .returned (.tuple #[.int .i64 0, .string ByteArray.empty]) ∧ Below w.heap.size w w' := by
  obtain ⟨g0, g1, g2, g3, g4, b0, b1, b2, b3, b4, n5, nc⟩ := h
  have hk1 : (z4 : Int) < 256 := by omega
  have hk0 : (0 : Int) ≤ (z4 : Int) := by omega
  have hgt : 5 + (z4 : Int) ≤ (n : Int) := by omega
  have hgt2 : 5 + (z4 : Int) ≤ (cap : Int) := by omega
  have hn5 : (5 : Int) ≤ (n : Int) := by omega
  have hs := or_four z0 z1 z2 z3 b0 b1 b2 b3
  have hc4 : ¬ cap = 4 := by omega
  have hc5 : ¬ cap = 5 := by omega
  have HC := Lib.hid hc
  clear hk nc n5 hc
  go_enter Tryz.func69, Tryz.ntmps69
  go_wp2_with fail
  go_quiet (fail)
  go_wp2_with (go_at_call 85; refine (HC.out _).mono ?_; rintro e w' ⟨rfl, rfl⟩)
  go_ret2
  exact ⟨rfl, rfl, rfl, rfl, Nat.le_refl _, fun _ _ => rfl⟩

theorem may_quiet (W : World) (g : Int) (t : ByteArray) (m : Nat) :
    Calls Tryz.prog 86 #[.int .i64 g, .string t] (W.drewN m) fun e w'' => e = .returned (.bool (decide (M.MayS g t))) ∧ ∃ j, w'' = W.drewN j :=
  (may_any _ g t).mono fun _ _ ⟨he, hw⟩ => ⟨he, m, hw.symm⟩

/-- a record that came out of Decode: no slot's, or a slot's -/
def RecOut (w : World) (kd : Int) (aN : Option Addr) (nN : Nat) (aT : Option Addr) (nT : Nat) (p : Int × ByteArray) : Prop :=
  (kd ≠ 1 ∧ p = (0, ByteArray.empty)) ∨ (kd = 1 ∧ nN ≠ 1 ∧ p = (0, ByteArray.empty)) ∨ (kd = 1 ∧ nN = 1 ∧ nT ≠ 1 ∧ p = (0, ByteArray.empty)) ∨
  ∃ g t bN bT, kd = 1 ∧ nN = 1 ∧ nT = 1 ∧ aN = some ⟨bN, 0, none⟩ ∧ aT = some ⟨bT, 0, none⟩ ∧ bN < w.heap.size ∧ bT < w.heap.size ∧ w.cell? ⟨bN, 0, none⟩ = some (.int .i64 g) ∧ w.cell? ⟨bT, 0, none⟩ = some (.string t) ∧
    ((M.MayS g t ∧ p = (g, t)) ∨ (¬ M.MayS g t ∧ p = (0, ByteArray.empty)))

set_option maxHeartbeats 2000000 in
theorem read_rec (w : World) (b off n cap : Nat) (z0 z1 z2 z3 z4 : Nat) (h : Five w b off n cap z0 z1 z2 z3 z4) (hn : n ≤ 1000) (hn6 : 6 ≤ n) (hk : 5 + z4 ≤ n) (p : Int × ByteArray)
    (hc : ∀ q, Calls Tryz.prog 85 #[.slice (some ⟨b, off + 4, none⟩) (5 + z4 - 4) (cap - 4), .int .u32 ((z0 : Int) * 16777216 + (z1 : Int) * 65536 + (z2 : Int) * 256 + (z3 : Int))] (w.drewN q) fun e w'' => e = .returned (.bool true) ∧ w.drewN q = w'')
    (hd : ∀ q, Calls Tryz.prog 67 #[.slice (some ⟨b, off + 5, none⟩) z4 (cap - 5)] (w.drewN q) fun e w'' => ∃ kd aN nN cN aT nT cT er, e = .returned (.tuple #[.agg #[.int .i64 kd, .slice aN nN cN, .slice aT nT cT], .int .i64 er]) ∧ Below w.heap.size w w'' ∧ RecOut w'' kd aN nN aT nT p) :
    Calls Tryz.prog 69 #[.slice (some ⟨b, off, none⟩) n cap] w fun e w' => e = .returned (.tuple #[.int .i64 p.1, .string p.2]) ∧ Below w.heap.size w w' := by
  obtain ⟨g0, g1, g2, g3, g4, b0, b1, b2, b3, b4, n5, nc⟩ := h
  have hk1 : (z4 : Int) < 256 := by omega
  have hk0 : (0 : Int) ≤ (z4 : Int) := by omega
  have hgt : 5 + (z4 : Int) ≤ (n : Int) := by omega
  have hgt2 : 5 + (z4 : Int) ≤ (cap : Int) := by omega
  have hn5 : (5 : Int) ≤ (n : Int) := by omega
  have hs := or_four z0 z1 z2 z3 b0 b1 b2 b3
  have hc4 : ¬ cap = 4 := by omega
  have hc5 : ¬ cap = 5 := by omega
  have HC := Lib.hid hc
  have HD := Lib.hid hd
  clear hk nc n5 hc hd
  go_enter Tryz.func69, Tryz.ntmps69
  go_wp2_with fail
  go_quiet (fail)
  go_wp2_with (go_at_call 85; refine (HC.out _).mono ?_; rintro e w' ⟨rfl, rfl⟩)
  refine (HD.out _).mono ?_
  rintro e w1 ⟨kd, aN, nN, cN, aT, nT, cT, er, rfl, hb, hr⟩
  have Hb := Lib.hid hb
  clear hb
  rcases hr with ⟨h1, rfl⟩ | ⟨h1, h2, rfl⟩ | ⟨h1, h2, h3, rfl⟩ | ⟨g, t, bN, bT, h1, h2, h3, rfl, rfl, l1, l2, k1, k2, hm⟩
  · have e1 : (kd != 1) = true := by simpa using h1
    clear h1
    go_wp2_with fail
    go_quiet (fail)
    go_wp2_with fail
    go_ret2
    exact ⟨rfl, (Hb.out.alloc Hb.out.size _).trans ⟨rfl, rfl, rfl, Nat.le_refl _, fun _ _ => rfl⟩⟩
  · subst h1
    have e1 : ((nN : Int) != 1) = true := by simp; omega
    clear h2
    go_wp2_with fail
    go_quiet (fail)
    go_wp2_with fail
    go_ret2
    exact ⟨rfl, (Hb.out.alloc Hb.out.size _).trans ⟨rfl, rfl, rfl, Nat.le_refl _, fun _ _ => rfl⟩⟩
  · subst h1 h2
    have e1 : ((nT : Int) != 1) = true := by simp; omega
    clear h3
    go_wp2_with fail
    go_quiet (fail)
    go_wp2_with fail
    go_ret2
    exact ⟨rfl, (Hb.out.alloc Hb.out.size _).trans ⟨rfl, rfl, rfl, Nat.le_refl _, fun _ _ => rfl⟩⟩
  · subst h1 h2 h3
    have m1 : (w1.alloc (.cells #[.int .i64 1, .slice (some ⟨bN, 0, none⟩) 1 cN, .slice (some ⟨bT, 0, none⟩) 1 cT] 99)).cell? ⟨bN, 0, none⟩ = some (.int .i64 g) := by
      rw [World.cell?_alloc_lt _ _ _ l1]; exact k1
    have m2 : (w1.alloc (.cells #[.int .i64 1, .slice (some ⟨bN, 0, none⟩) 1 cN, .slice (some ⟨bT, 0, none⟩) 1 cT] 99)).cell? ⟨bT, 0, none⟩ = some (.string t) := by
      rw [World.cell?_alloc_lt _ _ _ l2]; exact k2
    have HMq := Lib.hid (may_quiet (w1.alloc (.cells #[.int .i64 1, .slice (some ⟨bN, 0, none⟩) 1 cN, .slice (some ⟨bT, 0, none⟩) 1 cT] 99)) g t)
    rcases hm with ⟨hm, rfl⟩ | ⟨hm, rfl⟩
    · rw [decide_eq_true hm] at HMq
      clear hm k1 k2 l1 l2
      go_wp2_with fail
      go_quiet ((go_at_call 86; with_reducible exact HMq.out _))
      go_wp2_with fail
      go_quiet (fail)
      go_wp2_with fail
      go_ret2
      exact ⟨rfl, (Hb.out.alloc Hb.out.size _).trans ⟨rfl, rfl, rfl, Nat.le_refl _, fun _ _ => rfl⟩⟩
    · rw [decide_eq_false hm] at HMq
      clear hm k1 k2 l1 l2
      go_wp2_with fail
      go_quiet ((go_at_call 86; with_reducible exact HMq.out _))
      go_wp2_with fail
      go_ret2
      exact ⟨rfl, (Hb.out.alloc Hb.out.size _).trans ⟨rfl, rfl, rfl, Nat.le_refl _, fun _ _ => rfl⟩⟩
end Go.Proofs.YtofhijnfbilieaaGreat
namespace Go.Proofs.YtofhijnfbilieaaGreat
open Go.RowKit
set_option linter.unusedVariables false
set_option linter.unusedSimpArgs false
set_option maxRecDepth 20000

theorem row_mid {w : World} {b o n cap lo hi : Nat} {vs : List Value} (h : Row w (some ⟨b, o, none⟩) n cap vs) (h1 : lo ≤ hi) (h2 : hi ≤ n) : Row w (some ⟨b, o + lo, none⟩) (hi - lo) (cap - lo) ((vs.take hi).drop lo) := by
  obtain ⟨g1, g2, g3, g4⟩ := h
  refine ⟨by rw [List.length_drop, List.length_take]; omega, by omega, by omega, ?_⟩
  by_cases h0 : lo = hi
  · subst h0
    exact .inl (List.eq_nil_of_length_eq_zero (by rw [List.length_drop, List.length_take]; omega))
  · rcases g4 with g4 | ⟨b', o', e, hlt, hc⟩
    · subst g4; simp at g1; omega
    injection e with e
    injection e with e1 e2 _
    subst e1 e2
    refine .inr ⟨b, o + lo, rfl, hlt, fun i hi' => ?_⟩
    rw [Nat.add_assoc, hc (lo + i) (by omega), List.getElem?_drop, List.getElem?_take, if_pos (by omega)]

theorem row_drewN {w : World} {a : Option Addr} {n cap : Nat} {vs : List Value} (h : Row w a n cap vs) (q : Nat) : Row (w.drewN q) a n cap vs := h

theorem below_drewN (B : Nat) (w : World) (q : Nat) : Below B w (w.drewN q) := ⟨rfl, rfl, rfl, Nat.le_refl _, fun _ _ => rfl⟩

/-- what Decode's record is as a slot -/
theorem recout_of {w : World} {B : Nat} {r : C.M.Rc} {aN : Option Addr} {nN cN : Nat} {aT : Option Addr} {nT cT : Nat} (h : C.RecOwn w B r aN nN cN aT nT cT) :
    RecOut w r.kind aN nN aT nT ((M.asSlot r).getD (0, ByteArray.empty)) := by
  obtain ⟨k, ns, ts⟩ := r
  have hN := h.at.lenN
  have hT := h.at.lenT
  simp only at hN hT
  by_cases hk : k = 1
  · subst hk
    by_cases h1 : nN = 1
    · by_cases h2 : nT = 1
      · match ns, ts, hN, hT, h with
        | [g], [t], hN, hT, h =>
          obtain ⟨bN, oN, g', e1, l1, q1, k1⟩ := C.row_i64 h.at.nums 0 (by omega)
          obtain ⟨bT, oT, t', e2, l2, q2, k2⟩ := C.row_str h.at.texts 0 (by omega)
          simp only [List.getElem?_cons_zero, Option.some.injEq] at q1 q2
          subst q1 q2
          have z1 := (C.own_row h.nums).2 _ _ e1
          have z2 := (C.own_row h.texts).2 _ _ e2
          obtain ⟨_, rfl⟩ := z1
          obtain ⟨_, rfl⟩ := z2
          refine .inr (.inr (.inr ⟨g, t, bN, bT, rfl, h1, h2, e1, e2, l1, l2, k1, k2, ?_⟩))
          by_cases hm : M.MayS g t
          · exact .inl ⟨hm, by simp only [M.asSlot]; rw [if_pos trivial, if_pos ⟨hm.2.2, hm.1, hm.2.1⟩]; rfl⟩
          · exact .inr ⟨hm, by simp only [M.asSlot]; rw [if_pos trivial, if_neg (fun h => hm ⟨h.2.1, h.2.2, h.1⟩)]; rfl⟩
        | [], _, hN, _, _ => simp at hN; omega
        | _ :: _ :: _, _, hN, _, _ => simp at hN; omega
        | [_], [], _, hT, _ => simp at hT; omega
        | [_], _ :: _ :: _, _, hT, _ => simp at hT; omega
      · refine .inr (.inr (.inl ⟨rfl, h1, h2, ?_⟩))
        match ns, ts, hT with
        | [_], [_], hT => simp at hT; omega
        | [], _, _ => rfl
        | _ :: _ :: _, _, _ => rfl
        | [_], [], _ => rfl
        | [_], _ :: _ :: _, _ => rfl
    · refine .inr (.inl ⟨rfl, h1, ?_⟩)
      match ns, ts, hN with
      | [_], _, hN => simp at hN; omega
      | [], _, _ => rfl
      | _ :: _ :: _, _, _ => rfl
  · refine .inl ⟨hk, ?_⟩
    match ns, ts with
    | [_], [_] => simp only [M.asSlot]; rw [if_neg hk]; rfl
    | [], _ => rfl
    | _ :: _ :: _, _ => rfl
    | [_], [] => rfl
    | [_], _ :: _ :: _ => rfl

theorem read_any (w : World) (b off n cap : Nat) (l : List UInt8) (h : Row w (some ⟨b, off, none⟩) n cap (u8s l)) (hn : n ≤ 1000) (hn6 : 6 ≤ n) :
    Calls Tryz.prog 69 #[.slice (some ⟨b, off, none⟩) n cap] w fun e w' => e = .returned (.tuple #[.int .i64 (M.rdP l).1, .string (M.rdP l).2]) ∧ Below w.heap.size w w' := by
  have hl : l.length = n := by have := h.1; rwa [u8s_length] at this
  match l, h, hl with
  | c0 :: c1 :: c2 :: c3 :: k :: r, h, hl =>
    obtain ⟨h5, hnr⟩ := five_of h
    by_cases hs : r.length < k.toNat
    · have e : M.rdP (c0 :: c1 :: c2 :: c3 :: k :: r) = (0, ByteArray.empty) := by
        unfold M.rdP M.rdS
        simp only [M.unframe]
        rw [if_neg (by omega)]
        rfl
      rw [e]
      exact read_short w b off n cap _ _ _ _ _ h5 hn (by omega)
    · have hk : 5 + k.toNat ≤ n := by omega
      have r4 : Row w (some ⟨b, off + 4, none⟩) (5 + k.toNat - 4) (cap - 4) (u8s (k :: r.take k.toNat)) := by
        have := row_mid h (show 4 ≤ 5 + k.toNat by omega) hk
        have e : ((u8s (c0 :: c1 :: c2 :: c3 :: k :: r)).take (5 + k.toNat)).drop 4 = u8s (k :: r.take k.toNat) := by
          rw [show 5 + k.toNat = k.toNat + 1 + 1 + 1 + 1 + 1 by omega]
          simp [u8s]
        rw [e] at this
        exact this
      have r5 : Row w (some ⟨b, off + 5, none⟩) k.toNat (cap - 5) (u8s (r.take k.toNat)) := by
        have := row_mid h (show 5 ≤ 5 + k.toNat by omega) hk
        have e : ((u8s (c0 :: c1 :: c2 :: c3 :: k :: r)).take (5 + k.toNat)).drop 5 = u8s (r.take k.toNat) := by
          rw [show 5 + k.toNat = k.toNat + 1 + 1 + 1 + 1 + 1 by omega]
          simp [u8s]
        rw [e, show 5 + k.toNat - 5 = k.toNat by omega] at this
        exact this
      have hz : ((c0.toNat : Int) * 16777216 + (c1.toNat : Int) * 65536 + (c2.toNat : Int) * 256 + (c3.toNat : Int)) = ((M.num4 c0 c1 c2 c3 : Nat) : Int) := by unfold M.num4; omega
      have hlt := M.num4_lt c0 c1 c2 c3
      have hklt := k.toNat_lt
      by_cases he : (M.sumB (k :: r.take k.toNat)).toNat = M.num4 c0 c1 c2 c3
      · have e : M.rdS (c0 :: c1 :: c2 :: c3 :: k :: r) = (C.M.dec (r.take k.toNat)).bind M.asSlot := by
          unfold M.rdS
          simp only [M.unframe]
          rw [if_pos (by omega), if_pos he]
        refine read_rec w b off n cap _ _ _ _ _ h5 hn hn6 hk (M.rdP (c0 :: c1 :: c2 :: c3 :: k :: r)) (fun q => ?_) (fun q => ?_)
        · rw [hz, ← he]
          exact K.check_yes (M.sumB (k :: r.take k.toNat)) _ _ _ _ _ (k_row (row_drewN r4 q) (by omega)) rfl
        · refine (C.decode_any _ _ _ _ _ (c_row (row_drewN r5 q))).mono ?_
          rintro e1 w1 ⟨hb, ⟨rc, v, hd, ⟨a1, n1, cc1, a2, n2, cc2, rfl, ho1, ho2⟩, rfl⟩ | ⟨hd, rfl⟩⟩
          · refine ⟨_, _, _, _, _, _, _, _, rfl, (below_drewN w.heap.size w q).trans hb, ?_⟩
            have := recout_of (r := rc) ⟨ho1, ho2⟩
            unfold M.rdP
            rw [e, hd]
            exact this
          · refine ⟨_, _, _, _, _, _, _, _, rfl, (below_drewN w.heap.size w q).trans hb, .inl ⟨by decide, ?_⟩⟩
            unfold M.rdP
            rw [e, hd]
            rfl
      · have e : M.rdP (c0 :: c1 :: c2 :: c3 :: k :: r) = (0, ByteArray.empty) := by
          unfold M.rdP M.rdS
          simp only [M.unframe]
          rw [if_pos (by omega), if_neg he]
          rfl
        rw [e]
        refine read_bad w b off n cap _ _ _ _ _ h5 hn hn6 hk (fun q => ?_)
        have hx : (BitVec.ofNat 32 (M.num4 c0 c1 c2 c3)).toNat = M.num4 c0 c1 c2 c3 := by rw [BitVec.toNat_ofNat]; exact Nat.mod_eq_of_lt (by omega)
        rw [hz, ← hx]
        exact K.check_no _ _ _ _ _ _ (k_row (row_drewN r4 q) (by omega)) (fun e => he (by rw [← hx, ← e]; rfl))
  | [], _, hl => simp at hl; omega
  | [_], _, hl => simp at hl; omega
  | [_, _], _, hl => simp at hl; omega
  | [_, _, _], _, hl => simp at hl; omega
  | [_, _, _, _], _, hl => simp at hl; omega
end Go.Proofs.YtofhijnfbilieaaGreat
namespace Go.Proofs.YtofhijnfbilieaaGreat
open Go.RowKit
set_option linter.unusedVariables false
set_option linter.unusedSimpArgs false
set_option maxRecDepth 20000

variable {dB sB mB n : Nat} {d : M.Dv}

/-- a cell in memory: its own block -/
structure CellAt (w : World) (cB dB a b : Nat) (c : M.Cl) : Prop where
  p0 : w.cell? ⟨cB, 0, none⟩ = some (.pointer (some ⟨dB, 0, none⟩))
  p1 : w.cell? ⟨cB, 1, none⟩ = some (.int .i64 (a : Int))
  p2 : w.cell? ⟨cB, 2, none⟩ = some (.int .i64 (b : Int))
  p3 : w.cell? ⟨cB, 3, none⟩ = some (.int .i64 (c.o : Int))
  p4 : w.cell? ⟨cB, 4, none⟩ = some (.int .i64 c.gen)
  p5 : w.cell? ⟨cB, 5, none⟩ = some (.string c.text)
  fz : ∀ o, w.frozen? ⟨cB, o, none⟩ = false

theorem CellAt.lt {w : World} {cB dB a b : Nat} {c : M.Cl} (h : CellAt w cB dB a b c) : cB < w.heap.size := World.block_lt_of_cell? w _ h.p0
theorem CellAt.of_block {w w' : World} {cB dB a b : Nat} {c : M.Cl} (h : CellAt w cB dB a b c) (hb : w'.heap[cB]? = w.heap[cB]?) : CellAt w' cB dB a b c where
  p0 := by rw [World.cell?_of_block (w := w) (a := ⟨cB, 0, none⟩) hb]; exact h.p0
  p1 := by rw [World.cell?_of_block (w := w) (a := ⟨cB, 1, none⟩) hb]; exact h.p1
  p2 := by rw [World.cell?_of_block (w := w) (a := ⟨cB, 2, none⟩) hb]; exact h.p2
  p3 := by rw [World.cell?_of_block (w := w) (a := ⟨cB, 3, none⟩) hb]; exact h.p3
  p4 := by rw [World.cell?_of_block (w := w) (a := ⟨cB, 4, none⟩) hb]; exact h.p4
  p5 := by rw [World.cell?_of_block (w := w) (a := ⟨cB, 5, none⟩) hb]; exact h.p5
  fz := fun o => by rw [World.frozen?_of_block (w := w) (a := ⟨cB, o, none⟩) hb]; exact h.fz o
theorem CellAt.but {w w' : World} {cB dB a b : Nat} {c : M.Cl} (h : CellAt w cB dB a b c) {l : List Nat} (hb : But l w w') (hn : cB ∉ l) : CellAt w' cB dB a b c := h.of_block (hb.block _ h.lt hn)
theorem CellAt.below {w w' : World} {cB dB a b B : Nat} {c : M.Cl} (h : CellAt w cB dB a b c) (hb : Below B w w') (hB : cB < B) : CellAt w' cB dB a b c := h.of_block (hb.block _ hB)

theorem cell_new (w : World) (dB a b : Nat) : CellAt (w.alloc (.cells #[.pointer (some ⟨dB, 0, none⟩), .int .i64 (a : Int), .int .i64 (b : Int), .int .i64 0, .int .i64 0, .string ⟨#[]⟩] 142)) w.heap.size dB a b M.none0 where
  p0 := by rw [World.cell?_alloc_mark]; rfl
  p1 := by rw [World.cell?_alloc_mark]; rfl
  p2 := by rw [World.cell?_alloc_mark]; rfl
  p3 := by rw [World.cell?_alloc_mark]; rfl
  p4 := by rw [World.cell?_alloc_mark]; rfl
  p5 := by rw [World.cell?_alloc_mark]; rfl
  fz := fun o => World.frozen?_alloc_at _ _ _ _ rfl

/-- the three last parts turned -/
theorem CellAt.set {w : World} {cB dB a b : Nat} {c : M.Cl} (h : CellAt w cB dB a b c) (o : Nat) (g : Int) (t : ByteArray) :
    CellAt (((w.setCell ⟨cB, 4, none⟩ (.int .i64 g)).setCell ⟨cB, 5, none⟩ (.string t)).setCell ⟨cB, 3, none⟩ (.int .i64 (o : Int))) cB dB a b ⟨o, g, t⟩ where
  p0 := by rw [World.cell?_setCell_other _ _ _ _ (by simp), World.cell?_setCell_other _ _ _ _ (by simp), World.cell?_setCell_other _ _ _ _ (by simp)]; exact h.p0
  p1 := by rw [World.cell?_setCell_other _ _ _ _ (by simp), World.cell?_setCell_other _ _ _ _ (by simp), World.cell?_setCell_other _ _ _ _ (by simp)]; exact h.p1
  p2 := by rw [World.cell?_setCell_other _ _ _ _ (by simp), World.cell?_setCell_other _ _ _ _ (by simp), World.cell?_setCell_other _ _ _ _ (by simp)]; exact h.p2
  p3 := World.cell?_setCell_same _ _ _ (show _ = some (Value.int .i64 (c.o : Int)) by rw [World.cell?_setCell_other _ _ _ _ (by simp), World.cell?_setCell_other _ _ _ _ (by simp)]; exact h.p3)
  p4 := by
    rw [World.cell?_setCell_other _ _ _ _ (by simp), World.cell?_setCell_other _ _ _ _ (by simp)]
    exact World.cell?_setCell_same _ _ _ h.p4
  p5 := by
    rw [World.cell?_setCell_other _ _ _ _ (by simp)]
    exact World.cell?_setCell_same _ _ _ (show _ = some (Value.string c.text) by rw [World.cell?_setCell_other _ _ _ _ (by simp)]; exact h.p5)
  fz := fun o => by rw [World.frozen?_setCell, World.frozen?_setCell, World.frozen?_setCell]; exact h.fz o

theorem get_any (w : World) {cB a b : Nat} {c : M.Cl} (h : CellAt w cB dB a b c) : Calls Tryz.prog 47 #[.pointer (some ⟨cB, 0, none⟩)] w fun e w' => e = .returned (.string c.text) ∧ w = w' := by
  have h5 := h.p5
  clear h
  go_enter Tryz.func47, Tryz.ntmps47
  go_wp2
  go_ret
  exact ⟨rfl, rfl⟩

theorem has_yes (w : World) (h : DevAt w dB sB mB n d) (i : Nat) (hi : i < n) :
    Calls Tryz.prog 68 #[.pointer (some ⟨dB, 0, none⟩), .int .i64 (i : Int)] w fun e w' => e = .returned (.bool true) ∧ w = w' := by
  have HS := Lib.hid (sectors_any w h)
  have hlt : (i : Int) < (n : Int) := by omega
  have h0 : (0 : Int) ≤ (i : Int) := by omega
  clear h hi
  go_enter Tryz.func68, Tryz.ntmps68
  go_wp2_with (go_at_call 25; refine HS.out.mono ?_; rintro e w' ⟨rfl, rfl⟩)
  go_ret
  exact ⟨rfl, rfl⟩

theorem step1_is (i : Nat) (l : List UInt8) (c : M.Cl) (h : 0 ≤ c.gen) : M.step1 i (M.rdS l) c = if c.gen < (M.rdP l).1 then ⟨1 - i, (M.rdP l).1, (M.rdP l).2⟩ else c := by
  unfold M.rdP
  cases hl : M.rdS l with
  | none => simp [M.step1]; omega
  | some x => obtain ⟨g, t⟩ := x; rfl

theorem open_same (w : World) (p : Addr) (a : Int) :
    Calls Tryz.prog 49 #[.pointer (some p), .int .i64 a, .int .i64 a] w fun e w' => e = .returned (.tuple #[.pointer none, .int .i64 1]) ∧ w = w' := by
  go_enter Tryz.func49, Tryz.ntmps49
  go_wp2
  go_ret2
  exact ⟨rfl, rfl⟩

set_option maxHeartbeats 2000000 in
theorem open_yes (w : World) (h : DevAt w dB sB mB n d) (hdead : d.dead = false) (a b : Nat) (hab : a ≠ b) (ha : a < n) (hb : b < n) :
    Calls Tryz.prog 49 #[.pointer (some ⟨dB, 0, none⟩), .int .i64 (a : Int), .int .i64 (b : Int)] w fun e w' => ∃ cB, e = .returned (.tuple #[.pointer (some ⟨cB, 0, none⟩), .int .i64 0]) ∧ w.heap.size ≤ cB ∧
      CellAt w' cB dB a b (M.found (M.rdS (M.seen d a)) (M.rdS (M.seen d b))) ∧ Below w.heap.size w w' := by
  have HD := Lib.hid h
  have HA := Lib.hid (has_yes w h a ha)
  have HB := Lib.hid (has_yes w h b hb)
  have hne : ((a : Int) == (b : Int)) = false := by rw [beq_eq_false_iff_ne]; omega
  have HR : Hid (∀ i, i < n → M.reach n d (i : Int) = 0) := Lib.hid fun i hi => by
    unfold M.reach; rw [hdead, if_neg (by simp), if_neg (by omega)]
  have HL := Lib.hid (And.intro ha hb)
  have HC := Lib.hid (cell_new w dB a b)
  have ix0 : ∀ w, (Instr.index 140 (.agg #[.int .i64 (a : Int), .int .i64 (b : Int)]) (.int .i64 0)).run Tryz.prog w = .ok (.int .i64 (a : Int)) w := fun _ => by kernel_rfl
  have ix1 : ∀ w, (Instr.index 140 (.agg #[.int .i64 (a : Int), .int .i64 (b : Int)]) (.int .i64 1)).run Tryz.prog w = .ok (.int .i64 (b : Int)) w := fun _ => by kernel_rfl
  clear h hdead hab ha hb
  go_enter Tryz.func49, Tryz.ntmps49
  go_wp2_with (go_at_call 68; first | (with_reducible refine HA.out.mono ?_; rintro e w' ⟨rfl, rfl⟩) | (with_reducible refine HB.out.mono ?_; rintro e w' ⟨rfl, rfl⟩))
  have HC0 : Hid (CellAt (w.alloc (.cells #[.pointer (some ⟨dB, 0, none⟩), .int .i64 (a : Int), .int .i64 (b : Int), .int .i64 0, .int .i64 0, .string ⟨#[]⟩] 142)) w.heap.size dB a b M.none0) := HC
  have HB0 : Hid (Below w.heap.size w (w.alloc (.cells #[.pointer (some ⟨dB, 0, none⟩), .int .i64 (a : Int), .int .i64 (b : Int), .int .i64 0, .int .i64 0, .string ⟨#[]⟩] 142))) := Lib.hid ((Below.refl _ w).alloc (Nat.le_refl _) _)
  clear HA HB HC
  go_loopw [44] (fun i wr => ∃ c : M.Cl, Below w.heap.size w wr ∧ CellAt wr w.heap.size dB a b c ∧ 0 ≤ c.gen ∧ ((i = .int .i64 0 ∧ c = M.none0) ∨ (i = .int .i64 1 ∧ c = M.step1 0 (M.rdS (M.seen d a)) M.none0) ∨ (i = .int .i64 2 ∧ c = M.found (M.rdS (M.seen d a)) (M.rdS (M.seen d b))))) (fun i _ => 2 - (intOf i).toNat)
  case atStart => exact ⟨_, HB0.out, HC0.out, by simp [M.none0], .inl ⟨rfl, rfl⟩⟩
  case round =>
    obtain ⟨c, hbw, hcw, hg0, hi⟩ := hrel
    have HBw := Lib.hid hbw
    have HCw := Lib.hid hcw
    have HDw := Lib.hid (HD.out.but ((But.refl [] w).below hbw (Nat.le_refl _)) (by simp) (by simp) (by simp))
    have Hg0 := Lib.hid hg0
    clear hbw hcw HB0 HC0 hg0
    rcases hi with ⟨rfl, hc⟩ | ⟨rfl, hc⟩ | ⟨rfl, hc⟩
    · have Hc := Lib.hid hc
      clear hc
      have HRd := Lib.hid (read_yes _ HDw.out a (HR.out a HL.out.1))
      go_wp2_with fail
      refine HRd.out.mono ?_
      rintro e w1 ⟨bR, rfl, hbR, hltR, hrg, _, hb1⟩
      have HB1 := Lib.hid (HBw.out.trans (hb1.mono HBw.out.size))
      have HC1 := Lib.hid (HCw.out.below hb1 HCw.out.lt)
      have HRr := Lib.hid (read_any w1 bR 0 144 144 (M.seen d a) (by
        have := row_range (cap := 144) hrg hltR (by rw [u8s_length, seen_len HDw.out.wf]; omega) (by simp [maxLen])
        rwa [u8s_length, seen_len HDw.out.wf] at this) (by omega) (by omega))
      have Hst := Lib.hid (step1_is 0 (M.seen d a) c Hg0.out)
      clear hbR hltR hrg hb1
      generalize hPe : (M.rdP (M.seen d a)).1 = pg at *
      generalize hPt : (M.rdP (M.seen d a)).2 = pt at *
      have HP := Lib.hid (And.intro hPe hPt)
      clear hPe hPt
      go_wp2_with fail
      refine HRr.out.mono ?_
      rintro e w2 ⟨rfl, hb2⟩
      have HB2 := Lib.hid (HB1.out.trans (hb2.mono HB1.out.size))
      have HC2 := Lib.hid (HC1.out.below hb2 HC1.out.lt)
      clear hb2
      have m4 := HC2.out.p4
      by_cases hgt : c.gen < pg
      · have m3 := HC2.out.p3
        have m5 := HC2.out.p5
        have f3 := HC2.out.fz 3
        have f4 := HC2.out.fz 4
        have f5 := HC2.out.fz 5
        have HC3 := Lib.hid (HC2.out.set (1 - 0) pg pt)
        rw [if_pos hgt] at Hst
        have Hgt := Lib.hid hgt
        go_wp2_with fail
        go_roundw
        case rel =>
          refine ⟨⟨1 - 0, pg, pt⟩, ((HB2.out.setCell (by simp) _).setCell (by simp) _).setCell (by simp) _, HC3.out, by have := Hgt.out; have := Hg0.out; simp only; omega, .inr (.inl ⟨rfl, by rw [← Hc.out]; exact Hst.out.symm⟩)⟩
        case measure => simp [intOf]
      · have hle : pg ≤ c.gen := by omega
        rw [if_neg hgt] at Hst
        clear hgt
        go_wp2_with fail
        go_roundw
        case rel => exact ⟨c, HB2.out, HC2.out, Hg0.out, .inr (.inl ⟨rfl, by rw [← Hc.out]; exact Hst.out.symm⟩)⟩
        case measure => simp [intOf]
    · have Hc := Lib.hid hc
      clear hc
      have HRd := Lib.hid (read_yes _ HDw.out b (HR.out b HL.out.2))
      go_wp2_with fail
      refine HRd.out.mono ?_
      rintro e w1 ⟨bR, rfl, hbR, hltR, hrg, _, hb1⟩
      have HB1 := Lib.hid (HBw.out.trans (hb1.mono HBw.out.size))
      have HC1 := Lib.hid (HCw.out.below hb1 HCw.out.lt)
      have HRr := Lib.hid (read_any w1 bR 0 144 144 (M.seen d b) (by
        have := row_range (cap := 144) hrg hltR (by rw [u8s_length, seen_len HDw.out.wf]; omega) (by simp [maxLen])
        rwa [u8s_length, seen_len HDw.out.wf] at this) (by omega) (by omega))
      have Hst := Lib.hid (step1_is 1 (M.seen d b) c Hg0.out)
      clear hbR hltR hrg hb1
      generalize hPe : (M.rdP (M.seen d b)).1 = pg at *
      generalize hPt : (M.rdP (M.seen d b)).2 = pt at *
      have HP := Lib.hid (And.intro hPe hPt)
      clear hPe hPt
      go_wp2_with fail
      refine HRr.out.mono ?_
      rintro e w2 ⟨rfl, hb2⟩
      have HB2 := Lib.hid (HB1.out.trans (hb2.mono HB1.out.size))
      have HC2 := Lib.hid (HC1.out.below hb2 HC1.out.lt)
      clear hb2
      have m4 := HC2.out.p4
      by_cases hgt : c.gen < pg
      · have m3 := HC2.out.p3
        have m5 := HC2.out.p5
        have f3 := HC2.out.fz 3
        have f4 := HC2.out.fz 4
        have f5 := HC2.out.fz 5
        have HC3 := Lib.hid (HC2.out.set (1 - 1) pg pt)
        rw [if_pos hgt] at Hst
        have Hgt := Lib.hid hgt
        go_wp2_with fail
        go_roundw
        case rel =>
          refine ⟨⟨1 - 1, pg, pt⟩, ((HB2.out.setCell (by simp) _).setCell (by simp) _).setCell (by simp) _, HC3.out, by have := Hgt.out; have := Hg0.out; simp only; omega, .inr (.inr ⟨rfl, by unfold M.found; rw [← Hc.out]; exact Hst.out.symm⟩)⟩
        case measure => simp [intOf]
      · have hle : pg ≤ c.gen := by omega
        rw [if_neg hgt] at Hst
        clear hgt
        go_wp2_with fail
        go_roundw
        case rel => exact ⟨c, HB2.out, HC2.out, Hg0.out, .inr (.inr ⟨rfl, by unfold M.found; rw [← Hc.out]; exact Hst.out.symm⟩)⟩
        case measure => simp [intOf]
    · have HF := Lib.hid hc
      clear hc
      go_wp2_with fail
      go_ret2
      exact ⟨w.heap.size, rfl, Nat.le_refl _, by rw [← HF.out]; exact HCw.out, HBw.out⟩
end Go.Proofs.YtofhijnfbilieaaGreat
namespace Go.Proofs.YtofhijnfbilieaaGreat
open Go.RowKit
set_option linter.unusedVariables false
set_option linter.unusedSimpArgs false
set_option maxRecDepth 20000

variable {dB sB mB n : Nat} {d : M.Dv}

namespace M
/-- what Put tells, and what it makes of the device, where it writes bytes l to sector i -/
def putE (n : Nat) (d : Dv) (i : Nat) (l : List UInt8) : Int := if writeE n d i l = 0 then barrierE (writeD n d i l) else writeE n d i l
def putD (n : Nat) (d : Dv) (i : Nat) (l : List UInt8) : Dv := if writeE n d i l = 0 then barrierD (writeD n d i l) else writeD n d i l
/-- what Put makes of the cell, where it tells e -/
def putC (e : Int) (c : Cl) (t : ByteArray) : Cl := if e = 0 then ⟨1 - c.o, c.gen + 1, t⟩ else c
theorem putC_ok (c : Cl) (t : ByteArray) : putC 0 c t = ⟨1 - c.o, c.gen + 1, t⟩ := if_pos rfl
theorem putC_no {e : Int} (h : e ≠ 0) (c : Cl) (t : ByteArray) : putC e c t = c := if_neg h
end M

theorem put_long (w : World) (p : Addr) (t : ByteArray) (h : ¬ t.size ≤ 100) :
    Calls Tryz.prog 54 #[.pointer (some p), .string t] w fun e w' => e = .returned (.int .i64 3) ∧ w = w' := by
  have h' : (100 : Int) < (t.size : Int) := by omega
  clear h
  go_enter Tryz.func54, Tryz.ntmps54
  go_wp2
  go_ret
  exact ⟨rfl, rfl⟩

set_option maxHeartbeats 4000000 in
theorem put_0 (w : World) (h : DevAt w dB sB mB n d) (cB a b : Nat) (g : Int) (t0 : ByteArray) (hc : CellAt w cB dB a b ⟨0, g, t0⟩) (hs : cB ≠ dB ∧ cB ≠ sB ∧ cB ≠ mB) (hg : 0 ≤ g ∧ g < 4611686018427387904) (hab : a ≤ 1000 ∧ b ≤ 1000) (t : ByteArray) (ht : t.size ≤ 100) :
    Calls Tryz.prog 54 #[.pointer (some ⟨cB, 0, none⟩), .string t] w fun e w' => e = .returned (.int .i64 (M.putE n d a (M.slot (g + 1) t))) ∧ DevAt w' dB sB mB n (M.putD n d a (M.slot (g + 1) t)) ∧
      CellAt w' cB dB a b (M.putC (M.putE n d a (M.slot (g + 1) t)) ⟨0, g, t0⟩ t) ∧ But [dB, sB, mB, cB] w w' := by
  have hm : M.MayS (g + 1) t := ⟨by omega, by omega, ht⟩
  have hwr : IntKind.i64.wrap (g + 1) = g + 1 := by
    obtain ⟨h0, h1⟩ := hg
    simp [IntKind.wrap, IntKind.bits, IntKind.signed]; omega
  have HS := Lib.hid (slot_yes w.drew (g + 1) t hm)
  rw [show Calls Tryz.prog 75 #[.int .i64 (g + 1), .string t] w.drew = Calls Tryz.prog 75 #[.int .i64 (IntKind.i64.wrap (g + 1)), .string t] w.drew by rw [hwr]] at HS
  clear hwr
  have HLn := Lib.hid (M.slot_small hm)
  have HD := Lib.hid h
  have HC := Lib.hid hc
  have Hs := Lib.hid hs
  have Hg := Lib.hid hg
  have m0 := hc.p0
  have m1 : w.cell? ⟨cB, 1, none⟩ = some (.int .i64 (a : Int)) := hc.p1
  have m3 : w.cell? ⟨cB, 3, none⟩ = some (.int .i64 0) := hc.p3
  have m4 : w.cell? ⟨cB, 4, none⟩ = some (.int .i64 g) := hc.p4
  have hx0 : (0 : Int) ≤ (a : Int) := by omega
  have hx1 : (a : Int) ≤ 1000 := by omega
  have ht' : (t.size : Int) ≤ 100 := by omega
  have hgne : (g == 4611686018427387904) = false := by rw [beq_eq_false_iff_ne]; omega
  obtain ⟨hg0, hg1⟩ := hg
  generalize M.slot (g + 1) t = sl at *
  clear h hc hs hm hab ht
  go_enter Tryz.func54, Tryz.ntmps54
  go_wp2_with fail
  go_region_held3 (fun w' => w'.cell? ⟨cB, 0, none⟩ = some (.pointer (some ⟨dB, 0, none⟩)) ∧ w'.cell? ⟨cB, 1, none⟩ = some (.int .i64 (a : Int)) ∧ w'.cell? ⟨cB, 3, none⟩ = some (.int .i64 0) ∧ w'.cell? ⟨cB, 4, none⟩ = some (.int .i64 g))
    (first
      | exact ⟨m0, m1, m3, m4⟩
      | exact ⟨HC1.out.p0, HC1.out.p1, HC1.out.p3, HC1.out.p4⟩
      | exact ⟨HC2.out.p0, HC2.out.p1, HC2.out.p3, HC2.out.p4⟩)
    (first
      | (go_at_call 75; refine HS.out.mono ?_; rintro e w1 ⟨aS, capS, rfl, ho, hb⟩
         have Ho := Lib.hid ho
         have Hb := Lib.hid hb
         have HC1 := Lib.hid ((HC.out.of_block (w' := w.drew) rfl).below hb HC.out.lt)
         have HD1 := Lib.hid (HD.out.drew.but (But.of_below hb) (by simp) (by simp) (by simp))
         clear ho hb)
      | (go_at_call 17; refine (write_any w1 HD1.out (a : Int) (by omega) (by omega) _ _ _ sl Ho.out.row (.inr fun b off e => by have := (Ho.out.at b off e).1; have := HD.out.drew.ltD; simp; omega)).mono ?_; rintro e w2 ⟨rfl, hd2, hb2⟩
         have HD2 := Lib.hid hd2
         have HB2 : Hid (But [dB, sB, mB, cB] w w2) := Lib.hid ((((But.refl _ w).drew).trans ((But.of_below Hb.out).mono (by simp))).trans (hb2.mono (by simp)))
         have HC2 := Lib.hid (HC1.out.but hb2 (by have := Hs.out; simp; omega))
         clear hd2 hb2))
  by_cases e1 : M.writeE n d (a : Int) sl = 0
  · have HE1 := Lib.hid e1
    have n0 := HC2.out.p0
    rw [e1]
    clear e1 m0 m1 m3 m4 HC1 HD1
    have HBa := Lib.hid (barrier_any w2 HD2.out)
    generalize hbe : M.barrierE (M.writeD n d (a : Int) sl) = e2 at HBa
    have HE2 := Lib.hid hbe
    clear hbe
    go_wp2_with fail
    refine HBa.out.mono ?_
    rintro e w3 ⟨rfl, hd3, hb3⟩
    have HD3 := Lib.hid hd3
    have HB3 : Hid (But [dB, sB, mB, cB] w w3) := Lib.hid (HB2.out.trans (hb3.mono (by simp)))
    have HC3 := Lib.hid (HC2.out.but hb3 (by have := Hs.out; simp; omega))
    have hpd : M.putD n d a sl = M.barrierD (M.writeD n d (a : Int) sl) := by unfold M.putD; rw [if_pos HE1.out]
    have hpe : M.putE n d a sl = e2 := by unfold M.putE; rw [if_pos HE1.out]; exact HE2.out
    have HPd := Lib.hid hpd
    have HPe := Lib.hid hpe
    clear hd3 hb3 n0 hpd hpe
    by_cases hz : e2 = 0
    · subst hz
      have k0 := HC3.out.p0
      have k3 : w3.cell? ⟨cB, 3, none⟩ = some (.int .i64 0) := HC3.out.p3
      have k4 : w3.cell? ⟨cB, 4, none⟩ = some (.int .i64 g) := HC3.out.p4
      have k5 := HC3.out.p5
      have f3 := HC3.out.fz 3
      have f4 := HC3.out.fz 4
      have f5 := HC3.out.fz 5
      go_wp2_with fail
      have HK := Lib.hid (HC3.out.set (1 - 0) (g + 1) t)
      have HKB : Hid (But [dB, sB, mB, cB] w (((w3.setCell ⟨cB, 4, none⟩ (.int .i64 (g + 1))).setCell ⟨cB, 5, none⟩ (.string t)).setCell ⟨cB, 3, none⟩ (.int .i64 1))) := Lib.hid (((HB3.out.set _ (.inl (by simp))).set _ (.inl (by simp))).set _ (.inl (by simp)))
      have HKD : Hid (DevAt (((w3.setCell ⟨cB, 4, none⟩ (.int .i64 (g + 1))).setCell ⟨cB, 5, none⟩ (.string t)).setCell ⟨cB, 3, none⟩ (.int .i64 1)) dB sB mB n (M.barrierD (M.writeD n d (a : Int) sl))) := Lib.hid (HD3.out.but ((((But.refl [cB] w3).set _ (.inl (by simp))).set _ (.inl (by simp))).set _ (.inl (by simp))) (by have := Hs.out; simp; omega) (by have := Hs.out; simp; omega) (by have := Hs.out; simp; omega))
      go_region
      go_wp2_with fail
      go_ret
      exact ⟨by rw [HPe.out]; rfl, by rw [HPd.out]; exact HKD.out.drew, by rw [HPe.out, M.putC_ok]; exact HK.out.of_block rfl, HKB.out.drew⟩
    · have hz1 : (e2 != 0) = true := by simpa using hz
      have Hz := Lib.hid hz
      clear hz
      go_wp2_with fail
      go_ret
      exact ⟨by rw [HPe.out]; rfl, by rw [HPd.out]; exact HD3.out, by rw [HPe.out, M.putC_no Hz.out]; exact HC3.out, HB3.out⟩
  · have hpe : M.putE n d a sl = M.writeE n d (a : Int) sl := by unfold M.putE; rw [if_neg e1]
    have hpd : M.putD n d a sl = M.writeD n d (a : Int) sl := by unfold M.putD; rw [if_neg e1]
    have HPd := Lib.hid hpd
    have HPe := Lib.hid hpe
    have He1 := Lib.hid e1
    clear hpe hpd
    generalize M.writeE n d (a : Int) sl = e3 at *
    have hz1 : (e3 != 0) = true := by simpa using e1
    clear e1
    go_wp2_with fail
    go_ret
    exact ⟨by rw [HPe.out]; rfl, by rw [HPd.out]; exact HD2.out, by rw [HPe.out, M.putC_no He1.out]; exact HC2.out, HB2.out⟩

set_option maxHeartbeats 4000000 in
theorem put_1 (w : World) (h : DevAt w dB sB mB n d) (cB a b : Nat) (g : Int) (t0 : ByteArray) (hc : CellAt w cB dB a b ⟨1, g, t0⟩) (hs : cB ≠ dB ∧ cB ≠ sB ∧ cB ≠ mB) (hg : 0 ≤ g ∧ g < 4611686018427387904) (hab : a ≤ 1000 ∧ b ≤ 1000) (t : ByteArray) (ht : t.size ≤ 100) :
    Calls Tryz.prog 54 #[.pointer (some ⟨cB, 0, none⟩), .string t] w fun e w' => e = .returned (.int .i64 (M.putE n d b (M.slot (g + 1) t))) ∧ DevAt w' dB sB mB n (M.putD n d b (M.slot (g + 1) t)) ∧
      CellAt w' cB dB a b (M.putC (M.putE n d b (M.slot (g + 1) t)) ⟨1, g, t0⟩ t) ∧ But [dB, sB, mB, cB] w w' := by
  have hm : M.MayS (g + 1) t := ⟨by omega, by omega, ht⟩
  have hwr : IntKind.i64.wrap (g + 1) = g + 1 := by
    obtain ⟨h0, h1⟩ := hg
    simp [IntKind.wrap, IntKind.bits, IntKind.signed]; omega
  have HS := Lib.hid (slot_yes w.drew (g + 1) t hm)
  rw [show Calls Tryz.prog 75 #[.int .i64 (g + 1), .string t] w.drew = Calls Tryz.prog 75 #[.int .i64 (IntKind.i64.wrap (g + 1)), .string t] w.drew by rw [hwr]] at HS
  clear hwr
  have HLn := Lib.hid (M.slot_small hm)
  have HD := Lib.hid h
  have HC := Lib.hid hc
  have Hs := Lib.hid hs
  have Hg := Lib.hid hg
  have m0 := hc.p0
  have m1 : w.cell? ⟨cB, 2, none⟩ = some (.int .i64 (b : Int)) := hc.p2
  have m3 : w.cell? ⟨cB, 3, none⟩ = some (.int .i64 1) := hc.p3
  have m4 : w.cell? ⟨cB, 4, none⟩ = some (.int .i64 g) := hc.p4
  have hx0 : (0 : Int) ≤ (b : Int) := by omega
  have hx1 : (b : Int) ≤ 1000 := by omega
  have ht' : (t.size : Int) ≤ 100 := by omega
  have hgne : (g == 4611686018427387904) = false := by rw [beq_eq_false_iff_ne]; omega
  obtain ⟨hg0, hg1⟩ := hg
  generalize M.slot (g + 1) t = sl at *
  clear h hc hs hm hab ht
  go_enter Tryz.func54, Tryz.ntmps54
  go_wp2_with fail
  go_region_held3 (fun w' => w'.cell? ⟨cB, 0, none⟩ = some (.pointer (some ⟨dB, 0, none⟩)) ∧ w'.cell? ⟨cB, 2, none⟩ = some (.int .i64 (b : Int)) ∧ w'.cell? ⟨cB, 3, none⟩ = some (.int .i64 1) ∧ w'.cell? ⟨cB, 4, none⟩ = some (.int .i64 g))
    (first
      | exact ⟨m0, m1, m3, m4⟩
      | exact ⟨HC1.out.p0, HC1.out.p2, HC1.out.p3, HC1.out.p4⟩
      | exact ⟨HC2.out.p0, HC2.out.p2, HC2.out.p3, HC2.out.p4⟩)
    (first
      | (go_at_call 75; refine HS.out.mono ?_; rintro e w1 ⟨aS, capS, rfl, ho, hb⟩
         have Ho := Lib.hid ho
         have Hb := Lib.hid hb
         have HC1 := Lib.hid ((HC.out.of_block (w' := w.drew) rfl).below hb HC.out.lt)
         have HD1 := Lib.hid (HD.out.drew.but (But.of_below hb) (by simp) (by simp) (by simp))
         clear ho hb)
      | (go_at_call 17; refine (write_any w1 HD1.out (b : Int) (by omega) (by omega) _ _ _ sl Ho.out.row (.inr fun b off e => by have := (Ho.out.at b off e).1; have := HD.out.drew.ltD; simp; omega)).mono ?_; rintro e w2 ⟨rfl, hd2, hb2⟩
         have HD2 := Lib.hid hd2
         have HB2 : Hid (But [dB, sB, mB, cB] w w2) := Lib.hid ((((But.refl _ w).drew).trans ((But.of_below Hb.out).mono (by simp))).trans (hb2.mono (by simp)))
         have HC2 := Lib.hid (HC1.out.but hb2 (by have := Hs.out; simp; omega))
         clear hd2 hb2))
  by_cases e1 : M.writeE n d (b : Int) sl = 0
  · have HE1 := Lib.hid e1
    have n0 := HC2.out.p0
    rw [e1]
    clear e1 m0 m1 m3 m4 HC1 HD1
    have HBa := Lib.hid (barrier_any w2 HD2.out)
    generalize hbe : M.barrierE (M.writeD n d (b : Int) sl) = e2 at HBa
    have HE2 := Lib.hid hbe
    clear hbe
    go_wp2_with fail
    refine HBa.out.mono ?_
    rintro e w3 ⟨rfl, hd3, hb3⟩
    have HD3 := Lib.hid hd3
    have HB3 : Hid (But [dB, sB, mB, cB] w w3) := Lib.hid (HB2.out.trans (hb3.mono (by simp)))
    have HC3 := Lib.hid (HC2.out.but hb3 (by have := Hs.out; simp; omega))
    have hpd : M.putD n d b sl = M.barrierD (M.writeD n d (b : Int) sl) := by unfold M.putD; rw [if_pos HE1.out]
    have hpe : M.putE n d b sl = e2 := by unfold M.putE; rw [if_pos HE1.out]; exact HE2.out
    have HPd := Lib.hid hpd
    have HPe := Lib.hid hpe
    clear hd3 hb3 n0 hpd hpe
    by_cases hz : e2 = 0
    · subst hz
      have k0 := HC3.out.p0
      have k3 : w3.cell? ⟨cB, 3, none⟩ = some (.int .i64 1) := HC3.out.p3
      have k4 : w3.cell? ⟨cB, 4, none⟩ = some (.int .i64 g) := HC3.out.p4
      have k5 := HC3.out.p5
      have f3 := HC3.out.fz 3
      have f4 := HC3.out.fz 4
      have f5 := HC3.out.fz 5
      go_wp2_with fail
      have HK := Lib.hid (HC3.out.set (1 - 1) (g + 1) t)
      have HKB : Hid (But [dB, sB, mB, cB] w (((w3.setCell ⟨cB, 4, none⟩ (.int .i64 (g + 1))).setCell ⟨cB, 5, none⟩ (.string t)).setCell ⟨cB, 3, none⟩ (.int .i64 0))) := Lib.hid (((HB3.out.set _ (.inl (by simp))).set _ (.inl (by simp))).set _ (.inl (by simp)))
      have HKD : Hid (DevAt (((w3.setCell ⟨cB, 4, none⟩ (.int .i64 (g + 1))).setCell ⟨cB, 5, none⟩ (.string t)).setCell ⟨cB, 3, none⟩ (.int .i64 0)) dB sB mB n (M.barrierD (M.writeD n d (b : Int) sl))) := Lib.hid (HD3.out.but ((((But.refl [cB] w3).set _ (.inl (by simp))).set _ (.inl (by simp))).set _ (.inl (by simp))) (by have := Hs.out; simp; omega) (by have := Hs.out; simp; omega) (by have := Hs.out; simp; omega))
      go_region
      go_wp2_with fail
      go_ret
      exact ⟨by rw [HPe.out]; rfl, by rw [HPd.out]; exact HKD.out.drew, by rw [HPe.out, M.putC_ok]; exact HK.out.of_block rfl, HKB.out.drew⟩
    · have hz1 : (e2 != 0) = true := by simpa using hz
      have Hz := Lib.hid hz
      clear hz
      go_wp2_with fail
      go_ret
      exact ⟨by rw [HPe.out]; rfl, by rw [HPd.out]; exact HD3.out, by rw [HPe.out, M.putC_no Hz.out]; exact HC3.out, HB3.out⟩
  · have hpe : M.putE n d b sl = M.writeE n d (b : Int) sl := by unfold M.putE; rw [if_neg e1]
    have hpd : M.putD n d b sl = M.writeD n d (b : Int) sl := by unfold M.putD; rw [if_neg e1]
    have HPd := Lib.hid hpd
    have HPe := Lib.hid hpe
    have He1 := Lib.hid e1
    clear hpe hpd
    generalize M.writeE n d (b : Int) sl = e3 at *
    have hz1 : (e3 != 0) = true := by simpa using e1
    clear e1
    go_wp2_with fail
    go_ret
    exact ⟨by rw [HPe.out]; rfl, by rw [HPd.out]; exact HD2.out, by rw [HPe.out, M.putC_no He1.out]; exact HC2.out, HB2.out⟩

end Go.Proofs.YtofhijnfbilieaaGreat
namespace Go.Proofs.YtofhijnfbilieaaGreat
open Go.RowKit
set_option linter.unusedVariables false
set_option linter.unusedSimpArgs false
set_option maxRecDepth 20000

variable {dB sB mB n : Nat} {d : M.Dv}

namespace M
/-- which sector may be written -/
def pos (o a b : Nat) : Nat := if o = 0 then a else b
end M

theorem put_any (w : World) (h : DevAt w dB sB mB n d) (cB a b : Nat) (c : M.Cl) (hc : CellAt w cB dB a b c) (hs : cB ≠ dB ∧ cB ≠ sB ∧ cB ≠ mB) (ho : c.o ≤ 1) (hg : 0 ≤ c.gen ∧ c.gen < 4611686018427387904) (hab : a ≤ 1000 ∧ b ≤ 1000) (t : ByteArray) (ht : t.size ≤ 100) :
    Calls Tryz.prog 54 #[.pointer (some ⟨cB, 0, none⟩), .string t] w fun e w' => e = .returned (.int .i64 (M.putE n d (M.pos c.o a b) (M.slot (c.gen + 1) t))) ∧ DevAt w' dB sB mB n (M.putD n d (M.pos c.o a b) (M.slot (c.gen + 1) t)) ∧
      CellAt w' cB dB a b (M.putC (M.putE n d (M.pos c.o a b) (M.slot (c.gen + 1) t)) c t) ∧ But [dB, sB, mB, cB] w w' := by
  obtain ⟨o, g, t0⟩ := c
  simp only at ho hg ⊢
  by_cases h0 : o = 0
  · subst h0
    exact put_0 w h cB a b g t0 hc hs hg hab t ht
  · obtain rfl : o = 1 := by omega
    exact put_1 w h cB a b g t0 hc hs hg hab t ht

/-- a put on a device without a fuse -/
theorem put_free (hf : Free d) (hwf : M.Wf n d) {i : Nat} (hi : i < n) {l : List UInt8} (hl : l.length ≤ 144) :
    M.putE n d i l = 0 ∧ Free (M.putD n d i l) ∧ (∀ k, (M.putD n d i l).P k = none) ∧ ∀ j : Nat, M.seen (M.putD n d i l) j = if j = i then M.pad l else M.seen d j := by
  have e : M.writeE n d i l = 0 := by rw [hf.writeE, if_neg (by omega), if_neg (by omega)]
  have hf2 := hf.write n i l
  have eb : M.barrierE (M.writeD n d i l) = 0 := by
    unfold M.barrierE
    rw [hf2.2, if_neg (by simp), hf2.act.1]
  refine ⟨by unfold M.putE; rw [if_pos e, eb], by unfold M.putD; rw [if_pos e]; exact hf2.barrier, fun k => ?_, fun j => ?_⟩
  · unfold M.putD; rw [if_pos e, hf2.barrierD]
  · unfold M.putD
    rw [if_pos e, seen_barrier hf2]
    by_cases hj : j = i
    · subst hj
      rw [if_pos rfl, seen_write_same hf n l e]
    · rw [if_neg hj, seen_write hf n (by omega)]

/-- the cell that is found behind a put -/
theorem found_after (hf : Free d) (hwf : M.Wf n d) {a b : Nat} (hab : a ≠ b) (ha : a < n) (hb : b < n) {t : ByteArray} (ht : t.size ≤ 100)
    {c : M.Cl} (hc : c = M.found (M.rdS (M.seen d a)) (M.rdS (M.seen d b))) (hg : c.gen < 4611686018427387904) :
    M.found (M.rdS (M.seen (M.putD n d (M.pos c.o a b) (M.slot (c.gen + 1) t)) a)) (M.rdS (M.seen (M.putD n d (M.pos c.o a b) (M.slot (c.gen + 1) t)) b)) = ⟨1 - c.o, c.gen + 1, t⟩ := by
  have ho := M.found_o (M.seen d a) (M.seen d b)
  have hg2 := M.found_gen (M.seen d a) (M.seen d b)
  rw [← hc] at ho hg2
  have hm : M.MayS (c.gen + 1) t := ⟨by omega, by omega, ht⟩
  have hp : M.pos c.o a b < n := by unfold M.pos; split <;> assumption
  have hs := (put_free hf hwf hp (l := M.slot (c.gen + 1) t) (by have := M.slot_small hm; omega)).2.2.2
  rw [hs a, hs b]
  have key := M.found_put (l := M.seen d a) (m := M.seen d b) (z := M.pad (M.slot (c.gen + 1) t)) (t := t) (by rw [← hc]; exact M.rdS_pad hm)
  rw [← hc] at key
  by_cases h0 : c.o = 0
  · rw [h0] at key ⊢
    simp only [M.pos, if_true, M.turn0] at key ⊢
    rw [if_neg (by omega)]
    exact key
  · have h1 : c.o = 1 := by omega
    rw [h1] at key ⊢
    simp only [M.pos, M.turn1, show ¬ (1 = 0) by omega, if_false, if_true] at key ⊢
    rw [if_neg hab]
    exact key

theorem seen_crash_none (h : ∀ k, d.P k = none) (l : List (Int × Int)) (j : Nat) : M.seen (M.crashD n d l) j = M.seen d j := by
  have e : M.pendL n d.P = [] := by
    unfold M.pendL
    rw [List.filter_eq_nil_iff]
    intro k _
    rw [h k]; simp
  have e1 : M.seen (M.crashD n d l) j = M.crashS d.P d.S (M.pendL n d.P) l j := rfl
  rw [e1, e]
  unfold M.seen
  rw [h]
  cases l <;> rfl

theorem fresh_seen (j : Nat) : M.seen M.fresh j = M.zero := rfl
theorem found_zero : M.found (M.rdS M.zero) (M.rdS M.zero) = M.none0 := by rw [M.rdS_zero]; rfl

theorem reach_free (hf : Free d) {i : Nat} (hi : i < n) : M.reach n d (i : Int) = 0 := by rw [hf.reach, if_neg (by omega)]
theorem reach_ok (hd : d.dead = false) {i : Nat} (hi : i < n) : M.reach n d (i : Int) = 0 := by
  unfold M.reach
  rw [hd, if_neg (by simp), if_neg (by omega)]

/-- two strings, as a slice -/
def strs2 (s t : ByteArray) : List Value := [.string s, .string t]

theorem strs2_new (w : World) (s t : ByteArray) : Row (w.alloc (.cells #[.string s, .string t] 9)) (some ⟨w.heap.size, 0, none⟩) 2 2 (strs2 s t) := by
  refine ⟨rfl, Nat.le_refl _, by simp [maxLen], .inr ⟨w.heap.size, 0, rfl, by simp, fun i hi => ?_⟩⟩
  rw [World.cell?_alloc_mark]
  simp [strs2]

end Go.Proofs.YtofhijnfbilieaaGreat
namespace Go.Proofs.YtofhijnfbilieaaGreat
open Go.RowKit
set_option linter.unusedVariables false
set_option linter.unusedSimpArgs false
set_option maxRecDepth 20000

variable {dB sB mB n : Nat} {d : M.Dv}

theorem put_ok (w : World) (h : DevAt w dB sB mB n d) (hf : Free d) (cB a b : Nat) (c : M.Cl) (hc : CellAt w cB dB a b c) (hs : cB ≠ dB ∧ cB ≠ sB ∧ cB ≠ mB)
    (hcf : c = M.found (M.rdS (M.seen d a)) (M.rdS (M.seen d b))) (hg : c.gen < 4611686018427387904) (hab : a ≠ b) (ha : a < n) (hb : b < n) (t : ByteArray) (ht : t.size ≤ 100) :
    Calls Tryz.prog 54 #[.pointer (some ⟨cB, 0, none⟩), .string t] w fun e w' => e = .returned (.int .i64 0) ∧ ∃ d', DevAt w' dB sB mB n d' ∧ Free d' ∧ (∀ k, d'.P k = none) ∧
      (∀ j : Nat, M.seen d' j = if j = M.pos c.o a b then M.pad (M.slot (c.gen + 1) t) else M.seen d j) ∧ CellAt w' cB dB a b ⟨1 - c.o, c.gen + 1, t⟩ ∧
      M.Cl.mk (1 - c.o) (c.gen + 1) t = M.found (M.rdS (M.seen d' a)) (M.rdS (M.seen d' b)) ∧ But [dB, sB, mB, cB] w w' := by
  have ho := M.found_o (M.seen d a) (M.seen d b)
  have hg2 := M.found_gen (M.seen d a) (M.seen d b)
  rw [← hcf] at ho hg2
  have hn := h.n512
  have hm : M.MayS (c.gen + 1) t := ⟨by omega, by omega, ht⟩
  have hp : M.pos c.o a b < n := by unfold M.pos; split <;> assumption
  obtain ⟨q1, q2, q3, q4⟩ := put_free hf h.wf hp (l := M.slot (c.gen + 1) t) (by have := M.slot_small hm; omega)
  refine (put_any w h cB a b c hc hs ho ⟨hg2.1, hg⟩ ⟨by omega, by omega⟩ t ht).mono ?_
  rintro e w' ⟨rfl, hd, hc', hb'⟩
  rw [q1, M.putC_ok] at hc'
  exact ⟨by rw [q1], _, hd, q2, q3, q4, hc', (found_after hf h.wf hab ha hb ht hcf hg).symm, hb'⟩

theorem crash_nil (w : World) (h : DevAt w dB sB mB n d) (hp : ∀ k, d.P k = none) :
    Calls Tryz.prog 12 #[.pointer (some ⟨dB, 0, none⟩), .slice none 0 0] w fun e w' => e = .returned (.tuple #[]) ∧ ∃ d', DevAt w' dB sB mB n d' ∧ Free d' ∧ (∀ j : Nat, M.seen d' j = M.seen d j) ∧ But [dB, sB, mB] w w' := by
  refine (crash_any w h none 0 0 [] (krow_nil w) (.inl rfl)).mono ?_
  rintro e w' ⟨rfl, hd, hb⟩
  exact ⟨rfl, _, hd, Free.crash n d [], fun j => seen_crash_none hp [] j, hb⟩

end Go.Proofs.YtofhijnfbilieaaGreat
namespace Go.Proofs.YtofhijnfbilieaaGreat
open Go.RowKit
set_option linter.unusedVariables false
set_option linter.unusedSimpArgs false
set_option maxRecDepth 20000

theorem cbelow_up {B : Nat} {w w1 w2 : World} (h : Below B w w1) (hb : Below w1.heap.size w1 w2) (hB : B ≤ w1.heap.size) : Below B w w2 := h.trans (hb.mono hB)

variable {dB sB mB n : Nat} {d : M.Dv}

namespace M
/-- what Put tells, and makes of the device and the cell, also where no generation is left -/
def puE (n : Nat) (d : Dv) (a b : Nat) (c : Cl) (t : ByteArray) : Int := if c.gen = 4611686018427387904 then 23 else putE n d (pos c.o a b) (slot (c.gen + 1) t)
def puD (n : Nat) (d : Dv) (a b : Nat) (c : Cl) (t : ByteArray) : Dv := if c.gen = 4611686018427387904 then d else putD n d (pos c.o a b) (slot (c.gen + 1) t)
def puC (n : Nat) (d : Dv) (a b : Nat) (c : Cl) (t : ByteArray) : Cl := if c.gen = 4611686018427387904 then c else putC (putE n d (pos c.o a b) (slot (c.gen + 1) t)) c t
end M

theorem put_seq (w : World) {cB a b : Nat} {c : M.Cl} (hc : CellAt w cB dB a b c) (hg : c.gen = 4611686018427387904) (t : ByteArray) (ht : t.size ≤ 100) :
    Calls Tryz.prog 54 #[.pointer (some ⟨cB, 0, none⟩), .string t] w fun e w' => e = .returned (.int .i64 23) ∧ w = w' := by
  have p4 := hc.p4
  rw [hg] at p4
  have h' : (t.size : Int) ≤ 100 := by omega
  clear hc hg ht
  go_enter Tryz.func54, Tryz.ntmps54
  go_wp2
  go_ret
  exact ⟨rfl, rfl⟩

theorem put_all (w : World) (h : DevAt w dB sB mB n d) (cB a b : Nat) (c : M.Cl) (hc : CellAt w cB dB a b c) (hs : cB ≠ dB ∧ cB ≠ sB ∧ cB ≠ mB) (ho : c.o ≤ 1) (hg : 0 ≤ c.gen ∧ c.gen ≤ 4611686018427387904) (hab : a ≤ 1000 ∧ b ≤ 1000) (t : ByteArray) (ht : t.size ≤ 100) :
    Calls Tryz.prog 54 #[.pointer (some ⟨cB, 0, none⟩), .string t] w fun e w' => e = .returned (.int .i64 (M.puE n d a b c t)) ∧ DevAt w' dB sB mB n (M.puD n d a b c t) ∧
      CellAt w' cB dB a b (M.puC n d a b c t) ∧ But [dB, sB, mB, cB] w w' := by
  unfold M.puE M.puD M.puC
  by_cases hz : c.gen = 4611686018427387904
  · rw [if_pos hz, if_pos hz, if_pos hz]
    refine (put_seq w hc hz t ht).mono ?_
    rintro e w' ⟨rfl, rfl⟩
    exact ⟨rfl, h, hc, But.refl _ _⟩
  · rw [if_neg hz, if_neg hz, if_neg hz]
    exact put_any w h cB a b c hc hs ho ⟨hg.1, by omega⟩ hab t ht

/-- the two ways of a Put -/
theorem M.pu_ways (n : Nat) (d : M.Dv) (a b : Nat) (c : M.Cl) (t : ByteArray) (hg : c.gen ≤ 4611686018427387904) : (M.puE n d a b c t = 0 ∧ M.puC n d a b c t = ⟨1 - c.o, c.gen + 1, t⟩ ∧ c.gen + 1 ≤ 4611686018427387904) ∨ (M.puE n d a b c t ≠ 0 ∧ M.puC n d a b c t = c) := by
  unfold M.puE M.puC
  by_cases hq : c.gen = 4611686018427387904
  · rw [if_pos hq, if_pos hq]; exact .inr ⟨by omega, rfl⟩
  · rw [if_neg hq, if_neg hq]
    by_cases he : M.putE n d (M.pos c.o a b) (M.slot (c.gen + 1) t) = 0
    · rw [he, M.putC_ok]; exact .inl ⟨rfl, rfl, by omega⟩
    · rw [M.putC_no he]; exact .inr ⟨he, rfl⟩
end Go.Proofs.YtofhijnfbilieaaGreat
