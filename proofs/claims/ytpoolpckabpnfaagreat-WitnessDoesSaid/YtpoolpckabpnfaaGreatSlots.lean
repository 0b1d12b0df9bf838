/-
  Plain mathematics of a slot: its bytes, and what a sector's bytes say as a slot; there and back.
-/
import Derived.Test.YtpoolpckabpnfaaGreatKMath
import Derived.Test.YtpoolpckabpnfaaGreatCMath
import Derived.Test.YtpoolpckabpnfaaGreatSMath
set_option linter.unusedVariables false
namespace Go.Proofs.YtpoolpckabpnfaaGreat
namespace M

def ints8 (l : List UInt8) : List Int := l.map fun c => (c.toNat : Int)
def sumB (l : List UInt8) : BitVec 32 := K.M.more 0#32 (ints8 l)
def word (s : BitVec 32) : List UInt8 := [UInt8.ofNat (s.toNat / 16777216), UInt8.ofNat (s.toNat / 65536), UInt8.ofNat (s.toNat / 256), UInt8.ofNat s.toNat]
def num4 (a b c d : UInt8) : Nat := a.toNat * 16777216 + b.toNat * 65536 + c.toNat * 256 + d.toNat

theorem num4_word (s : BitVec 32) : num4 (UInt8.ofNat (s.toNat / 16777216)) (UInt8.ofNat (s.toNat / 65536)) (UInt8.ofNat (s.toNat / 256)) (UInt8.ofNat s.toNat) = s.toNat := by
  have h : s.toNat < 4294967296 := s.isLt
  unfold num4
  simp only [UInt8.toNat_ofNat']
  omega
theorem num4_lt (a b c d : UInt8) : num4 a b c d < 4294967296 := by
  have := a.toNat_lt; have := b.toNat_lt; have := c.toNat_lt; have := d.toNat_lt
  unfold num4; omega
theorem word_num4 {a b c d : UInt8} {s : BitVec 32} (h : s.toNat = num4 a b c d) : word s = [a, b, c, d] := by
  have ha := a.toNat_lt; have hb := b.toNat_lt; have hc := c.toNat_lt; have hd := d.toNat_lt
  unfold word
  rw [h]
  unfold num4
  have e1 : UInt8.ofNat ((a.toNat * 16777216 + b.toNat * 65536 + c.toNat * 256 + d.toNat) / 16777216) = a := by
    apply UInt8.toNat.inj; rw [UInt8.toNat_ofNat']; omega
  have e2 : UInt8.ofNat ((a.toNat * 16777216 + b.toNat * 65536 + c.toNat * 256 + d.toNat) / 65536) = b := by
    apply UInt8.toNat.inj; rw [UInt8.toNat_ofNat']; omega
  have e3 : UInt8.ofNat ((a.toNat * 16777216 + b.toNat * 65536 + c.toNat * 256 + d.toNat) / 256) = c := by
    apply UInt8.toNat.inj; rw [UInt8.toNat_ofNat']; omega
  have e4 : UInt8.ofNat (a.toNat * 16777216 + b.toNat * 65536 + c.toNat * 256 + d.toNat) = d := by
    apply UInt8.toNat.inj; rw [UInt8.toNat_ofNat']; omega
  rw [e1, e2, e3, e4]

def summed (r : List UInt8) : List UInt8 := UInt8.ofNat r.length :: r
def framed (r : List UInt8) : List UInt8 := word (sumB (summed r)) ++ summed r

def unframe : List UInt8 → Option C.M.Rc
  | a :: b :: c :: d :: n :: r => if n.toNat ≤ r.length then (if (sumB (n :: r.take n.toNat)).toNat = num4 a b c d then C.M.dec (r.take n.toNat) else none) else none
  | _ => none

theorem unframe_framed {r : C.M.Rc} (hm : C.M.May r) (hf : C.M.Fits r) (hl : (C.M.enc r).length < 256) (x : List UInt8) : unframe (framed (C.M.enc r) ++ x) = some r := by
  have h0 : (UInt8.ofNat (C.M.enc r).length).toNat = (C.M.enc r).length := C.M.toNat_ofNat hl
  show unframe (UInt8.ofNat ((sumB (summed (C.M.enc r))).toNat / 16777216) :: UInt8.ofNat ((sumB (summed (C.M.enc r))).toNat / 65536) :: UInt8.ofNat ((sumB (summed (C.M.enc r))).toNat / 256) :: UInt8.ofNat (sumB (summed (C.M.enc r))).toNat :: UInt8.ofNat (C.M.enc r).length :: (C.M.enc r ++ x)) = _
  simp only [unframe]
  rw [h0, if_pos (by rw [List.length_append]; omega), List.take_left, if_pos (by rw [num4_word]; rfl)]
  exact C.M.dec_enc hm hf

theorem framed_unframe {l : List UInt8} {r : C.M.Rc} (h : unframe l = some r) : C.M.May r ∧ C.M.Fits r ∧ (C.M.enc r).length < 256 ∧ ∃ x, l = framed (C.M.enc r) ++ x := by
  match l, h with
  | a :: b :: c :: d :: n :: t, h =>
    simp only [unframe] at h
    split at h
    · rename_i hn
      split at h
      · rename_i hs
        obtain ⟨h1, h2, h3⟩ := C.M.enc_dec h
        have hl : (C.M.enc r).length = n.toNat := by rw [← h3, List.length_take]; omega
        have hn2 := n.toNat_lt
        refine ⟨h1, h2, by omega, t.drop n.toNat, ?_⟩
        have e0 : UInt8.ofNat (C.M.enc r).length = n := by apply UInt8.toNat.inj; rw [UInt8.toNat_ofNat', hl]; omega
        unfold framed summed
        rw [e0, ← h3, word_num4 hs]
        simp
      · cases h
    · cases h

/-- a slot's record -/
def recS (g : Int) (t : ByteArray) : C.M.Rc := ⟨1, [g], [t]⟩
def MayS (g : Int) (t : ByteArray) : Prop := 1 ≤ g ∧ g ≤ 4611686018427387904 ∧ t.size ≤ 100
def slot (g : Int) (t : ByteArray) : List UInt8 := framed (C.M.enc (recS g t))

theorem recS_may {g : Int} {t : ByteArray} (h : MayS g t) : C.M.May (recS g t) ∧ C.M.Fits (recS g t) := by
  obtain ⟨h1, h2, h3⟩ := h
  refine ⟨⟨by simp [recS], by simp [recS], by simp [recS], by simp [recS], fun x hx => ?_⟩, fun x hx => ?_⟩
  · simp [recS] at hx; subst hx; omega
  · simp [recS] at hx; subst hx; unfold C.M.fits; omega
theorem enc_len {g : Int} {t : ByteArray} : (C.M.enc (recS g t)).length = 2 + (C.M.num g).length + (1 + t.size) := by
  rw [C.M.enc_len]; simp [recS]
theorem enc_small {g : Int} {t : ByteArray} (h : MayS g t) : (C.M.enc (recS g t)).length ≤ 113 ∧ 4 ≤ (C.M.enc (recS g t)).length := by
  have := C.M.num_len g
  rw [enc_len]
  obtain ⟨_, _, h3⟩ := h
  omega
theorem slot_len (g : Int) (t : ByteArray) : (slot g t).length = 5 + (C.M.enc (recS g t)).length := by
  simp [slot, framed, word, summed]; omega
theorem slot_small {g : Int} {t : ByteArray} (h : MayS g t) : 9 ≤ (slot g t).length ∧ (slot g t).length ≤ 118 := by
  have := enc_small h
  rw [slot_len]; omega

def asSlot (r : C.M.Rc) : Option (Int × ByteArray) :=
  match r with
  | ⟨k, [g], [t]⟩ => if k = 1 then (if t.size ≤ 100 ∧ 1 ≤ g ∧ g ≤ 4611686018427387904 then some (g, t) else none) else none
  | _ => none

/-- what bytes say as a slot -/
def rdS (l : List UInt8) : Option (Int × ByteArray) := (unframe l).bind asSlot

theorem rdS_slot {g : Int} {t : ByteArray} (h : MayS g t) (x : List UInt8) : rdS (slot g t ++ x) = some (g, t) := by
  obtain ⟨h1, h2⟩ := recS_may h
  unfold rdS slot
  rw [unframe_framed h1 h2 (by have := enc_small h; omega)]
  simp only [Option.bind_some, recS, asSlot]
  rw [if_pos trivial, if_pos ⟨h.2.2, h.1, h.2.1⟩]

theorem asSlot_some {r : C.M.Rc} {g : Int} {t : ByteArray} (h : asSlot r = some (g, t)) : r = recS g t ∧ MayS g t := by
  obtain ⟨k, ns, ts⟩ := r
  match ns, ts, h with
  | [g'], [t'], h =>
    simp only [asSlot] at h
    split at h
    · rename_i hk
      split at h
      · rename_i hm
        simp only [Option.some.injEq, Prod.mk.injEq] at h
        obtain ⟨rfl, rfl⟩ := h
        subst hk
        exact ⟨rfl, hm.2.1, hm.2.2, hm.1⟩
      · cases h
    · cases h
  | [], _, h => simp [asSlot] at h
  | [_], [], h => simp [asSlot] at h
  | [_], _ :: _ :: _, h => simp [asSlot] at h
  | _ :: _ :: _, _, h => simp [asSlot] at h

theorem slot_rdS {l : List UInt8} {g : Int} {t : ByteArray} (h : rdS l = some (g, t)) : MayS g t ∧ ∃ x, l = slot g t ++ x := by
  unfold rdS at h
  cases hu : unframe l with
  | none => rw [hu] at h; cases h
  | some r =>
    rw [hu] at h
    simp only [Option.bind_some] at h
    obtain ⟨rfl, hm⟩ := asSlot_some h
    obtain ⟨_, _, _, x, hx⟩ := framed_unframe hu
    exact ⟨hm, x, hx⟩

theorem slot_inj {g h : Int} {s t : ByteArray} (h1 : MayS g s) (h2 : MayS h t) {x y : List UInt8} (e : slot g s ++ x = slot h t ++ y) : g = h ∧ s = t := by
  have a := rdS_slot h1 x
  have b := rdS_slot h2 y
  rw [e, b] at a
  simp only [Option.some.injEq, Prod.mk.injEq] at a
  exact ⟨a.1.symm, a.2.symm⟩

theorem slot_drop (g : Int) (t : ByteArray) : (slot g t).drop 4 = summed (C.M.enc (recS g t)) := by
  simp [slot, framed, word]

theorem slot_drop_inj {g h : Int} {s t : ByteArray} (h1 : MayS g s) (h2 : MayS h t) (e : (slot g s).drop 4 = (slot h t).drop 4) : g = h ∧ s = t := by
  rw [slot_drop, slot_drop] at e
  unfold summed at e
  injection e with _ e
  obtain ⟨a1, a2⟩ := recS_may h1
  obtain ⟨b1, b2⟩ := recS_may h2
  have a := C.M.dec_enc a1 a2
  rw [e, C.M.dec_enc b1 b2] at a
  simp only [Option.some.injEq, recS, C.M.Rc.mk.injEq, List.cons.injEq, and_true, true_and] at a
  exact ⟨a.1.symm, a.2.symm⟩

theorem rdS_five {l : List UInt8} (h : l[4]? = some 0) : rdS l = none := by
  match l, h with
  | a :: b :: c :: d :: n :: r, h =>
    simp only [List.getElem?_cons_succ, List.getElem?_cons_zero, Option.some.injEq] at h
    subst h
    unfold rdS unframe
    have e : C.M.dec ([] : List UInt8) = none := by rfl
    simp [e]

theorem rdS_zero : rdS zero = none := rdS_five (by rfl)

/-- a sector that holds a slot -/
theorem rdS_pad {g : Int} {t : ByteArray} (h : MayS g t) : rdS (pad (slot g t)) = some (g, t) := rdS_slot h _

/-! which slot a cell finds: the sector that it may write, the generation, the text -/
structure Cl where
  o : Nat
  gen : Int
  text : ByteArray

def step1 (i : Nat) (x : Option (Int × ByteArray)) (c : Cl) : Cl :=
  match x with
  | some (g, t) => if c.gen < g then ⟨1 - i, g, t⟩ else c
  | none => c
def none0 : Cl := ⟨0, 0, ByteArray.empty⟩
def found (x y : Option (Int × ByteArray)) : Cl := step1 1 y (step1 0 x none0)

theorem step1_up {i : Nat} {g : Int} {t : ByteArray} {c : Cl} (h : c.gen < g) : step1 i (some (g, t)) c = ⟨1 - i, g, t⟩ := if_pos h
theorem step1_no {i : Nat} {g : Int} {t : ByteArray} {c : Cl} (h : ¬ c.gen < g) : step1 i (some (g, t)) c = c := if_neg h
theorem f00 : found none none = ⟨0, 0, ByteArray.empty⟩ := rfl
theorem f01 {g : Int} {t : ByteArray} (h : 1 ≤ g) : found none (some (g, t)) = ⟨0, g, t⟩ := step1_up (show (0 : Int) < g by omega)
theorem f1 {g : Int} {t : ByteArray} (h : 1 ≤ g) : step1 0 (some (g, t)) none0 = ⟨1, g, t⟩ := step1_up (show (0 : Int) < g by omega)
theorem f10 {g : Int} {t : ByteArray} (h : 1 ≤ g) : found (some (g, t)) none = ⟨1, g, t⟩ := f1 h
theorem f11 {g g' : Int} {t t' : ByteArray} (h : 1 ≤ g) (h' : g < g') : found (some (g, t)) (some (g', t')) = ⟨0, g', t'⟩ := by
  unfold found; rw [f1 h]; exact step1_up h'
theorem f12 {g g' : Int} {t t' : ByteArray} (h : 1 ≤ g) (h' : ¬ g < g') : found (some (g, t)) (some (g', t')) = ⟨1, g, t⟩ := by
  unfold found; rw [f1 h]; exact step1_no h'

/-- the five ways of what is found -/
theorem found_ways (l m : List UInt8) :
    (rdS l = none ∧ rdS m = none ∧ found (rdS l) (rdS m) = ⟨0, 0, ByteArray.empty⟩) ∨
    (∃ g t, rdS l = none ∧ rdS m = some (g, t) ∧ MayS g t ∧ found (rdS l) (rdS m) = ⟨0, g, t⟩) ∨
    (∃ g t, rdS l = some (g, t) ∧ rdS m = none ∧ MayS g t ∧ found (rdS l) (rdS m) = ⟨1, g, t⟩) ∨
    (∃ g t g' t', rdS l = some (g, t) ∧ rdS m = some (g', t') ∧ MayS g t ∧ MayS g' t' ∧ g < g' ∧ found (rdS l) (rdS m) = ⟨0, g', t'⟩) ∨
    (∃ g t g' t', rdS l = some (g, t) ∧ rdS m = some (g', t') ∧ MayS g t ∧ MayS g' t' ∧ ¬ g < g' ∧ found (rdS l) (rdS m) = ⟨1, g, t⟩) := by
  cases hl : rdS l with
  | none =>
    cases hm : rdS m with
    | none => exact .inl ⟨rfl, rfl, f00⟩
    | some y =>
      obtain ⟨g, t⟩ := y
      have h := (slot_rdS hm).1
      exact .inr (.inl ⟨g, t, rfl, rfl, h, f01 h.1⟩)
  | some x =>
    obtain ⟨g, t⟩ := x
    have h := (slot_rdS hl).1
    cases hm : rdS m with
    | none => exact .inr (.inr (.inl ⟨g, t, rfl, rfl, h, f10 h.1⟩))
    | some y =>
      obtain ⟨g', t'⟩ := y
      have h' := (slot_rdS hm).1
      by_cases hg : g < g'
      · exact .inr (.inr (.inr (.inl ⟨g, t, g', t', rfl, rfl, h, h', hg, f11 h.1 hg⟩)))
      · exact .inr (.inr (.inr (.inr ⟨g, t, g', t', rfl, rfl, h, h', hg, f12 h.1 hg⟩)))

theorem found_o (l m : List UInt8) : (found (rdS l) (rdS m)).o ≤ 1 := by
  rcases found_ways l m with ⟨_, _, h⟩ | ⟨_, _, _, _, _, h⟩ | ⟨_, _, _, _, _, h⟩ | ⟨_, _, _, _, _, _, _, _, _, h⟩ | ⟨_, _, _, _, _, _, _, _, _, h⟩ <;> rw [h] <;> simp
theorem found_gen (l m : List UInt8) : 0 ≤ (found (rdS l) (rdS m)).gen ∧ (found (rdS l) (rdS m)).gen ≤ 4611686018427387904 := by
  rcases found_ways l m with ⟨_, _, h⟩ | ⟨_, _, _, _, ⟨h1, h2, _⟩, h⟩ | ⟨_, _, _, _, ⟨h1, h2, _⟩, h⟩ | ⟨_, _, _, _, _, _, _, ⟨h1, h2, _⟩, _, h⟩ | ⟨_, _, _, _, _, _, ⟨h1, h2, _⟩, _, _, h⟩ <;> rw [h] <;> simp only <;> omega
theorem found_text (l m : List UInt8) : (found (rdS l) (rdS m)).text.size ≤ 100 := by
  rcases found_ways l m with ⟨_, _, h⟩ | ⟨_, _, _, _, ⟨_, _, h1⟩, h⟩ | ⟨_, _, _, _, ⟨_, _, h1⟩, h⟩ | ⟨_, _, _, _, _, _, _, ⟨_, _, h1⟩, _, h⟩ | ⟨_, _, _, _, _, _, ⟨_, _, h1⟩, _, _, h⟩ <;> rw [h]
  · decide
  all_goals exact h1

/-- the two sectors, one of them turned -/
def turn (o : Nat) (z l m : List UInt8) : List UInt8 × List UInt8 := if o = 0 then (z, m) else (l, z)
theorem turn0 (z l m : List UInt8) : turn 0 z l m = (z, m) := rfl
theorem turn1 (z l m : List UInt8) : turn 1 z l m = (l, z) := rfl

/-- the sector that may be written is turned to the slot behind: the cell that is found has it -/
theorem found_put {l m z : List UInt8} {t : ByteArray} (hz : rdS z = some ((found (rdS l) (rdS m)).gen + 1, t)) :
    found (rdS (turn (found (rdS l) (rdS m)).o z l m).1) (rdS (turn (found (rdS l) (rdS m)).o z l m).2) = ⟨1 - (found (rdS l) (rdS m)).o, (found (rdS l) (rdS m)).gen + 1, t⟩ := by
  rcases found_ways l m with ⟨hl, hm, h⟩ | ⟨g, s, hl, hm, ⟨h1, _⟩, h⟩ | ⟨g, s, hl, hm, ⟨h1, _⟩, h⟩ | ⟨g, s, g', s', hl, hm, ⟨h1, _⟩, ⟨h2, _⟩, hg, h⟩ | ⟨g, s, g', s', hl, hm, ⟨h1, _⟩, ⟨h2, _⟩, hg, h⟩
  all_goals rw [h] at hz ⊢
  all_goals simp only [turn0, turn1]
  all_goals simp only at hz
  all_goals rw [hz]
  · rw [hm]; exact f10 (by omega)
  · rw [hm]; exact f12 (by omega) (by omega)
  · rw [hl]; exact f11 h1 (by omega)
  · rw [hm]; exact f12 (by omega) (by omega)
  · rw [hl]; exact f11 h1 (by omega)

/-- the sector that may be written is spoilt: the cell that is found has the same text -/
theorem found_spoil {l m z : List UInt8} (hz : rdS z = none) :
    (found (rdS (turn (found (rdS l) (rdS m)).o z l m).1) (rdS (turn (found (rdS l) (rdS m)).o z l m).2)).gen = (found (rdS l) (rdS m)).gen ∧
    (found (rdS (turn (found (rdS l) (rdS m)).o z l m).1) (rdS (turn (found (rdS l) (rdS m)).o z l m).2)).text = (found (rdS l) (rdS m)).text := by
  rcases found_ways l m with ⟨hl, hm, h⟩ | ⟨g, s, hl, hm, ⟨h1, _⟩, h⟩ | ⟨g, s, hl, hm, ⟨h1, _⟩, h⟩ | ⟨g, s, g', s', hl, hm, ⟨h1, _⟩, ⟨h2, _⟩, hg, h⟩ | ⟨g, s, g', s', hl, hm, ⟨h1, _⟩, ⟨h2, _⟩, hg, h⟩
  all_goals rw [h]
  all_goals simp only [turn0, turn1]
  all_goals rw [hz]
  · rw [hm, f00]; exact ⟨rfl, rfl⟩
  · rw [hm, f01 h1]; exact ⟨rfl, rfl⟩
  · rw [hl, f10 h1]; exact ⟨rfl, rfl⟩
  · rw [hm, f01 h2]; exact ⟨rfl, rfl⟩
  · rw [hl, f10 h1]; exact ⟨rfl, rfl⟩
end M
end Go.Proofs.YtpoolpckabpnfaaGreat
