/-
  A witness as plain mathematics: what a cell's text says; what a message does.
  A witness on a device with or without a fuse, behind crashes in which no sector tears: what may lie there.
  A witness in memory, with its device and its cell; its timer.
  The map of epochs and who was granted them, as a function.
  What was granted goes with what a witness says.
-/
import Derived.Test.YtpoolpckabpnfaaMlMath
import Derived.Test.YtpoolpckabpnfaaCel8
namespace Go.Proofs.Ytpoolpckabpnfaa.Wt
open C (str)
open C.M (Rc enc dec May Fits fits)
open Ml (Mg may)
set_option linter.unusedVariables false
set_option linter.unusedSimpArgs false

def big : Int := 4611686018427387904
/-- what a cell's text says: the epoch, who holds it, who is in sync, the last change -/
structure Fx where
  ep : Int
  ho : Int
  ma : Int
  ch : Int
deriving DecidableEq
instance : Inhabited Fx := ⟨⟨0, -1, 3, 0⟩⟩
def Fx.zero : Fx := ⟨0, -1, 3, 0⟩
def Fx.Ok (x : Fx) : Prop := (0 ≤ x.ep ∧ x.ep ≤ big) ∧ (-1 ≤ x.ho ∧ x.ho ≤ 1) ∧ (1 ≤ x.ma ∧ x.ma ≤ 3) ∧ (0 ≤ x.ch ∧ x.ch ≤ big)
instance (x : Fx) : Decidable x.Ok := by unfold Fx.Ok; infer_instance
theorem Fx.zero_ok : Fx.zero.Ok := by decide
def fxN (l : List Int) : Fx := ⟨l.getD 0 0, l.getD 1 0, l.getD 2 0, l.getD 3 0⟩
/-- is it such a record? -/
def recOk (r : Rc) : Prop := r.kind = 40 ∧ r.nums.length = 4 ∧ r.texts.length = 0 ∧ (fxN r.nums).Ok
instance (r : Rc) : Decidable (recOk r) := by unfold recOk; infer_instance
def fxR : Option Rc → Fx
  | some r => if recOk r then fxN r.nums else Fx.zero
  | none => Fx.zero
/-- what a text says -/
def fx (s : ByteArray) : Fx := fxR (dec s.data.toList)
theorem fx_ok (s : ByteArray) : (fx s).Ok := by
  unfold fx fxR
  split
  · split
    · rename_i h; exact h.2.2.2
    · exact Fx.zero_ok
  · exact Fx.zero_ok
def fxRec (x : Fx) : Rc := ⟨40, [x.ep, x.ho, x.ma, x.ch], []⟩
def fxT (x : Fx) : ByteArray := str (enc (fxRec x))
theorem fits_in {x : Int} (h : -1 ≤ x ∧ x ≤ big) : fits x := by simp only [big] at h; simp only [fits]; omega
theorem fx_may {x : Fx} (h : x.Ok) : May (fxRec x) ∧ Fits (fxRec x) := by
  obtain ⟨h1, h2, h3, h4⟩ := h
  refine ⟨⟨by simp [fxRec], by simp [fxRec], by simp [fxRec], by simp [fxRec], by simp [fxRec]⟩, fun y hy => ?_⟩
  simp [fxRec] at hy
  simp only [big] at *
  rcases hy with rfl | rfl | rfl | rfl <;> apply fits_in <;> simp only [big] <;> omega
theorem str_list (l : List UInt8) : (str l).data.toList = l := by simp [str]
theorem str_size (l : List UInt8) : (str l).size = l.length := by simp [str, ByteArray.size]
theorem fx_fxT {x : Fx} (h : x.Ok) : fx (fxT x) = x := by
  obtain ⟨h1, h2⟩ := fx_may h
  unfold fx fxT
  rw [str_list, C.M.dec_enc h1 h2]
  have : recOk (fxRec x) := ⟨rfl, rfl, rfl, h⟩
  show (if recOk (fxRec x) then fxN (fxRec x).nums else Fx.zero) = x
  rw [if_pos this]
  rfl
theorem num_sum (l : List Int) : (l.map fun n => (C.M.num n).length).sum ≤ l.length * 10 := C.M.sum_le l _ 10 fun x _ => (C.M.num_len x).2
theorem fxT_small (x : Fx) : (fxT x).size ≤ 100 := by
  have h := num_sum (fxRec x).nums
  unfold fxT
  rw [str_size, C.M.enc_len]
  simp [fxRec] at h ⊢
  omega
theorem dec_nil : dec ([] : List UInt8) = none := by rfl
theorem fx_empty : fx ⟨#[]⟩ = Fx.zero := by unfold fx; rw [show (⟨#[]⟩ : ByteArray).data.toList = [] from rfl, dec_nil]; rfl

/-- is a node in a mask? -/
def inM (ma fr : Int) : Bool := if fr = 0 then decide (ma % 2 = 1) else decide (fr = 1) && decide (ma / 2 = 1)
/-- a mask without a node that has lost all -/
def lostM (ma fr : Int) : Int := if ma = 3 then 2 - fr else ma
def isNode (fr : Int) : Bool := decide (0 ≤ fr) && decide (fr ≤ 1)
/-- is that asked for longer? -/
def longer (x : Fx) (fr : Int) (m : Mg) : Bool := decide (x.ho = fr) && (decide (m.seq = 0) && decide (m.epoch = x.ep))
/-- what an ask comes to: an error, or what is put -/
def askP (x : Fx) (L fr : Int) (m : Mg) : Int × Option Fx :=
  if inM x.ma fr = false then (20, none) else if longer x fr m = true then (0, none) else if x.ho ≠ fr ∧ 0 < L then (25, none) else if x.ep = big then (22, none) else (0, some ⟨x.ep + 1, fr, x.ma, 0⟩)
def chaP (x : Fx) (fr : Int) (m : Mg) : Int × Option Fx :=
  if x.ho ≠ fr ∨ m.epoch ≠ x.ep then (20, none) else if (m.seq < 1 ∨ 3 < m.seq) ∨ inM m.seq fr = false then (1, none) else if m.n ≤ x.ch then (0, none) else (0, some ⟨x.ep, x.ho, m.seq, m.n⟩)
def losP (x : Fx) (fr : Int) : Int × Option Fx := (0, some ⟨x.ep, -1, lostM x.ma fr, x.ch⟩)
def takP (x : Fx) (L fr : Int) (m : Mg) : Int × Option Fx := if m.kind = 1 then askP x L fr m else if m.kind = 3 then chaP x fr m else losP x fr
def kindOk (k : Int) : Bool := decide (k = 1) || (decide (k = 3) || decide (k = 4))
/-- is a message looked at? -/
def can (fr : Int) (m : Mg) : Bool := kindOk m.kind && (isNode fr && may m)

/-- what is put is what may be -/
theorem lostM_in {ma fr : Int} (hf : 0 ≤ fr ∧ fr ≤ 1) (h : 1 ≤ ma ∧ ma ≤ 3) : 1 ≤ lostM ma fr ∧ lostM ma fr ≤ 3 := by unfold lostM; split <;> omega
theorem askP_ok {x : Fx} (hx : x.Ok) {L fr : Int} (hf : 0 ≤ fr ∧ fr ≤ 1) {m : Mg} {y : Fx} (h : (askP x L fr m).2 = some y) : y.Ok ∧ y = ⟨x.ep + 1, fr, x.ma, 0⟩ ∧ inM x.ma fr = true := by
  obtain ⟨h1, h2, h3, h4⟩ := hx
  unfold askP at h
  repeat' split at h
  all_goals first
    | (simp at h; done)
    | (simp at h
       subst h
       rename_i a1 a2 a3 a4
       refine ⟨⟨?_, ?_, h3, ?_⟩, rfl, by simpa using a1⟩ <;> simp only [big] at * <;> omega)
theorem chaP_ok {x : Fx} (hx : x.Ok) {fr : Int} {m : Mg} (hm : may m = true) {y : Fx} (h : (chaP x fr m).2 = some y) : y.Ok ∧ y = ⟨x.ep, x.ho, m.seq, m.n⟩ ∧ x.ho = fr := by
  obtain ⟨h1, h2, h3, h4⟩ := hx
  obtain ⟨_, m1, m2, m3, _⟩ := (Ml.may_iff m).1 hm
  have hb : Ml.big = big := rfl
  rw [hb] at m1 m2 m3
  unfold chaP at h
  repeat' split at h
  all_goals first
    | (simp at h; done)
    | (simp at h
       subst h
       rename_i a1 a2 a3
       refine ⟨⟨h1, h2, ?_, ?_⟩, rfl, ?_⟩
       · simp only; omega
       · simp only; omega
       · omega)
theorem losP_ok {x : Fx} (hx : x.Ok) {fr : Int} (hf : 0 ≤ fr ∧ fr ≤ 1) {y : Fx} (h : (losP x fr).2 = some y) : y.Ok ∧ y = ⟨x.ep, -1, lostM x.ma fr, x.ch⟩ := by
  obtain ⟨h1, h2, h3, h4⟩ := hx
  unfold losP at h
  simp at h
  subst h
  exact ⟨⟨h1, by simp only; omega, lostM_in hf h3, h4⟩, rfl⟩
theorem isNode_iff (fr : Int) : isNode fr = true ↔ 0 ≤ fr ∧ fr ≤ 1 := by simp [isNode]
theorem can_iff (fr : Int) (m : Mg) : can fr m = true ↔ (m.kind = 1 ∨ m.kind = 3 ∨ m.kind = 4) ∧ (0 ≤ fr ∧ fr ≤ 1) ∧ may m = true := by simp [can, kindOk, isNode]
theorem takP_ok {x : Fx} (hx : x.Ok) {L fr : Int} {m : Mg} (hc : can fr m = true) {y : Fx} (h : (takP x L fr m).2 = some y) : y.Ok := by
  obtain ⟨hk, hf, hm⟩ := (can_iff fr m).1 hc
  unfold takP at h
  split at h
  · exact (askP_ok hx hf h).1
  · split at h
    · exact (chaP_ok hx hm h).1
    · exact (losP_ok hx hf h).1

/-- what comes of it -/
def doE (n a b : Nat) (d : M.Dv) (c : M.Cl) (p : Int × Option Fx) : Int := match p.2 with
  | some y => M.puE n d a b c (fxT y)
  | none => p.1
def doD (n a b : Nat) (d : M.Dv) (c : M.Cl) (p : Int × Option Fx) : M.Dv := match p.2 with
  | some y => M.puD n d a b c (fxT y)
  | none => d
def doC (n a b : Nat) (d : M.Dv) (c : M.Cl) (p : Int × Option Fx) : M.Cl := match p.2 with
  | some y => M.puC n d a b c (fxT y)
  | none => c
def takE (n a b : Nat) (d : M.Dv) (c : M.Cl) (L fr : Int) (m : Mg) : Int := doE n a b d c (takP (fx c.text) L fr m)
def takD (n a b : Nat) (d : M.Dv) (c : M.Cl) (L fr : Int) (m : Mg) : M.Dv := if can fr m = true then doD n a b d c (takP (fx c.text) L fr m) else d
def takC (n a b : Nat) (d : M.Dv) (c : M.Cl) (L fr : Int) (m : Mg) : M.Cl := if can fr m = true then doC n a b d c (takP (fx c.text) L fr m) else c
def takL (n a b : Nat) (d : M.Dv) (c : M.Cl) (L W fr : Int) (m : Mg) : Int := if can fr m = true ∧ m.kind = 1 ∧ takE n a b d c L fr m = 0 then W else L
def takI (n a b : Nat) (d : M.Dv) (c : M.Cl) (L fr : Int) (m : Mg) : Bool := can fr m && !decide (takE n a b d c L fr m = 30)
def ansK (k : Int) : Int := if k = 1 then 2 else k
def ansA (x : Fx) (m : Mg) (e : Int) : Mg := ⟨ansK m.kind, x.ep, x.ma, m.n, -1, x.ho, e, 0, 0, 0, 0, ⟨#[]⟩, ⟨#[]⟩⟩
def takA (n a b : Nat) (d : M.Dv) (c : M.Cl) (L fr : Int) (m : Mg) : Mg :=
  if takI n a b d c L fr m = true then ansA (fx (takC n a b d c L fr m).text) m (takE n a b d c L fr m) else Ml.nil

/-- what a put makes of the cell -/
theorem do_ways {n a b : Nat} {d : M.Dv} {c : M.Cl} (hg : 0 ≤ c.gen ∧ c.gen ≤ 4611686018427387904) (ho : c.o ≤ 1) (ht : c.text.size ≤ 100) (p : Int × Option Fx) :
    (doC n a b d c p).o ≤ 1 ∧ (0 ≤ (doC n a b d c p).gen ∧ (doC n a b d c p).gen ≤ 4611686018427387904) ∧ (doC n a b d c p).text.size ≤ 100 := by
  obtain ⟨e, q⟩ := p
  cases q with
  | none => exact ⟨ho, hg, ht⟩
  | some y =>
    simp only [doC]
    rcases M.pu_ways n d a b c (fxT y) hg.2 with ⟨_, h, h2⟩ | ⟨_, h⟩ <;> rw [h]
    · exact ⟨by simp only; omega, by simp only; omega, fxT_small y⟩
    · exact ⟨ho, hg, ht⟩
end Go.Proofs.Ytpoolpckabpnfaa.Wt
namespace Go.Proofs.Ytpoolpckabpnfaa
set_option linter.unusedVariables false
set_option linter.unusedSimpArgs false
namespace M
/-! what a device with a fuse does -/
theorem write_ways {d : Dv} {n i : Nat} {l : List UInt8} (hi : i < n) (hl : l.length ≤ 144) :
    (d.dead = false ∧ writeE n d i l = 0 ∧ (writeD n d i l).dead = false ∧ (writeD n d i l).S = d.S ∧ (writeD n d i l).P = upd d.P i (pad l)) ∨
    (writeE n d i l = 30 ∧ (writeD n d i l).dead = true ∧ (writeD n d i l).S = d.S ∧ (writeD n d i l).P = d.P) := by
  unfold writeE writeD
  cases hd : d.dead with
  | true =>
    have hr : reach n d (i : Int) = 30 := by unfold reach; rw [hd, if_pos rfl]
    right
    rw [hr, if_neg (by decide), if_neg (by decide)]
    exact ⟨rfl, hd, rfl, rfl⟩
  | false =>
    have hr : reach n d (i : Int) = 0 := by unfold reach; rw [hd, if_neg (by simp), if_neg (by omega)]
    rw [hr, if_pos rfl, if_pos rfl, if_neg (by omega), if_neg (by omega)]
    unfold actE
    by_cases hf : d.fuse = 0
    · right
      rw [if_pos hf, if_pos hf]
      refine ⟨rfl, ?_, act_S d, act_P d⟩
      unfold actD; rw [if_pos hf]
    · left
      rw [if_neg hf, if_neg hf]
      refine ⟨rfl, rfl, ?_, ?_, rfl⟩
      · show (actD d).dead = false
        unfold actD; rw [if_neg hf]; split <;> exact hd
      · exact act_S d
theorem barrier_ways (d : Dv) :
    (d.dead = false ∧ barrierE d = 0 ∧ (barrierD d).dead = false ∧ (∀ j, (barrierD d).S j = seen d j) ∧ (∀ k, (barrierD d).P k = none)) ∨
    (barrierE d = 30 ∧ (barrierD d).dead = true ∧ (barrierD d).S = d.S ∧ (barrierD d).P = d.P) := by
  by_cases hd : d.dead = true
  · have e1 : barrierE d = 30 := by unfold barrierE; rw [if_pos hd]
    have e2 : barrierD d = d := by unfold barrierD; rw [if_pos hd]
    right
    rw [e1, e2]
    exact ⟨rfl, hd, rfl, rfl⟩
  · by_cases hf : d.fuse = 0
    · have e1 : barrierE d = 30 := by unfold barrierE actE; rw [if_neg hd, if_pos hf]
      have e2 : barrierD d = actD d := by unfold barrierD; rw [if_neg hd, if_pos hf]
      right
      rw [e1, e2]
      exact ⟨rfl, by unfold actD; rw [if_pos hf], act_S d, act_P d⟩
    · have e1 : barrierE d = 0 := by unfold barrierE actE; rw [if_neg hd, if_neg hf]
      have e2 : barrierD d = { actD d with S := sure d, P := fun _ => none } := by unfold barrierD; rw [if_neg hd, if_neg hf]
      left
      rw [e1, e2]
      refine ⟨by simpa using hd, rfl, ?_, fun j => rfl, fun k => rfl⟩
      show (actD d).dead = false
      unfold actD; rw [if_neg hf]; split <;> simpa using hd

/-- how the sectors may be when the power comes again -/
def Two (d : Dv) (S2 : Nat → List UInt8) : Prop := ∀ j : Nat, S2 j = d.S j ∨ S2 j = seen d j
theorem crash_two (P : Int → Option Sec) : ∀ (r : List Int) (l : List (Int × Int)) (S : Nat → Sec) (j : Nat), r.Pairwise (· < ·) → (∀ x ∈ l, x.1 = 0 ∨ x.1 = 1) → (∀ i s, P i = some s → s.length = 144) → (S j).length = 144 → crashS P S r l j = S j ∨ crashS P S r l j = (P j).getD (S j)
  | [], _, S, _, _, _, _, _ => .inl rfl
  | i :: r, [], S, _, _, _, _, _ => .inl rfl
  | i :: r, k :: l, S, j, h, hl, hP, hS => by
    obtain ⟨h1, h2⟩ := List.pairwise_cons.1 h
    simp only [crashS]
    by_cases e : (j : Int) = i
    · rw [crashS_out P r l _ j fun h' => by have := h1 _ h'; omega, if_pos e]
      have hg : ((P i).getD (S j)).length = 144 := by
        cases hp : P i with
        | none => simpa using hS
        | some s => simpa using hP i s hp
      rcases hl k (by simp) with h0 | h0
      · left
        rw [show keptN k.1 k.2 = 0 by unfold keptN; rw [h0]; rfl]
        exact mix_zero _ _
      · right
        rw [show keptN k.1 k.2 = 144 by unfold keptN; rw [h0]; rfl, e]
        unfold mix
        rw [List.take_of_length_le (by omega), List.drop_of_length_le (by omega), List.append_nil]
    · have := crash_two P r l (fun j => if (j : Int) = i then mix ((P i).getD (S j)) (S j) (keptN k.1 k.2) else S j) j h2 (fun x hx => hl x (List.mem_cons_of_mem _ hx)) hP (by rw [if_neg e]; exact hS)
      rwa [if_neg e] at this
theorem Two.crash {n : Nat} {d : Dv} (h : Wf n d) {l : List (Int × Int)} (hl : ∀ x ∈ l, x.1 = 0 ∨ x.1 = 1) : Two d (crashD n d l).S := fun j =>
  crash_two d.P (pendL n d.P) l d.S j (pendL_rising _ _) hl (fun i s hs => (h.pend i s hs).2.2) (h.len j)
end M
namespace Wt
open Go.RowKit
open Ml (Mg may)

/-- the cell that lies in these sectors -/
def cell2 (S : Nat → List UInt8) (a b : Nat) : M.Cl := M.found (M.rdS (S a)) (M.rdS (S b))
/-- what may be said next: never an elder epoch; in the same one it isn't another node's -/
def Suc (x y : Fx) : Prop := x.ep < y.ep ∨ (y.ep = x.ep ∧ (y.ho = x.ho ∨ y.ho = -1))
theorem Suc.refl (x : Fx) : Suc x x := .inr ⟨rfl, .inl rfl⟩

structure FI (n a b : Nat) (d : M.Dv) (c : M.Cl) : Prop where
  wf : M.Wf n d
  ab : a ≠ b ∧ a < n ∧ b < n
  pn : d.dead = false → ∀ k, d.P k = none
  fnd : c = cell2 d.S a b
  safe : ∀ S2, M.Two d S2 → Suc (fx c.text) (fx (cell2 S2 a b).text)

variable {n a b : Nat} {d d' : M.Dv} {c : M.Cl}
theorem FI.same (h : FI n a b d c) (hw : M.Wf n d') (hS : d'.S = d.S) (hP : d'.P = d.P) (hd : d'.dead = false → d.dead = false) : FI n a b d' c :=
  ⟨hw, h.ab, fun e => by rw [hP]; exact h.pn (hd e), by rw [hS]; exact h.fnd, fun S2 h2 => h.safe S2 fun j => by have := h2 j; unfold M.seen at this ⊢; rwa [hS, hP] at this⟩
theorem FI.there (h : FI n a b d c) (hd : d.dead = false) : M.found (M.rdS (M.seen d a)) (M.rdS (M.seen d b)) = c := by
  have hp := h.pn hd
  rw [h.fnd]; unfold cell2 M.seen; rw [hp, hp]; rfl

/-- the cell that is found where the sector that may be written is turned to the slot behind -/
theorem cell2_put {S S' : Nat → List UInt8} {a b : Nat} (hab : a ≠ b) {t : ByteArray} (hg : (cell2 S a b).gen < 4611686018427387904) (ht : t.size ≤ 100)
    (hS : ∀ j : Nat, S' j = if j = M.pos (cell2 S a b).o a b then M.pad (M.slot ((cell2 S a b).gen + 1) t) else S j) :
    cell2 S' a b = ⟨1 - (cell2 S a b).o, (cell2 S a b).gen + 1, t⟩ := by
  have ho : (cell2 S a b).o ≤ 1 := M.found_o _ _
  have hg2 := M.found_gen (S a) (S b)
  have hg3 : 0 ≤ (cell2 S a b).gen := hg2.1
  have hm : M.MayS ((cell2 S a b).gen + 1) t := ⟨by omega, by omega, ht⟩
  have key := M.found_put (l := S a) (m := S b) (z := M.pad (M.slot ((cell2 S a b).gen + 1) t)) (t := t) (M.rdS_pad hm)
  have e1 := hS a
  have e2 := hS b
  change M.found (M.rdS (M.turn (cell2 S a b).o _ _ _).1) (M.rdS (M.turn (cell2 S a b).o _ _ _).2) = ⟨1 - (cell2 S a b).o, (cell2 S a b).gen + 1, t⟩ at key
  unfold cell2 at e1 e2 ⊢
  generalize hc : M.found (M.rdS (S a)) (M.rdS (S b)) = c at *
  have hcc : cell2 S a b = c := hc
  rw [hcc] at key ho
  rw [e1, e2]
  by_cases h0 : c.o = 0
  · rw [h0] at key ⊢
    simp only [M.pos, if_true, M.turn0] at key ⊢
    rw [if_neg (Ne.symm hab)]
    exact key
  · have h1 : c.o = 1 := by omega
    rw [h1] at key ⊢
    simp only [M.pos, M.turn1, show ¬ (1 = 0) by omega, if_false, if_true] at key ⊢
    rw [if_neg hab]
    exact key

theorem FI.put (h : FI n a b d c) {y : Fx} (hy : y.Ok) (hsu : Suc (fx c.text) y) :
    FI n a b (M.puD n d a b c (fxT y)) (M.puC n d a b c (fxT y)) ∧ ((M.puE n d a b c (fxT y) = 0 ∧ M.puC n d a b c (fxT y) = ⟨1 - c.o, c.gen + 1, fxT y⟩) ∨ ((M.puE n d a b c (fxT y) = 23 ∨ M.puE n d a b c (fxT y) = 30) ∧ M.puC n d a b c (fxT y) = c)) := by
  obtain ⟨hab, ha, hb⟩ := h.ab
  have hck := h.fnd
  have ht := fxT_small y
  have hty := fx_fxT hy
  generalize fxT y = t at *
  by_cases hne : c.gen = 4611686018427387904
  · have e1 : M.puE n d a b c t = 23 := by unfold M.puE; rw [if_pos hne]
    have e2 : M.puD n d a b c t = d := by unfold M.puD; rw [if_pos hne]
    have e3 : M.puC n d a b c t = c := by unfold M.puC; rw [if_pos hne]
    rw [e1, e2, e3]
    exact ⟨h, .inr ⟨.inl rfl, rfl⟩⟩
  · have ho : c.o ≤ 1 := by rw [hck]; exact M.found_o _ _
    have hg0 : 0 ≤ c.gen ∧ c.gen ≤ 4611686018427387904 := by rw [hck]; exact M.found_gen _ _
    have hg : (cell2 d.S a b).gen < 4611686018427387904 := by rw [← hck]; omega
    have hm : M.MayS (c.gen + 1) t := ⟨by omega, by omega, ht⟩
    have hp : M.pos c.o a b < n := by unfold M.pos; split <;> omega
    have eE : M.puE n d a b c t = M.putE n d (M.pos c.o a b) (M.slot (c.gen + 1) t) := by unfold M.puE; rw [if_neg hne]
    have eD : M.puD n d a b c t = M.putD n d (M.pos c.o a b) (M.slot (c.gen + 1) t) := by unfold M.puD; rw [if_neg hne]
    have eC : M.puC n d a b c t = M.putC (M.putE n d (M.pos c.o a b) (M.slot (c.gen + 1) t)) c t := by unfold M.puC; rw [if_neg hne]
    have hl : (M.slot (c.gen + 1) t).length ≤ 144 := by have := M.slot_small hm; omega
    have hw1 := M.write_wf h.wf (M.pos c.o a b : Nat) (M.slot (c.gen + 1) t)
    rw [eE, eD, eC]
    unfold M.putE M.putD
    rcases M.write_ways (d := d) hp hl with ⟨w1, w2, w3, w4, w5⟩ | ⟨w2, w3, w4, w5⟩
    · rw [w2, if_pos rfl, if_pos rfl]
      have hpn := h.pn w1
      have hsn : ∀ j : Nat, M.seen (M.writeD n d (M.pos c.o a b : Nat) (M.slot (c.gen + 1) t)) j = if j = M.pos c.o a b then M.pad (M.slot (c.gen + 1) t) else d.S j := by
        intro j
        unfold M.seen
        rw [w4, w5]
        unfold M.upd
        by_cases hj : j = M.pos c.o a b
        · rw [if_pos (by omega), if_pos hj]; rfl
        · rw [if_neg (by omega), if_neg hj, hpn]; rfl
      generalize M.writeD n d (M.pos c.o a b : Nat) (M.slot (c.gen + 1) t) = d1 at *
      rcases M.barrier_ways d1 with ⟨b1, b2, b3, b4, b5⟩ | ⟨b2, b3, b4, b5⟩
      · rw [b2, M.putC_ok]
        have hSS : ∀ j : Nat, (M.barrierD d1).S j = if j = M.pos c.o a b then M.pad (M.slot (c.gen + 1) t) else d.S j := fun j => by rw [b4, hsn]
        have hfn : (⟨1 - c.o, c.gen + 1, t⟩ : M.Cl) = cell2 (M.barrierD d1).S a b := by
          have := cell2_put (S := d.S) (S' := (M.barrierD d1).S) hab hg ht (by rw [← hck]; exact hSS)
          rw [← hck] at this
          exact this.symm
        refine ⟨⟨M.barrier_wf hw1, h.ab, fun _ => b5, hfn, fun S2 h2 => ?_⟩, .inl ⟨rfl, rfl⟩⟩
        have e0 : cell2 S2 a b = cell2 (M.barrierD d1).S a b := by
          have hh : ∀ j : Nat, S2 j = (M.barrierD d1).S j := fun j => by
            rcases h2 j with e | e
            · exact e
            · rw [e]; unfold M.seen; rw [b5]; rfl
          unfold cell2
          rw [hh, hh]
        rw [e0, ← hfn]
        exact Suc.refl _
      · have hn0 : M.putC 30 c t = c := by unfold M.putC; rw [if_neg (by omega)]
        rw [b2, hn0]
        refine ⟨⟨M.barrier_wf hw1, h.ab, fun e => ?_, ?_, fun S2 h2 => ?_⟩, .inr ⟨.inr rfl, rfl⟩⟩
        · rw [b3] at e; simp at e
        · rw [b4, w4]; exact h.fnd
        · have hh : ∀ j : Nat, S2 j = d.S j ∨ (j = M.pos c.o a b ∧ S2 j = M.pad (M.slot (c.gen + 1) t)) := fun j => by
            rcases h2 j with e | e
            · rw [b4, w4] at e; exact .inl e
            · have e' : S2 j = M.seen d1 j := by rw [e]; unfold M.seen; rw [b4, b5]
              rw [hsn] at e'
              by_cases hj : j = M.pos c.o a b
              · rw [if_pos hj] at e'; exact .inr ⟨hj, e'⟩
              · rw [if_neg hj] at e'; exact .inl e'
          rcases hh (M.pos c.o a b) with e | ⟨_, e⟩
          · refine h.safe S2 fun j => .inl ?_
            rcases hh j with e2 | ⟨e2, _⟩
            · exact e2
            · rw [e2]; exact e
          · have hx : ∀ j : Nat, S2 j = if j = M.pos (cell2 d.S a b).o a b then M.pad (M.slot ((cell2 d.S a b).gen + 1) t) else d.S j := by
              rw [← hck]
              intro j
              by_cases hj : j = M.pos c.o a b
              · rw [if_pos hj, hj]; exact e
              · rw [if_neg hj]
                rcases hh j with e2 | ⟨e2, _⟩
                · exact e2
                · exact absurd e2 hj
            rw [cell2_put hab hg ht hx, hty]
            exact hsu
    · have hn0 : M.putC 30 c t = c := by unfold M.putC; rw [if_neg (by omega)]
      rw [w2, if_neg (by decide), if_neg (by decide), hn0]
      refine ⟨h.same hw1 w4 w5 fun e => ?_, .inr ⟨.inr rfl, rfl⟩⟩
      rw [w3] at e; simp at e

/-- what is put may be said next -/
theorem takP_suc {x : Fx} (hx : x.Ok) {L fr : Int} {m : Mg} (hc : can fr m = true) {y : Fx} (h : (takP x L fr m).2 = some y) : Suc x y := by
  obtain ⟨hk, hf, hm⟩ := (can_iff fr m).1 hc
  unfold takP at h
  split at h
  · obtain ⟨_, rfl, _⟩ := askP_ok hx hf h
    exact .inl (by simp only; omega)
  · split at h
    · obtain ⟨_, rfl, _⟩ := chaP_ok hx hm h
      exact .inr ⟨rfl, .inl rfl⟩
    · obtain ⟨_, rfl⟩ := losP_ok hx hf h
      exact .inr ⟨rfl, .inr rfl⟩

/-- a message that comes -/
theorem FI.take (h : FI n a b d c) (L fr : Int) (m : Mg) :
    FI n a b (takD n a b d c L fr m) (takC n a b d c L fr m) ∧
      ((fx (takC n a b d c L fr m).text = fx c.text ∧ (∀ y, can fr m = true → (takP (fx c.text) L fr m).2 = some y → takE n a b d c L fr m = 23 ∨ takE n a b d c L fr m = 30)) ∨
        (can fr m = true ∧ takE n a b d c L fr m = 0 ∧ (takP (fx c.text) L fr m).2 = some (fx (takC n a b d c L fr m).text))) := by
  cases hc : can fr m with
  | false =>
    have e1 : takD n a b d c L fr m = d := by unfold takD; rw [if_neg (by simp [hc])]
    have e2 : takC n a b d c L fr m = c := by unfold takC; rw [if_neg (by simp [hc])]
    rw [e1, e2]
    exact ⟨h, .inl ⟨rfl, fun _ h0 => by simp at h0⟩⟩
  | true =>
    have e1 : takD n a b d c L fr m = doD n a b d c (takP (fx c.text) L fr m) := by unfold takD; rw [if_pos hc]
    have e2 : takC n a b d c L fr m = doC n a b d c (takP (fx c.text) L fr m) := by unfold takC; rw [if_pos hc]
    rw [e1, e2]
    unfold takE
    have hy := fun y => @takP_ok (fx c.text) (fx_ok _) L fr m hc y
    have hs := fun y => @takP_suc (fx c.text) (fx_ok _) L fr m hc y
    generalize takP (fx c.text) L fr m = p at *
    obtain ⟨e, q⟩ := p
    cases q with
    | none => exact ⟨h, .inl ⟨rfl, fun y _ h0 => by simp at h0⟩⟩
    | some y =>
      have hyo := hy y rfl
      obtain ⟨p1, p2⟩ := h.put hyo (hs y rfl)
      simp only [doD, doC, doE]
      refine ⟨p1, ?_⟩
      rcases p2 with ⟨q1, q2⟩ | ⟨q1, q2⟩
      · right
        rw [q2]
        exact ⟨trivial, q1, by simp only; rw [fx_fxT hyo]⟩
      · left
        rw [q2]
        exact ⟨rfl, fun _ _ _ => q1⟩

/-- the power goes, and no sector tears -/
theorem FI.crash (h : FI n a b d c) {l : List (Int × Int)} (hl : ∀ x ∈ l, x.1 = 0 ∨ x.1 = 1) :
    FI n a b (M.crashD n d l) (M.found (M.rdS (M.seen (M.crashD n d l) a)) (M.rdS (M.seen (M.crashD n d l) b))) ∧ Suc (fx c.text) (fx (M.found (M.rdS (M.seen (M.crashD n d l) a)) (M.rdS (M.seen (M.crashD n d l) b))).text) ∧ (M.crashD n d l).dead = false := by
  have hp : ∀ k, (M.crashD n d l).P k = none := fun _ => rfl
  have ht : M.found (M.rdS (M.seen (M.crashD n d l) a)) (M.rdS (M.seen (M.crashD n d l) b)) = cell2 (M.crashD n d l).S a b := rfl
  rw [ht]
  refine ⟨⟨M.crash_wf h.wf l, h.ab, fun _ => hp, rfl, fun S2 h2 => ?_⟩, h.safe _ (M.Two.crash h.wf hl), rfl⟩
  have e0 : cell2 S2 a b = cell2 (M.crashD n d l).S a b := by
    have hh : ∀ j : Nat, S2 j = (M.crashD n d l).S j := fun j => by
      rcases h2 j with e | e
      · exact e
      · rw [e]; rfl
    unfold cell2
    rw [hh, hh]
  rw [e0]
  exact Suc.refl _
theorem FI.fuse (h : FI n a b d c) {k : Int} (hk : -9223372036854775808 ≤ k ∧ k ≤ 9223372036854775807) : FI n a b (M.fuseD d k) c :=
  h.same ⟨h.wf.len, h.wf.pend, hk.1, hk.2⟩ rfl rfl (fun e => e)
theorem fi_fresh (n a b : Nat) (hab : a ≠ b ∧ a < n ∧ b < n) : FI n a b M.fresh M.none0 := by
  have hp : ∀ k, M.fresh.P k = none := fun _ => rfl
  have hf : M.none0 = cell2 M.fresh.S a b := by
    show M.none0 = M.found (M.rdS M.zero) (M.rdS M.zero)
    exact found_zero.symm
  refine ⟨M.fresh_wf n, hab, fun _ => hp, hf, fun S2 h2 => ?_⟩
  have e0 : cell2 S2 a b = cell2 M.fresh.S a b := by
    have hh : ∀ j : Nat, S2 j = M.fresh.S j := fun j => by
      rcases h2 j with e | e
      · exact e
      · rw [e]; rfl
    unfold cell2
    rw [hh, hh]
  rw [e0, ← hf]
  exact Suc.refl _
theorem fx_none0 : fx M.none0.text = Fx.zero := fx_empty

/-! ## without failures -/
structure FR (n a b : Nat) (g : Int) (d : M.Dv) (c : M.Cl) : Prop where
  fi : FI n a b d c
  fr : Free d
  gn : c.gen ≤ g
theorem FR.mono {g g' : Int} (h : FR n a b g d c) (hg : g ≤ g') : FR n a b g' d c := ⟨h.fi, h.fr, by have := h.gn; omega⟩
theorem FR.put {g : Int} (h : FR n a b g d c) (hg : g < 4611686018427387904) {y : Fx} (hy : y.Ok) (hsu : Suc (fx c.text) y) :
    M.puE n d a b c (fxT y) = 0 ∧ M.puC n d a b c (fxT y) = ⟨1 - c.o, c.gen + 1, fxT y⟩ ∧ FR n a b (g + 1) (M.puD n d a b c (fxT y)) (M.puC n d a b c (fxT y)) := by
  obtain ⟨hab, ha, hb⟩ := h.fi.ab
  obtain ⟨p1, p2⟩ := h.fi.put hy hsu
  have hck := h.fi.fnd
  have hgn := h.gn
  have hg0 : 0 ≤ c.gen := by rw [hck]; exact (M.found_gen _ _).1
  have hne : ¬ c.gen = 4611686018427387904 := by omega
  have hm : M.MayS (c.gen + 1) (fxT y) := ⟨by omega, by omega, fxT_small y⟩
  have hp : M.pos c.o a b < n := by unfold M.pos; split <;> omega
  obtain ⟨q1, q2, q3, q4⟩ := put_free h.fr h.fi.wf hp (l := M.slot (c.gen + 1) (fxT y)) (by have := M.slot_small hm; omega)
  have eE : M.puE n d a b c (fxT y) = 0 := by unfold M.puE; rw [if_neg hne]; exact q1
  have eD : M.puD n d a b c (fxT y) = M.putD n d (M.pos c.o a b) (M.slot (c.gen + 1) (fxT y)) := by unfold M.puD; rw [if_neg hne]
  rcases p2 with ⟨_, q⟩ | ⟨q, _⟩
  · refine ⟨eE, q, p1, by rw [eD]; exact q2, ?_⟩
    rw [q]; simp only; omega
  · omega
theorem FR.take {g : Int} (h : FR n a b g d c) (hg : g < 4611686018427387904) (L fr : Int) (m : Mg) :
    FR n a b (g + 1) (takD n a b d c L fr m) (takC n a b d c L fr m) ∧ (can fr m = true → takE n a b d c L fr m = (takP (fx c.text) L fr m).1 ∨ takE n a b d c L fr m = 0) ∧
      (∀ y, can fr m = true → (takP (fx c.text) L fr m).2 = some y → takE n a b d c L fr m = 0 ∧ fx (takC n a b d c L fr m).text = y) ∧
      (can fr m = true → (takP (fx c.text) L fr m).2 = none → takE n a b d c L fr m = (takP (fx c.text) L fr m).1 ∧ fx (takC n a b d c L fr m).text = fx c.text) := by
  cases hc : can fr m with
  | false =>
    have e1 : takD n a b d c L fr m = d := by unfold takD; rw [if_neg (by simp [hc])]
    have e2 : takC n a b d c L fr m = c := by unfold takC; rw [if_neg (by simp [hc])]
    rw [e1, e2]
    exact ⟨h.mono (by omega), by simp, by simp, by simp⟩
  | true =>
    have e1 : takD n a b d c L fr m = doD n a b d c (takP (fx c.text) L fr m) := by unfold takD; rw [if_pos hc]
    have e2 : takC n a b d c L fr m = doC n a b d c (takP (fx c.text) L fr m) := by unfold takC; rw [if_pos hc]
    rw [e1, e2]
    unfold takE
    have hy := fun y => @takP_ok (fx c.text) (fx_ok _) L fr m hc y
    have hs := fun y => @takP_suc (fx c.text) (fx_ok _) L fr m hc y
    generalize takP (fx c.text) L fr m = p at *
    obtain ⟨e, q⟩ := p
    cases q with
    | none =>
      simp only [doD, doC, doE]
      exact ⟨h.mono (by omega), fun _ => .inl trivial, fun _ _ h0 => by simp at h0, fun _ _ => ⟨trivial, trivial⟩⟩
    | some y =>
      have hyo := hy y rfl
      obtain ⟨p1, p2, p3⟩ := h.put hg hyo (hs y rfl)
      simp only [doD, doC, doE]
      refine ⟨p3, fun _ => .inr p1, fun z _ hz => ?_, fun _ h0 => by simp at h0⟩
      injection hz with hz
      subst hz
      exact ⟨p1, by rw [p2]; exact fx_fxT hyo⟩
theorem fr_fresh (n a b : Nat) (hab : a ≠ b ∧ a < n ∧ b < n) : FR n a b 0 M.fresh M.none0 := ⟨fi_fresh n a b hab, Free.fresh, by simp [M.none0]⟩
end Wt
end Go.Proofs.Ytpoolpckabpnfaa
namespace Go.Proofs.Ytpoolpckabpnfaa.Wt
open Go.RowKit
open Ml (Mg may)
set_option linter.unusedVariables false
set_option linter.unusedSimpArgs false
set_option maxRecDepth 20000

variable {dB sB mB n : Nat} {d : M.Dv}

/-- a block, whole -/
def Bo (w : World) (g : Nat) (cs : Array Value) (t : TypeId) : Prop := w.heap[g]? = some (.cells cs t (0, 0))
theorem Bo.lt {w : World} {g : Nat} {cs : Array Value} {t : TypeId} (h : Bo w g cs t) : g < w.heap.size := (Array.getElem?_eq_some_iff.1 h).1
theorem Bo.new (w : World) (cs : Array Value) (t : TypeId) : Bo (w.alloc (.cells cs t)) w.heap.size cs t := heap_alloc_new w _
theorem Bo.below {w w' : World} {g : Nat} {cs : Array Value} {t : TypeId} (h : Bo w g cs t) {B : Nat} (hb : Below B w w') (hB : g < B) : Bo w' g cs t := by
  unfold Bo; rw [hb.block _ hB]; exact h
theorem Bo.but {w w' : World} {g : Nat} {cs : Array Value} {t : TypeId} (h : Bo w g cs t) {l : List Nat} (hb : But l w w') (hn : g ∉ l) : Bo w' g cs t := by
  unfold Bo; rw [hb.block _ h.lt hn]; exact h
theorem Bo.of_block {w w' : World} {g : Nat} {cs : Array Value} {t : TypeId} (h : Bo w g cs t) (hb : w'.heap[g]? = w.heap[g]?) : Bo w' g cs t := by
  unfold Bo; rw [hb]; exact h
theorem Bo.other {w : World} {g : Nat} {cs : Array Value} {t : TypeId} (h : Bo w g cs t) {p : Addr} (hp : p.block ≠ g) (v : Value) : Bo (w.setCell p v) g cs t :=
  h.of_block (by simp [World.setCell, Array.getElem?_modify, hp])
theorem Bo.cell {w : World} {g : Nat} {cs : Array Value} {t : TypeId} (h : Bo w g cs t) (o : Nat) : w.cell? ⟨g, o, none⟩ = cs[o]? := by unfold Bo at h; simp [World.cell?, h]
theorem Bo.fz {w : World} {g : Nat} {cs : Array Value} {t : TypeId} (h : Bo w g cs t) (o : Nat) : w.frozen? ⟨g, o, none⟩ = false := by unfold Bo at h; simp [World.frozen?, h]
theorem Bo.set {w : World} {g : Nat} {cs : Array Value} {t : TypeId} (h : Bo w g cs t) (o : Nat) (v : Value) : Bo (w.setCell ⟨g, o, none⟩ v) g (cs.setIfInBounds o v) t := by
  unfold Bo at h ⊢
  simp [World.setCell, Array.getElem?_modify, h]

/-! ## a timer, wherever it lies -/
def left (n : Int) : Int := max n 0
theorem on_at {w : World} {g o : Nat} {x : Int} (h : w.cell? ⟨g, o, none⟩ = some (.int .i64 x)) : Calls Try.prog 42 #[.pointer (some ⟨g, o, none⟩)] w fun e w' => e = .returned (.bool (decide (0 < x))) ∧ w = w' := by
  go_enter Try.func42, Try.ntmps42
  go_wp2
  go_ret
  exact ⟨rfl, rfl⟩
theorem left_at {w : World} {g o : Nat} {x : Int} (h : w.cell? ⟨g, o, none⟩ = some (.int .i64 x)) : Calls Try.prog 27 #[.pointer (some ⟨g, o, none⟩)] w fun e w' => e = .returned (.int .i64 x) ∧ w = w' := by
  go_enter Try.func27, Try.ntmps27
  go_wp2
  go_ret
  exact ⟨rfl, rfl⟩
theorem set_at {w : World} {g o : Nat} {x : Int} (h : w.cell? ⟨g, o, none⟩ = some (.int .i64 x)) (hf : w.frozen? ⟨g, o, none⟩ = false) (m : Int) (hm : 0 ≤ m) : Calls Try.prog 26 #[.pointer (some ⟨g, o, none⟩), .int .i64 m] w fun e w' => e = .returned (.tuple #[]) ∧ w' = w.setCell ⟨g, o, none⟩ (.int .i64 m) := by
  have h1 : ¬ m < 0 := by omega
  have HM := Lib.hid hm
  clear hm
  go_enter Try.func26, Try.ntmps26
  go_wp2
  go_end0
  exact ⟨rfl, by rw [show max m 0 = m by have := HM.out; omega]⟩
theorem tick_at {w : World} {g o : Nat} {x : Int} (h : w.cell? ⟨g, o, none⟩ = some (.int .i64 x)) (hf : w.frozen? ⟨g, o, none⟩ = false) (hx : 0 ≤ x) (hx2 : x ≤ 9223372036854775807) : Calls Try.prog 28 #[.pointer (some ⟨g, o, none⟩)] w fun e w' => e = .returned (.tuple #[]) ∧ (w' = w ∧ left (x - 1) = x ∨ w' = w.setCell ⟨g, o, none⟩ (.int .i64 (left (x - 1)))) := by
  have HO := Lib.hid (on_at h)
  by_cases h0 : 0 < x
  · have hl : left (x - 1) = x - 1 := by unfold left; omega
    rw [hl]
    rw [decide_eq_true h0] at HO
    clear hl
    go_enter Try.func28, Try.ntmps28
    go_wp2_with (go_at_call 42; with_reducible refine HO.out.mono ?_; rintro e w1 ⟨rfl, rfl⟩)
    go_end0
    exact ⟨rfl, .inr rfl⟩
  · have hl : left (x - 1) = x := by unfold left; omega
    have HL := Lib.hid hl
    rw [decide_eq_false h0] at HO
    clear hl
    go_enter Try.func28, Try.ntmps28
    go_wp2_with (go_at_call 42; with_reducible refine HO.out.mono ?_; rintro e w1 ⟨rfl, rfl⟩)
    go_end0
    exact ⟨rfl, .inl ⟨rfl, HL.out⟩⟩

/-! ## a witness -/
def svC (cB : Nat) (L W : Int) : Array Value := #[.pointer (some ⟨cB, 0, none⟩), .int .i64 L, .int .i64 W]
/-- the blocks that a message may change -/
def ours (dB sB mB cB tB : Nat) : List Nat := [dB, sB, mB, cB, tB]
theorem mem_ours {dB sB mB cB tB x : Nat} : x ∈ ours dB sB mB cB tB ↔ x = dB ∨ x = sB ∨ x = mB ∨ x = cB ∨ x = tB := by simp [ours]

/-- a witness, its device and its cell, in memory -/
structure WS (w : World) (dB sB mB n : Nat) (d : M.Dv) (tB cB a b : Nat) (c : M.Cl) (L W : Int) : Prop where
  dev : DevAt w dB sB mB n d
  sv : Bo w tB (svC cB L W) 67
  cel : CellAt w cB dB a b c
  kd : cB ≠ dB ∧ cB ≠ sB ∧ cB ≠ mB
  td : tB ≠ dB ∧ tB ≠ sB ∧ tB ≠ mB ∧ tB ≠ cB
  o1 : c.o ≤ 1
  gn : 0 ≤ c.gen ∧ c.gen ≤ 4611686018427387904
  tx : c.text.size ≤ 100
  ab : a ≠ b ∧ a < n ∧ b < n
  wt : 1 ≤ W ∧ W ≤ 1099511627776
  lf : 0 ≤ L ∧ L ≤ W

variable {w w' : World} {tB cB a b : Nat} {c : M.Cl} {L W : Int}
theorem WS.but (h : WS w dB sB mB n d tB cB a b c L W) {l : List Nat} (hb : But l w w') (hn : ∀ x ∈ l, x ∉ ours dB sB mB cB tB) : WS w' dB sB mB n d tB cB a b c L W where
  dev := h.dev.but hb (fun hx => hn _ hx (by simp [ours])) (fun hx => hn _ hx (by simp [ours])) (fun hx => hn _ hx (by simp [ours]))
  sv := h.sv.but hb (fun hx => hn _ hx (by simp [ours]))
  cel := h.cel.but hb (fun hx => hn _ hx (by simp [ours]))
  kd := h.kd
  td := h.td
  o1 := h.o1
  gn := h.gn
  tx := h.tx
  ab := h.ab
  wt := h.wt
  lf := h.lf
theorem WS.below (h : WS w dB sB mB n d tB cB a b c L W) (hb : Below w.heap.size w w') : WS w' dB sB mB n d tB cB a b c L W := h.but (But.of_below hb) (by simp)
/-- all of it lies within what is there -/
theorem WS.ours_lt (h : WS w dB sB mB n d tB cB a b c L W) : ∀ x ∈ ours dB sB mB cB tB, x < w.heap.size := by
  intro x hx
  rcases mem_ours.1 hx with rfl | rfl | rfl | rfl | rfl
  · exact h.dev.ltD
  · exact h.dev.lt
  · exact h.dev.pend.lt
  · exact h.cel.lt
  · exact h.sv.lt
theorem WS.not_mem (h : WS w dB sB mB n d tB cB a b c L W) {g : Nat} (hg : w.heap.size ≤ g) : g ∉ ours dB sB mB cB tB := fun hx => by have := h.ours_lt _ hx; omega
theorem WS.q0 (h : WS w dB sB mB n d tB cB a b c L W) : w.cell? ⟨tB, 0, none⟩ = some (.pointer (some ⟨cB, 0, none⟩)) := h.sv.cell 0
theorem WS.q1 (h : WS w dB sB mB n d tB cB a b c L W) : w.cell? ⟨tB, 1, none⟩ = some (.int .i64 L) := h.sv.cell 1
theorem WS.q2 (h : WS w dB sB mB n d tB cB a b c L W) : w.cell? ⟨tB, 2, none⟩ = some (.int .i64 W) := h.sv.cell 2
theorem WS.fz (h : WS w dB sB mB n d tB cB a b c L W) (o : Nat) : w.frozen? ⟨tB, o, none⟩ = false := h.sv.fz o
/-- the timer is set -/
theorem WS.set (h : WS w dB sB mB n d tB cB a b c L W) {L' : Int} (hl : 0 ≤ L' ∧ L' ≤ W) : WS (w.setCell ⟨tB, 1, none⟩ (.int .i64 L')) dB sB mB n d tB cB a b c L' W where
  dev := h.dev.but ((But.refl [tB] w).set _ (.inl (by simp))) (by have := h.td; simp; omega) (by have := h.td; simp; omega) (by have := h.td; simp; omega)
  sv := h.sv.set 1 _
  cel := h.cel.but ((But.refl [tB] w).set _ (.inl (by simp))) (by have := h.td; simp; omega)
  kd := h.kd
  td := h.td
  o1 := h.o1
  gn := h.gn
  tx := h.tx
  ab := h.ab
  wt := h.wt
  lf := hl
theorem WS.set_but (h : WS w dB sB mB n d tB cB a b c L W) (v : Value) : But (ours dB sB mB cB tB) w (w.setCell ⟨tB, 1, none⟩ v) := (But.refl _ w).set _ (.inl (by simp [ours]))

theorem on_any (h : WS w dB sB mB n d tB cB a b c L W) : Calls Try.prog 42 #[.pointer (some ⟨tB, 1, none⟩)] w fun e w' => e = .returned (.bool (decide (0 < L))) ∧ w = w' := on_at h.q1
/-- Left -/
theorem left_any (h : WS w dB sB mB n d tB cB a b c L W) : Calls Try.prog 17 #[.pointer (some ⟨tB, 0, none⟩)] w fun e w' => e = .returned (.int .i64 L) ∧ w = w' := by
  have HO := Lib.hid (left_at h.q1)
  clear h
  go_enter Try.func17, Try.ntmps17
  go_wp2_with (go_at_call 27; with_reducible refine HO.out.mono ?_; rintro e w1 ⟨rfl, rfl⟩)
  go_ret
  exact ⟨rfl, rfl⟩
/-- Tick -/
theorem tick_any (h : WS w dB sB mB n d tB cB a b c L W) : Calls Try.prog 18 #[.pointer (some ⟨tB, 0, none⟩)] w fun e w' => e = .returned (.tuple #[]) ∧ WS w' dB sB mB n d tB cB a b c (left (L - 1)) W ∧ But (ours dB sB mB cB tB) w w' := by
  have hl := h.lf
  have hw := h.wt
  have HO := Lib.hid (tick_at h.q1 (h.fz 1) hl.1 (by omega))
  have H := Lib.hid h
  have HL : Hid (0 ≤ left (L - 1) ∧ left (L - 1) ≤ W) := Lib.hid (by unfold left; omega)
  clear h hl hw
  go_enter Try.func18, Try.ntmps18
  go_wp2_with (go_at_call 28; with_reducible refine HO.out.mono ?_; rintro e w1 ⟨rfl, hq⟩)
  go_end0
  refine ⟨rfl, ?_⟩
  rcases hq with ⟨rfl, h2⟩ | rfl
  · rw [h2]; exact ⟨H.out, But.refl _ _⟩
  · exact ⟨H.out.set HL.out, H.out.set_but _⟩

/-- a put to its cell -/
theorem put_ws (h : WS w dB sB mB n d tB cB a b c L W) (y : Fx) :
    Calls Try.prog 71 #[.pointer (some ⟨cB, 0, none⟩), .string (fxT y)] w fun e w' => e = .returned (.int .i64 (M.puE n d a b c (fxT y))) ∧ WS w' dB sB mB n (M.puD n d a b c (fxT y)) tB cB a b (M.puC n d a b c (fxT y)) L W ∧ But (ours dB sB mB cB tB) w w' := by
  have hn := h.dev.n512
  have hab := h.ab
  refine (put_all w h.dev cB a b c h.cel h.kd h.o1 h.gn ⟨by omega, by omega⟩ (fxT y) (fxT_small y)).mono ?_
  rintro e w' ⟨rfl, hd, hc, hb⟩
  have hb' : But (ours dB sB mB cB tB) w w' := hb.mono fun x hx => by
    simp only [List.mem_cons, List.not_mem_nil, or_false] at hx
    rcases hx with rfl | rfl | rfl | rfl <;> simp [ours]
  obtain ⟨g1, g2, g3⟩ := do_ways (n := n) (a := a) (b := b) (d := d) h.gn h.o1 h.tx (0, some y)
  exact ⟨rfl, ⟨hd, h.sv.but hb (by have := h.td; simp; omega), hc, h.kd, h.td, g1, g2, g3, h.ab, h.wt, h.lf⟩, hb'⟩
end Go.Proofs.Ytpoolpckabpnfaa.Wt
namespace Go.Proofs.Ytpoolpckabpnfaa.Wt
open Go.RowKit Go.Maps
set_option linter.unusedVariables false
set_option linter.unusedSimpArgs false
set_option maxRecDepth 20000

def updI (E : Int → Option Int) (k v : Int) : Int → Option Int := fun i => if i = k then some v else E i
def RdsI (D : DataW Unit) (E : Int → Option Int) : Prop := IsMap D ∧ (∀ k, has D (.int .i64 k) = (E k).isSome) ∧ ∀ k s, E k = some s → ∀ z, D.atKey (.int .i64 k) z = .lit (.int .i64 s)
/-- such a map in memory -/
def MapI (w : World) (mb N : Nat) (E : Int → Option Int) : Prop := ∃ D, w.ownsMap (H := Unit) Try.prog 2 (plainElem Try.prog 3) mb N D ∧ RdsI D E
theorem ikey_ok {k : Int} (h1 : -9223372036854775808 ≤ k) (h2 : k ≤ 9223372036854775807) : keyOf Try.prog 2 (.int .i64 k) = some (.int .i64 k) := keyOf_int_mk Try.underlying2 (int_wf h1 h2)
theorem iis_key {k : Int} (h1 : -9223372036854775808 ≤ k) (h2 : k ≤ 9223372036854775807) : WideAt.IsKeyLit (.int .i64 k) := (int_keyed Try.underlying2).key (ikey_ok h1 h2)
theorem rdsi_none : RdsI (.map []) fun _ => none := ⟨isMap_empty, fun k => rfl, fun k s h => by cases h⟩
theorem rdsi_put {D : DataW Unit} {E : Int → Option Int} (h : RdsI D E) {i : Int} (h1 : -9223372036854775808 ≤ i) (h2 : i ≤ 9223372036854775807) (s : Int) : RdsI (D.put (.int .i64 i) (.lit (.int .i64 s))) (updI E i s) := by
  obtain ⟨ha, hb, hc⟩ := h
  refine ⟨ha.put _ _, fun k => ?_, fun k t hk z => ?_⟩
  · by_cases e : k = i
    · subst e; simp [updI, has_put_same ha (iis_key h1 h2)]
    · rw [has_put_other (fun e' => e (by injection e')), hb k]; simp [updI, e]
  · by_cases e : k = i
    · subst e
      simp only [updI, if_true, Option.some.injEq] at hk
      subst hk
      exact atKey_put_same ha (iis_key h1 h2) _ _
    · rw [atKey_put_other (fun e' => e (by injection e'))]
      simp only [updI, if_neg e] at hk
      exact hc k t hk z
theorem mapi_made (w : World) : MapI (w.alloc (.map #[] 0)) w.heap.size 0 fun _ => none := ⟨_, World.ownsMap_made w _ _ _, rdsi_none⟩
theorem MapI.lt {w : World} {mb N : Nat} {E : Int → Option Int} (h : MapI w mb N E) : mb < w.heap.size := by
  obtain ⟨D, h, _⟩ := h
  exact h.lt
theorem MapI.of_block {w w' : World} {mb N : Nat} {E : Int → Option Int} (h : MapI w mb N E) (hb : w'.heap[mb]? = w.heap[mb]?) : MapI w' mb N E := by
  obtain ⟨D, ⟨es, clock, h1, h2⟩, h3⟩ := h
  exact ⟨D, ⟨es, clock, hb.trans h1, h2⟩, h3⟩
theorem MapI.but {w w' : World} {mb N : Nat} {E : Int → Option Int} (h : MapI w mb N E) {l : List Nat} (hb : But l w w') (hn : mb ∉ l) : MapI w' mb N E := h.of_block (hb.block _ h.lt hn)
theorem MapI.below {w w' : World} {mb N : Nat} {E : Int → Option Int} (h : MapI w mb N E) {B : Nat} (hb : Below B w w') (hB : mb < B) : MapI w' mb N E := h.of_block (hb.block _ hB)

theorem zeroI (w : World) : (zeroValue 3).run Try.prog w = .ok (.int .i64 0) w := by
  have h : (Try.prog.info? 3).map (·.zero) = some (some (.int .i64 0)) := by kernel_rfl
  cases hi : Try.prog.info? 3 with
  | none => simp [hi] at h
  | some i =>
    simp only [hi, Option.map_some, Option.some.injEq] at h
    simp [zeroValue, typeInfo, hi, h]
theorem mapi_look {w : World} {mb N : Nat} {E : Int → Option Int} (h : MapI w mb N E) {i : Int} (h1 : -9223372036854775808 ≤ i) (h2 : i ≤ 9223372036854775807) :
    (Instr.lookup 28 (.map (some mb)) (.int .i64 i) true).run Try.prog w = .ok (.tuple #[.int .i64 ((E i).getD 0), .bool (E i).isSome]) w := by
  obtain ⟨D, hown, hr⟩ := h
  have he : Try.prog.underlying 3 = some (.int .i64) := Try.underlying3
  obtain ⟨v, ps, hrun, hv⟩ := hown.look_ok (int_keyed Try.underlying2) Try.underlying28 (zeroI w) (plainElem_int he (by decide)) (ikey_ok h1 h2)
  obtain ⟨c, rfl, hc, hwc⟩ := plainElem_int_inv he hv
  simp only [Prod.mk.injEq] at hc
  rw [hr.2.1] at hrun
  rw [hrun]
  cases hp : E i with
  | none =>
    have : has D (.int .i64 i) = false := by rw [hr.2.1, hp]; rfl
    rw [atKey_of_not_has this] at hc
    simp only [DataW.lit.injEq, Lit.int.injEq] at hc
    rw [← hc.1.2]; rfl
  | some t =>
    rw [hr.2.2 i t hp] at hc
    simp only [DataW.lit.injEq, Lit.int.injEq] at hc
    rw [← hc.1.2]; rfl
theorem mapi_store {w : World} {mb N : Nat} {E : Int → Option Int} (h : MapI w mb N E) (hn : N < 1000) {i : Int} (h1 : -9223372036854775808 ≤ i) (h2 : i ≤ 9223372036854775807) {s : Int} (hs : -9223372036854775808 ≤ s ∧ s ≤ 9223372036854775807) :
    ∃ w', (Instr.mapUpdate 28 (.map (some mb)) (.int .i64 i) (.int .i64 s)).run Try.prog w = .ok () w' ∧ MapI w' mb (N + 1) (updI E i s) ∧ But [mb] w w' := by
  obtain ⟨D, hown, hr⟩ := h
  have he : Try.prog.underlying 3 = some (.int .i64) := Try.underlying3
  obtain ⟨w', r1, r2, r3⟩ := hown.update (int_keyed Try.underlying2) Try.underlying28 (by simp only [maxLen]; omega) (ikey_ok h1 h2) (plainElem_int he (int_wf hs.1 hs.2))
  exact ⟨w', r1, ⟨_, r2, rdsi_put hr h1 h2 s⟩, (But.refl _ _).grown r3 fun k hk => by injection hk with hk; subst hk; exact .inl (by simp)⟩
section
variable {ops : Array Oper} {rest : List Oper} {o : Oper} {a : Act} {w : World} {Q : Exit → Act → World → Prop}
/-- v, is := m[k] -/
theorem wpList_look_i (hg : o.guard = none) (m x : Operand) (ho : o.op = Op.lookup 28 m x true) (mB : Nat) (hm : a.eval m = .map (some mB)) (i : Int) (hx : a.eval x = .int .i64 i)
    {N : Nat} {E : Int → Option Int} (hP : MapI w mB N E) (h1 : -9223372036854775808 ≤ i) (h2 : i ≤ 9223372036854775807)
    (h : wpList Try.prog ops Q rest (a.put o.dst (.tuple #[.int .i64 ((E i).getD 0), .bool (E i).isSome])) w) : wpList Try.prog ops Q (o :: rest) a w := by
  refine wpList_plain hg fun K hK => ?_
  have hrun := mapi_look hP h1 h2
  unfold Oper.wp
  simp [execOp, ho, hm, hx, hrun, Result.andThen]
  exact hK _ _ h
theorem wpList_look_none (hg : o.guard = none) (m x : Operand) (ho : o.op = Op.lookup 28 m x true) (mB : Nat) (hm : a.eval m = .map (some mB)) (i : Int) (hx : a.eval x = .int .i64 i)
    {N : Nat} {E : Int → Option Int} (hP : MapI w mB N E) (h1 : -9223372036854775808 ≤ i) (h2 : i ≤ 9223372036854775807) (hE : E i = none)
    (h : wpList Try.prog ops Q rest (a.put o.dst (.tuple #[.int .i64 0, .bool false])) w) : wpList Try.prog ops Q (o :: rest) a w := by
  refine wpList_look_i hg m x ho mB hm i hx hP h1 h2 ?_
  rw [hE]; exact h
theorem wpList_look_some (hg : o.guard = none) (m x : Operand) (ho : o.op = Op.lookup 28 m x true) (mB : Nat) (hm : a.eval m = .map (some mB)) (i : Int) (hx : a.eval x = .int .i64 i)
    {N : Nat} {E : Int → Option Int} (hP : MapI w mB N E) (h1 : -9223372036854775808 ≤ i) (h2 : i ≤ 9223372036854775807) {v : Int} (hE : E i = some v)
    (h : wpList Try.prog ops Q rest (a.put o.dst (.tuple #[.int .i64 v, .bool true])) w) : wpList Try.prog ops Q (o :: rest) a w := by
  refine wpList_look_i hg m x ho mB hm i hx hP h1 h2 ?_
  rw [hE]; exact h
/-- m[k] = v -/
theorem wpList_update_i (hg : o.guard = none) (m x v : Operand) (ho : o.op = Op.mapUpdate 28 m x v) (mB : Nat) (hm : a.eval m = .map (some mB)) (i : Int) (hx : a.eval x = .int .i64 i) (s : Int) (hv : a.eval v = .int .i64 s)
    {N : Nat} {E : Int → Option Int} (hP : MapI w mB N E) (hn : N < 1000) (h1 : -9223372036854775808 ≤ i) (h2 : i ≤ 9223372036854775807) (hs : -9223372036854775808 ≤ s ∧ s ≤ 9223372036854775807)
    (h : ∀ w', MapI w' mB (N + 1) (updI E i s) → But [mB] w w' → wpList Try.prog ops Q rest (a.put o.dst undef) w') : wpList Try.prog ops Q (o :: rest) a w := by
  refine wpList_plain hg fun K hK => ?_
  obtain ⟨w', hrun, hm', hb⟩ := mapi_store hP hn h1 h2 hs
  unfold Oper.wp
  simp [execOp, ho, hm, hx, hv, hrun, Result.andThen]
  exact hK _ _ (h w' hm' hb)
end
end Go.Proofs.Ytpoolpckabpnfaa.Wt
namespace Go.Proofs.Ytpoolpckabpnfaa.Wt
open Go.RowKit
open Ml (Mg may)
set_option linter.unusedVariables false
set_option linter.unusedSimpArgs false

/-- who was granted what goes with what is said -/
structure Good (E : Int → Option Int) (x : Fx) : Prop where
  le : ∀ e p, E e = some p → e ≤ x.ep
  is : ∀ p, E x.ep = some p → x.ho = p ∨ x.ho = -1
  ep1 : x.ho ≠ -1 → 1 ≤ x.ep
theorem good_start : Good (fun _ => none) Fx.zero := ⟨fun e p h => by simp at h, fun p h => by simp at h, fun h => absurd rfl h⟩
theorem Good.suc {E : Int → Option Int} {x y : Fx} (h : Good E x) (hx : 0 ≤ x.ep) (hs : Suc x y) : Good E y := by
  rcases hs with hs | ⟨h1, h2⟩
  · exact ⟨fun e p he => by have := h.le e p he; omega, fun p he => by have := h.le _ p he; omega, fun _ => by omega⟩
  · refine ⟨fun e p he => by have := h.le e p he; omega, fun p he => ?_, fun hy => ?_⟩
    · rw [h1] at he
      rcases h.is p he with h3 | h3
      · rcases h2 with h2 | h2
        · exact .inl (h2.trans h3)
        · exact .inr h2
      · rcases h2 with h2 | h2
        · exact .inr (h2.trans h3)
        · exact .inr h2
    · rcases h2 with h2 | h2
      · rw [h1]; exact h.ep1 (by rw [← h2]; exact hy)
      · exact absurd h2 hy
/-- is that a grant? -/
def grants (A : Mg) (I : Bool) : Bool := I && (decide (A.kind = 2) && decide (A.e = 0))
theorem askP_longer {x : Fx} {L fr : Int} {m : Mg} (h1 : (askP x L fr m).2 = none) (h2 : (askP x L fr m).1 = 0) : x.ho = fr ∧ m.seq = 0 ∧ m.epoch = x.ep ∧ inM x.ma fr = true := by
  unfold askP at h1 h2
  by_cases g1 : inM x.ma fr = false
  · rw [if_pos g1] at h2; simp at h2
  · rw [if_neg g1] at h1 h2
    by_cases g2 : longer x fr m = true
    · simp [longer] at g2
      exact ⟨g2.1, g2.2.1, g2.2.2, by simpa using g1⟩
    · rw [if_neg g2] at h1 h2
      by_cases g3 : x.ho ≠ fr ∧ 0 < L
      · rw [if_pos g3] at h2; simp at h2
      · rw [if_neg g3] at h1 h2
        by_cases g4 : x.ep = big
        · rw [if_pos g4] at h2; simp at h2
        · rw [if_neg g4] at h1; simp at h1
structure Granted (E : Int → Option Int) (A : Mg) (x0 x : Fx) (fr : Int) (m : Mg) : Prop where
  cl : A.client = fr
  ep : A.epoch = x.ep
  e1 : 1 ≤ A.epoch ∧ A.epoch ≤ big
  nd : 0 ≤ fr ∧ fr ≤ 1
  ow : ∀ p, E A.epoch = some p → p = fr
  gd : Good (updI E A.epoch fr) x
  kd : m.kind = 1
  nw : inM x0.ma fr = true ∧ x.ma = x0.ma
theorem Good.take {n a b : Nat} {d : M.Dv} {c : M.Cl} {E : Int → Option Int} (hf : FI n a b d c) (hg : Good E (fx c.text)) (L fr : Int) (m : Mg) :
    (grants (takA n a b d c L fr m) (takI n a b d c L fr m) = false → Good E (fx (takC n a b d c L fr m).text)) ∧
      (grants (takA n a b d c L fr m) (takI n a b d c L fr m) = true → Granted E (takA n a b d c L fr m) (fx c.text) (fx (takC n a b d c L fr m).text) fr m ∧ takE n a b d c L fr m = 0) := by
  cases hc : can fr m with
  | false =>
    have e1 : takI n a b d c L fr m = false := by unfold takI; rw [hc]; rfl
    have e2 : takC n a b d c L fr m = c := by unfold takC; rw [if_neg (by simp [hc])]
    rw [e1, e2]
    exact ⟨fun _ => hg, fun h => by simp [grants] at h⟩
  | true =>
    obtain ⟨hk, hfr, hm⟩ := (can_iff fr m).1 hc
    have hx := fx_ok c.text
    obtain ⟨_, hw⟩ := hf.take L fr m
    have hA : takI n a b d c L fr m = true → takA n a b d c L fr m = ansA (fx (takC n a b d c L fr m).text) m (takE n a b d c L fr m) := fun h => by unfold takA; rw [if_pos h]
    have hI : takE n a b d c L fr m ≠ 30 → takI n a b d c L fr m = true := fun h => by unfold takI; rw [hc, decide_eq_false h]; rfl
    have hP : (takP (fx c.text) L fr m).2 = none → takE n a b d c L fr m = (takP (fx c.text) L fr m).1 := fun h => by
      unfold takE doE; rw [h]
    have hKind : grants (takA n a b d c L fr m) (takI n a b d c L fr m) = true → m.kind = 1 ∧ takE n a b d c L fr m = 0 ∧ takA n a b d c L fr m = ansA (fx (takC n a b d c L fr m).text) m (takE n a b d c L fr m) := fun h => by
      unfold grants at h
      simp only [Bool.and_eq_true, decide_eq_true_eq] at h
      have h1 := hA h.1
      rw [h1] at h
      refine ⟨?_, h.2.2, h1⟩
      have h2 : ansK m.kind = 2 := h.2.1
      unfold ansK at h2
      split at h2
      · assumption
      · omega
    generalize takE n a b d c L fr m = E0 at *
    generalize takC n a b d c L fr m = C2 at *
    generalize takA n a b d c L fr m = A at *
    generalize takI n a b d c L fr m = I at *
    refine ⟨fun hn => ?_, fun hy => ?_⟩
    · rcases hw with ⟨h1, _⟩ | ⟨_, h1, h2⟩
      · rw [h1]; exact hg
      · have hnk : m.kind ≠ 1 := fun hk1 => by
          have i1 := hI (by omega)
          have i2 := hA i1
          rw [i1, i2] at hn
          unfold grants ansA at hn
          simp only at hn
          rw [h1, hk1] at hn
          simp [ansK] at hn
        exact hg.suc hx.1.1 (takP_suc hx hc h2)
    · obtain ⟨k1, k2, k3⟩ := hKind hy
      have ep : takP (fx c.text) L fr m = askP (fx c.text) L fr m := by unfold takP; rw [if_pos k1]
      rw [ep] at hw hP
      rcases hw with ⟨h1, h2⟩ | ⟨_, h1, h2⟩
      · have hnone : (askP (fx c.text) L fr m).2 = none := by
          cases hq : (askP (fx c.text) L fr m).2 with
          | none => rfl
          | some y => have := h2 y hc hq; omega
        have h0 := hP hnone
        obtain ⟨l1, l2, l3, l4⟩ := askP_longer hnone (by omega)
        have g1 := hg.ep1 (by omega)
        refine ⟨?_, k2⟩
        rw [k3, h1]
        have hx1 := hx.1.2
        refine ⟨l1, rfl, ⟨g1, hx1⟩, hfr, fun p hp => ?_, ⟨fun e p he => ?_, fun p he => ?_, hg.ep1⟩, k1, ⟨l4, rfl⟩⟩
        · rcases hg.is p hp with h3 | h3 <;> omega
        · unfold updI at he
          split at he
          · rename_i h4; rw [h4]; exact Int.le_refl _
          · exact hg.le e p he
        · unfold updI at he
          have h5 : (fx c.text).ep = (ansA (fx c.text) m E0).epoch := rfl
          rw [if_pos h5] at he
          injection he with he
          left; omega
      · obtain ⟨q1, q2, q3⟩ := askP_ok hx hfr h2
        refine ⟨?_, k2⟩
        rw [k3, q2]
        have hb := q1.1.2
        rw [q2] at hb
        simp only at hb
        have h0 := hx.1.1
        refine ⟨rfl, rfl, ⟨by show 1 ≤ (fx c.text).ep + 1; omega, hb⟩, hfr, fun p hp => ?_, ⟨fun e p he => ?_, fun p he => ?_, fun _ => by simp only; omega⟩, k1, ⟨q3, rfl⟩⟩
        · have := hg.le _ p hp
          have h6 : (ansA ⟨(fx c.text).ep + 1, fr, (fx c.text).ma, 0⟩ m E0).epoch = (fx c.text).ep + 1 := rfl
          omega
        · unfold updI at he
          split at he
          · rename_i h4; rw [h4]; exact Int.le_refl _
          · have := hg.le e p he; simp only; omega
        · unfold updI at he
          have h5 : (⟨(fx c.text).ep + 1, fr, (fx c.text).ma, 0⟩ : Fx).ep = (ansA ⟨(fx c.text).ep + 1, fr, (fx c.text).ma, 0⟩ m E0).epoch := rfl
          rw [if_pos h5] at he
          injection he with he
          left; exact he
/-- nothing fails there -/
theorem FI.free {n a b : Nat} {d : M.Dv} {c : M.Cl} (h : FI n a b d c) (hf : Free d) (L fr : Int) (m : Mg) : Free (takD n a b d c L fr m) := by
  unfold takD
  split
  · unfold doD
    split
    · rename_i y _
      obtain ⟨hab, ha, hb⟩ := h.ab
      unfold M.puD
      split
      · exact hf
      · rename_i hne
        have hck := h.fnd
        have hg0 : 0 ≤ c.gen ∧ c.gen ≤ 4611686018427387904 := by rw [hck]; exact M.found_gen _ _
        have hp : M.pos c.o a b < n := by unfold M.pos; split <;> omega
        exact (put_free hf h.wf hp (l := M.slot (c.gen + 1) (fxT y)) (by have := M.slot_small (⟨by omega, by omega, fxT_small y⟩ : M.MayS (c.gen + 1) (fxT y)); omega)).2.1
    · exact hf
  · exact hf
end Go.Proofs.Ytpoolpckabpnfaa.Wt
