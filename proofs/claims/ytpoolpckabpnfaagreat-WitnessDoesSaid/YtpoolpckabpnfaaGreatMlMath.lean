/-
  Messages as plain mathematics: which may be, their record, their bytes, what is read from bytes, there and back.
-/
import Derived.Test.YtpoolpckabpnfaaGreatCMath
namespace Go.Proofs.YtpoolpckabpnfaaGreat.Ml
open C.M (Rc enc dec fits)

/-- a message -/
structure Mg where
  kind : Int
  epoch : Int
  seq : Int
  n : Int
  block : Int
  client : Int
  e : Int
  t0 : Int
  t1 : Int
  t2 : Int
  t3 : Int
  data : ByteArray
  row : ByteArray
deriving DecidableEq

instance : Inhabited Mg := ⟨⟨0, 0, 0, 0, 0, 0, 0, 0, 0, 0, 0, ⟨#[]⟩, ⟨#[]⟩⟩⟩

def nil : Mg := ⟨0, 0, 0, 0, 0, 0, 0, 0, 0, 0, 0, ⟨#[]⟩, ⟨#[]⟩⟩

def Mg.nums (m : Mg) : List Int := [m.epoch, m.seq, m.n, m.block, m.client, m.e, m.t0, m.t1, m.t2, m.t3]
def Mg.texts (m : Mg) : List ByteArray := [m.data, m.row]
/-- a message's record -/
def Mg.rc (m : Mg) : Rc := ⟨m.kind, m.nums, m.texts⟩

/-- what a number may be -/
structure Lm where
  lo : Int
  hi : Int
instance : Inhabited Lm := ⟨⟨0, 0⟩⟩

/-- as many numbers as limits, each within its own -/
def win : List Int → List Lm → Bool
  | [], [] => true
  | n :: ns, x :: xs => (decide (x.lo ≤ n) && decide (n ≤ x.hi)) && win ns xs
  | _, _ => false

def big : Int := 4611686018427387904
def lims : List Lm := [⟨0, big⟩, ⟨0, big⟩, ⟨-big, big⟩, ⟨-1, 31⟩, ⟨-1, 3⟩, ⟨0, 31⟩, ⟨0, big⟩, ⟨0, big⟩, ⟨0, big⟩, ⟨0, big⟩]
def sizes (ts : List ByteArray) : List Int := ts.map fun t => (t.size : Int)

/-- is a record that of a message that may be? -/
def isM (r : Rc) : Bool := win [r.kind] [⟨1, 15⟩] && win r.nums lims && win (sizes r.texts) [⟨0, 40⟩, ⟨0, 10⟩]

def may (m : Mg) : Bool := isM m.rc

/-- the message of a record -/
def ofR (r : Rc) : Mg :=
  match r.nums, r.texts with
  | [a, b, c, d, e, f, g, h, i, j], [s, t] => ⟨r.kind, a, b, c, d, e, f, g, h, i, j, s, t⟩
  | _, _ => nil

theorem win_len : ∀ {ns : List Int} {xs : List Lm}, win ns xs = true → ns.length = xs.length
  | [], [], _ => rfl
  | [], _ :: _, h => by simp [win] at h
  | _ :: _, [], h => by simp [win] at h
  | n :: ns, x :: xs, h => by
    simp only [win, Bool.and_eq_true] at h
    simp [win_len h.2]

/-- all up to some place are within theirs, the one there is not -/
theorem win_out : ∀ {ns : List Int} {xs : List Lm} {k : Nat} {n : Int} {x : Lm}, ns[k]? = some n → xs[k]? = some x → ¬ (x.lo ≤ n ∧ n ≤ x.hi) → win ns xs = false
  | [], _, k, n, x, h, _, _ => by simp at h
  | _ :: _, [], k, n, x, _, h, _ => by simp at h
  | m :: ns, y :: xs, 0, n, x, h1, h2, h3 => by
    simp at h1 h2
    subst h1 h2
    simp only [win]
    rw [← Bool.decide_and, decide_eq_false h3, Bool.false_and]
  | m :: ns, y :: xs, k + 1, n, x, h1, h2, h3 => by
    simp only [win]
    rw [win_out (ns := ns) (xs := xs) (k := k) (by simpa using h1) (by simpa using h2) h3, Bool.and_false]
theorem win_all : ∀ {ns : List Int} {xs : List Lm}, ns.length = xs.length → (∀ (k : Nat) (n : Int) (x : Lm), ns[k]? = some n → xs[k]? = some x → x.lo ≤ n ∧ n ≤ x.hi) → win ns xs = true
  | [], [], _, _ => rfl
  | [], _ :: _, h, _ => by simp at h
  | _ :: _, [], h, _ => by simp at h
  | n :: ns, x :: xs, h, ha => by
    simp only [win, Bool.and_eq_true, decide_eq_true_eq]
    exact ⟨ha 0 n x rfl rfl, win_all (by simpa using h) fun k n' x' h1 h2 => ha (k + 1) n' x' (by simpa using h1) (by simpa using h2)⟩

/-- what isM asks, part by part -/
theorem isM_iff (r : Rc) : isM r = true ↔ (1 ≤ r.kind ∧ r.kind ≤ 15) ∧ win r.nums lims = true ∧ win (sizes r.texts) [⟨0, 40⟩, ⟨0, 10⟩] = true := by
  simp [isM, win, and_assoc]

theorem isM_parts {r : Rc} (h : isM r = true) : ∃ m : Mg, r = m.rc ∧ ofR r = m := by
  obtain ⟨kind, nums, texts⟩ := r
  simp only [isM, Bool.and_eq_true] at h
  obtain ⟨⟨_, h1⟩, h2⟩ := h
  have l1 := win_len h1
  have l2 := win_len h2
  simp only [sizes, List.length_map] at l2
  match nums, l1, texts, l2 with
  | [a, b, c, d, e, f, g, h, i, j], _, [s, t], _ => exact ⟨⟨kind, a, b, c, d, e, f, g, h, i, j, s, t⟩, rfl, rfl⟩

theorem ofR_rc (m : Mg) : ofR m.rc = m := rfl
theorem rc_inj {a b : Mg} (h : a.rc = b.rc) : a = b := by rw [← ofR_rc a, ← ofR_rc b, h]

/-- the bounds of a message that may be -/
theorem may_iff (m : Mg) : may m = true ↔ (1 ≤ m.kind ∧ m.kind ≤ 15) ∧ (0 ≤ m.epoch ∧ m.epoch ≤ big) ∧ (0 ≤ m.seq ∧ m.seq ≤ big) ∧ (-big ≤ m.n ∧ m.n ≤ big) ∧ (-1 ≤ m.block ∧ m.block ≤ 31) ∧ (-1 ≤ m.client ∧ m.client ≤ 3) ∧ (0 ≤ m.e ∧ m.e ≤ 31) ∧
    (0 ≤ m.t0 ∧ m.t0 ≤ big) ∧ (0 ≤ m.t1 ∧ m.t1 ≤ big) ∧ (0 ≤ m.t2 ∧ m.t2 ≤ big) ∧ (0 ≤ m.t3 ∧ m.t3 ≤ big) ∧ m.data.size ≤ 40 ∧ m.row.size ≤ 10 := by
  simp only [may, isM, Mg.rc, Mg.nums, Mg.texts, sizes, lims, win, List.map, Bool.and_eq_true, decide_eq_true_eq, Bool.and_true]
  constructor
  · intro h
    have h1 : 1 ≤ m.kind := of_decide_eq_true h.1.1.1
    have h2 : m.kind ≤ 15 := of_decide_eq_true h.1.1.2
    refine ⟨?_, ?_, ?_, ?_, ?_, ?_, ?_, ?_, ?_, ?_, ?_, ?_, ?_⟩ <;> omega
  · intro h
    refine ⟨⟨⟨decide_eq_true h.1.1, decide_eq_true h.1.2⟩, ?_⟩, ?_⟩ <;> omega

theorem may_rec {m : Mg} (h : may m = true) : C.M.May m.rc ∧ C.M.Fits m.rc := by
  rw [may_iff] at h
  simp only [big] at h
  refine ⟨⟨?_, ?_, ?_, ?_, ?_⟩, ?_⟩
  · simp only [Mg.rc]; omega
  · simp only [Mg.rc]; omega
  · simp [Mg.rc, Mg.nums]
  · simp [Mg.rc, Mg.texts]
  · intro t ht
    simp [Mg.rc, Mg.texts] at ht
    rcases ht with rfl | rfl <;> omega
  · intro x hx
    simp [Mg.rc, Mg.nums] at hx
    simp only [fits]
    rcases hx with rfl | rfl | rfl | rfl | rfl | rfl | rfl | rfl | rfl | rfl <;> omega

/-- a message's bytes -/
def bytes (m : Mg) : List UInt8 := enc m.rc
/-- the message that bytes are -/
def read (l : List UInt8) : Option Mg :=
  match dec l with
  | some r => if isM r = true then some (ofR r) else none
  | none => none

theorem read_bytes {m : Mg} (h : may m = true) : read (bytes m) = some m := by
  obtain ⟨h1, h2⟩ := may_rec h
  have h3 : isM m.rc = true := h
  unfold read bytes
  rw [C.M.dec_enc h1 h2]
  simp only [h3, if_true, ofR_rc]
theorem bytes_read {l : List UInt8} {m : Mg} (h : read l = some m) : may m = true ∧ l = bytes m := by
  unfold read at h
  cases hd : dec l with
  | none => rw [hd] at h; cases h
  | some r =>
    rw [hd] at h
    by_cases hi : isM r = true
    · simp only [hi, if_true] at h
      injection h with h
      obtain ⟨m', hm, ho⟩ := isM_parts hi
      rw [ho] at h
      subst h
      obtain ⟨_, _, hl⟩ := C.M.enc_dec hd
      refine ⟨by unfold may; rw [← hm]; exact hi, ?_⟩
      unfold bytes
      rw [← hm]
      exact hl
    · simp only [hi] at h
      cases h
theorem bytes_len {m : Mg} (h : may m = true) : 2 ≤ (bytes m).length ∧ (bytes m).length ≤ 200 := by
  obtain ⟨h1, h2⟩ := may_rec h
  refine ⟨(C.M.enc_le h1).1, ?_⟩
  rw [may_iff] at h
  unfold bytes
  rw [C.M.enc_len]
  have hn := fun x => (C.M.num_len x).2
  simp only [Mg.rc, Mg.nums, Mg.texts, List.map, List.sum_cons, List.sum_nil]
  have a0 := hn m.epoch
  have a1 := hn m.seq
  have a2 := hn m.n
  have a3 := hn m.block
  have a4 := hn m.client
  have a5 := hn m.e
  have a6 := hn m.t0
  have a7 := hn m.t1
  have a8 := hn m.t2
  have a9 := hn m.t3
  omega
theorem bytes_inj {a b : Mg} (ha : may a = true) (hb : may b = true) (h : bytes a = bytes b) : a = b := by
  have := read_bytes ha
  rw [h, read_bytes hb] at this
  injection this with this
  exact this.symm
theorem read_cut {m : Mg} (h : may m = true) {n : Nat} (hn : n < (bytes m).length) : read ((bytes m).take n) = none := by
  obtain ⟨h1, h2⟩ := may_rec h
  unfold read bytes
  rw [C.M.dec_cut h1 h2 n hn]
theorem read_more {m : Mg} (h : may m = true) {x : List UInt8} (hx : x ≠ []) : read (bytes m ++ x) = none := by
  obtain ⟨h1, h2⟩ := may_rec h
  unfold read bytes
  rw [C.M.dec_more h1 h2 x hx]
end Go.Proofs.YtpoolpckabpnfaaGreat.Ml
