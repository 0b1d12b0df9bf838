/-
  Messages as plain mathematics: which may be, their record, their bytes, what is read from bytes, there and back.
  Rows of limits in memory: what stays while some blocks are written; rows that are read, rows of the call's own; append.
  The limits of a message's numbers, the lengths of its texts, and whether numbers are within limits.
  A message as a record, and whether a record is that of a message that may be.
  Whether a record is that of a message that may be.
  The message of a record.
  May, Encode, Decode of a message.
  Decode of a message.
-/
import Derived.Test.YtofhijnfbilieaaGreatJC
import Derived.Test.YtofhijnfbilieaaGreatProg
import Derived.Test.YtofhijnfbilieaaGreatJCR
import Derived.WalkKit
import Derived.Lib.Hide
import Derived.Below
import Derived.Maps.AppendAt
import Derived.OwnWalk
import Derived.Deep.AppendSrc
import Derived.Deep.Upon
import Derived.Deep.RegionLaw
import Derived.Deep.QuietTactic
import Derived.BigQuiet
import Derived.Shelf.RegionOpenPlain
import Derived.BigRegion
import Derived.Deep.RegionHeld3
import Derived.Deep.RegionHeldLaw
import Derived.Laws.IdiomCopy
import Derived.Deep.MidRow
import Derived.Deep.CutBlock
import Derived.Deep.DeepCutAuto
import Derived.Lib.ConvBytes
namespace Go.Proofs.YtofhijnfbilieaaGreat.Ml
open C.M (Rc enc dec fits)

/-- a message -/
structure Mg where
  kind : Int
  epoch : Int
  seq : Int
  n : Int
  block : Int
  client : Int
  e : Int
  t0 : Int
  t1 : Int
  t2 : Int
  t3 : Int
  data : ByteArray
  row : ByteArray
deriving DecidableEq

instance : Inhabited Mg := ⟨⟨0, 0, 0, 0, 0, 0, 0, 0, 0, 0, 0, ⟨#[]⟩, ⟨#[]⟩⟩⟩

def nil : Mg := ⟨0, 0, 0, 0, 0, 0, 0, 0, 0, 0, 0, ⟨#[]⟩, ⟨#[]⟩⟩

def Mg.nums (m : Mg) : List Int := [m.epoch, m.seq, m.n, m.block, m.client, m.e, m.t0, m.t1, m.t2, m.t3]
def Mg.texts (m : Mg) : List ByteArray := [m.data, m.row]
/-- a message's record -/
def Mg.rc (m : Mg) : Rc := ⟨m.kind, m.nums, m.texts⟩

/-- what a number may be -/
structure Lm where
  lo : Int
  hi : Int
instance : Inhabited Lm := ⟨⟨0, 0⟩⟩

/-- as many numbers as limits, each within its own -/
def win : List Int → List Lm → Bool
  | [], [] => true
  | n :: ns, x :: xs => (decide (x.lo ≤ n) && decide (n ≤ x.hi)) && win ns xs
  | _, _ => false

def big : Int := 4611686018427387904
def lims : List Lm := [⟨0, big⟩, ⟨0, big⟩, ⟨-big, big⟩, ⟨-1, 31⟩, ⟨-1, 3⟩, ⟨0, 31⟩, ⟨0, big⟩, ⟨0, big⟩, ⟨0, big⟩, ⟨0, big⟩]
def sizes (ts : List ByteArray) : List Int := ts.map fun t => (t.size : Int)

/-- is a record that of a message that may be? -/
def isM (r : Rc) : Bool := win [r.kind] [⟨1, 15⟩] && win r.nums lims && win (sizes r.texts) [⟨0, 40⟩, ⟨0, 10⟩]

def may (m : Mg) : Bool := isM m.rc

/-- the message of a record -/
def ofR (r : Rc) : Mg :=
  match r.nums, r.texts with
  | [a, b, c, d, e, f, g, h, i, j], [s, t] => ⟨r.kind, a, b, c, d, e, f, g, h, i, j, s, t⟩
  | _, _ => nil

theorem win_len : ∀ {ns : List Int} {xs : List Lm}, win ns xs = true → ns.length = xs.length
  | [], [], _ => rfl
  | [], _ :: _, h => by simp [win] at h
  | _ :: _, [], h => by simp [win] at h
  | n :: ns, x :: xs, h => by
    simp only [win, Bool.and_eq_true] at h
    simp [win_len h.2]

/-- all up to some place are within theirs, the one there is not -/
theorem win_out : ∀ {ns : List Int} {xs : List Lm} {k : Nat} {n : Int} {x : Lm}, ns[k]? = some n → xs[k]? = some x → ¬ (x.lo ≤ n ∧ n ≤ x.hi) → win ns xs = false
  | [], _, k, n, x, h, _, _ => by simp at h
  | _ :: _, [], k, n, x, _, h, _ => by simp at h
  | m :: ns, y :: xs, 0, n, x, h1, h2, h3 => by
    simp at h1 h2
    subst h1 h2
    simp only [win]
    rw [← Bool.decide_and, decide_eq_false h3, Bool.false_and]
  | m :: ns, y :: xs, k + 1, n, x, h1, h2, h3 => by
    simp only [win]
    rw [win_out (ns := ns) (xs := xs) (k := k) (by simpa using h1) (by simpa using h2) h3, Bool.and_false]
theorem win_all : ∀ {ns : List Int} {xs : List Lm}, ns.length = xs.length → (∀ (k : Nat) (n : Int) (x : Lm), ns[k]? = some n → xs[k]? = some x → x.lo ≤ n ∧ n ≤ x.hi) → win ns xs = true
  | [], [], _, _ => rfl
  | [], _ :: _, h, _ => by simp at h
  | _ :: _, [], h, _ => by simp at h
  | n :: ns, x :: xs, h, ha => by
    simp only [win, Bool.and_eq_true, decide_eq_true_eq]
    exact ⟨ha 0 n x rfl rfl, win_all (by simpa using h) fun k n' x' h1 h2 => ha (k + 1) n' x' (by simpa using h1) (by simpa using h2)⟩

/-- what isM asks, part by part -/
theorem isM_iff (r : Rc) : isM r = true ↔ (1 ≤ r.kind ∧ r.kind ≤ 15) ∧ win r.nums lims = true ∧ win (sizes r.texts) [⟨0, 40⟩, ⟨0, 10⟩] = true := by
  simp [isM, win, and_assoc]

theorem isM_parts {r : Rc} (h : isM r = true) : ∃ m : Mg, r = m.rc ∧ ofR r = m := by
  obtain ⟨kind, nums, texts⟩ := r
  simp only [isM, Bool.and_eq_true] at h
  obtain ⟨⟨_, h1⟩, h2⟩ := h
  have l1 := win_len h1
  have l2 := win_len h2
  simp only [sizes, List.length_map] at l2
  match nums, l1, texts, l2 with
  | [a, b, c, d, e, f, g, h, i, j], _, [s, t], _ => exact ⟨⟨kind, a, b, c, d, e, f, g, h, i, j, s, t⟩, rfl, rfl⟩

theorem ofR_rc (m : Mg) : ofR m.rc = m := rfl
theorem rc_inj {a b : Mg} (h : a.rc = b.rc) : a = b := by rw [← ofR_rc a, ← ofR_rc b, h]

/-- the bounds of a message that may be -/
theorem may_iff (m : Mg) : may m = true ↔ (1 ≤ m.kind ∧ m.kind ≤ 15) ∧ (0 ≤ m.epoch ∧ m.epoch ≤ big) ∧ (0 ≤ m.seq ∧ m.seq ≤ big) ∧ (-big ≤ m.n ∧ m.n ≤ big) ∧ (-1 ≤ m.block ∧ m.block ≤ 31) ∧ (-1 ≤ m.client ∧ m.client ≤ 3) ∧ (0 ≤ m.e ∧ m.e ≤ 31) ∧
    (0 ≤ m.t0 ∧ m.t0 ≤ big) ∧ (0 ≤ m.t1 ∧ m.t1 ≤ big) ∧ (0 ≤ m.t2 ∧ m.t2 ≤ big) ∧ (0 ≤ m.t3 ∧ m.t3 ≤ big) ∧ m.data.size ≤ 40 ∧ m.row.size ≤ 10 := by
  simp only [may, isM, Mg.rc, Mg.nums, Mg.texts, sizes, lims, win, List.map, Bool.and_eq_true, decide_eq_true_eq, Bool.and_true]
  constructor
  · intro h
    have h1 : 1 ≤ m.kind := of_decide_eq_true h.1.1.1
    have h2 : m.kind ≤ 15 := of_decide_eq_true h.1.1.2
    refine ⟨?_, ?_, ?_, ?_, ?_, ?_, ?_, ?_, ?_, ?_, ?_, ?_, ?_⟩ <;> omega
  · intro h
    refine ⟨⟨⟨decide_eq_true h.1.1, decide_eq_true h.1.2⟩, ?_⟩, ?_⟩ <;> omega

theorem may_rec {m : Mg} (h : may m = true) : C.M.May m.rc ∧ C.M.Fits m.rc := by
  rw [may_iff] at h
  simp only [big] at h
  refine ⟨⟨?_, ?_, ?_, ?_, ?_⟩, ?_⟩
  · simp only [Mg.rc]; omega
  · simp only [Mg.rc]; omega
  · simp [Mg.rc, Mg.nums]
  · simp [Mg.rc, Mg.texts]
  · intro t ht
    simp [Mg.rc, Mg.texts] at ht
    rcases ht with rfl | rfl <;> omega
  · intro x hx
    simp [Mg.rc, Mg.nums] at hx
    simp only [fits]
    rcases hx with rfl | rfl | rfl | rfl | rfl | rfl | rfl | rfl | rfl | rfl <;> omega

/-- a message's bytes -/
def bytes (m : Mg) : List UInt8 := enc m.rc
/-- the message that bytes are -/
def read (l : List UInt8) : Option Mg :=
  match dec l with
  | some r => if isM r = true then some (ofR r) else none
  | none => none

theorem read_bytes {m : Mg} (h : may m = true) : read (bytes m) = some m := by
  obtain ⟨h1, h2⟩ := may_rec h
  have h3 : isM m.rc = true := h
  unfold read bytes
  rw [C.M.dec_enc h1 h2]
  simp only [h3, if_true, ofR_rc]
theorem bytes_read {l : List UInt8} {m : Mg} (h : read l = some m) : may m = true ∧ l = bytes m := by
  unfold read at h
  cases hd : dec l with
  | none => rw [hd] at h; cases h
  | some r =>
    rw [hd] at h
    by_cases hi : isM r = true
    · simp only [hi, if_true] at h
      injection h with h
      obtain ⟨m', hm, ho⟩ := isM_parts hi
      rw [ho] at h
      subst h
      obtain ⟨_, _, hl⟩ := C.M.enc_dec hd
      refine ⟨by unfold may; rw [← hm]; exact hi, ?_⟩
      unfold bytes
      rw [← hm]
      exact hl
    · simp only [hi] at h
      cases h
theorem bytes_len {m : Mg} (h : may m = true) : 2 ≤ (bytes m).length ∧ (bytes m).length ≤ 200 := by
  obtain ⟨h1, h2⟩ := may_rec h
  refine ⟨(C.M.enc_le h1).1, ?_⟩
  rw [may_iff] at h
  unfold bytes
  rw [C.M.enc_len]
  have hn := fun x => (C.M.num_len x).2
  simp only [Mg.rc, Mg.nums, Mg.texts, List.map, List.sum_cons, List.sum_nil]
  have a0 := hn m.epoch
  have a1 := hn m.seq
  have a2 := hn m.n
  have a3 := hn m.block
  have a4 := hn m.client
  have a5 := hn m.e
  have a6 := hn m.t0
  have a7 := hn m.t1
  have a8 := hn m.t2
  have a9 := hn m.t3
  omega
theorem bytes_inj {a b : Mg} (ha : may a = true) (hb : may b = true) (h : bytes a = bytes b) : a = b := by
  have := read_bytes ha
  rw [h, read_bytes hb] at this
  injection this with this
  exact this.symm
theorem read_cut {m : Mg} (h : may m = true) {n : Nat} (hn : n < (bytes m).length) : read ((bytes m).take n) = none := by
  obtain ⟨h1, h2⟩ := may_rec h
  unfold read bytes
  rw [C.M.dec_cut h1 h2 n hn]
theorem read_more {m : Mg} (h : may m = true) {x : List UInt8} (hx : x ≠ []) : read (bytes m ++ x) = none := by
  obtain ⟨h1, h2⟩ := may_rec h
  unfold read bytes
  rw [C.M.dec_more h1 h2 x hx]
end Go.Proofs.YtofhijnfbilieaaGreat.Ml
namespace Go.Proofs.YtofhijnfbilieaaGreat.Ml
open Go.RowKit
set_option linter.unusedVariables false
set_option linter.unusedSimpArgs false
set_option maxRecDepth 20000

/-! what stays: all blocks but those of l -/
structure But (l : List Nat) (w w' : World) : Prop where
  os : w'.os = w.os
  tape : w'.tape = w.tape
  output : w'.output = w.output
  size : w.heap.size ≤ w'.heap.size
  block : ∀ k, k < w.heap.size → k ∉ l → w'.heap[k]? = w.heap[k]?

theorem But.refl (l : List Nat) (w : World) : But l w w := ⟨rfl, rfl, rfl, Nat.le_refl _, fun _ _ _ => rfl⟩
theorem But.trans {l : List Nat} {a b c : World} (h : But l a b) (k : But l b c) : But l a c :=
  ⟨k.os.trans h.os, k.tape.trans h.tape, k.output.trans h.output, Nat.le_trans h.size k.size, fun i hi hn => (k.block i (Nat.lt_of_lt_of_le hi h.size) hn).trans (h.block i hi hn)⟩
theorem But.mono {l m : List Nat} {a b : World} (h : But l a b) (hs : ∀ x, x ∈ l → x ∈ m) : But m a b := ⟨h.os, h.tape, h.output, h.size, fun i hi hn => h.block i hi fun hl => hn (hs i hl)⟩
/-- what is new since may be written, too -/
theorem But.then {l m : List Nat} {a b c : World} (h : But l a b) (k : But m b c) (hm : ∀ x ∈ m, x ∈ l ∨ a.heap.size ≤ x) : But l a c :=
  ⟨k.os.trans h.os, k.tape.trans h.tape, k.output.trans h.output, Nat.le_trans h.size k.size, fun i hi hn =>
    (k.block i (Nat.lt_of_lt_of_le hi h.size) (fun hx => by rcases hm i hx with g | g; exact hn g; omega)).trans (h.block i hi hn)⟩
theorem But.alloc {l : List Nat} {a w : World} (h : But l a w) (o : Obj) : But l a (w.alloc o) :=
  h.trans ⟨rfl, rfl, rfl, by simp, fun k hk _ => Below.heap_alloc _ _ _ hk⟩
theorem But.set {l : List Nat} {a w : World} (h : But l a w) {p : Addr} (v : Value) (hp : p.block ∈ l ∨ a.heap.size ≤ p.block) : But l a (w.setCell p v) := by
  refine ⟨h.os, h.tape, h.output, by simpa [World.setCell] using h.size, fun k hk hn => ?_⟩
  have hne : k ≠ p.block := by
    rintro rfl
    rcases hp with hp | hp
    · exact hn hp
    · omega
  exact (Below.heap_setCell w p v k hne).trans (h.block k hk hn)
theorem But.drew {l : List Nat} {a w : World} (h : But l a w) : But l a w.drew := ⟨h.os, h.tape, h.output, h.size, h.block⟩
theorem But.drewN {l : List Nat} {a w : World} (h : But l a w) (n : Nat) : But l a (w.drewN n) := ⟨h.os, h.tape, h.output, h.size, h.block⟩
theorem But.grown {l : List Nat} {a w w' : World} {row : Option Nat} (h : But l a w) (hg : w.grownBy w' row) (hr : ∀ k, row = some k → k ∈ l ∨ a.heap.size ≤ k) : But l a w' := by
  refine ⟨hg.os.trans h.os, hg.tape.trans h.tape, hg.output.trans h.output, Nat.le_trans h.size hg.size, fun k hk hn => ?_⟩
  have hne : some k ≠ row := by
    intro e
    rcases hr k e.symm with h1 | h1
    · exact hn h1
    · omega
  exact (hg.block k (Nat.lt_of_lt_of_le hk h.size) hne).trans (h.block k hk hn)
theorem But.below {l : List Nat} {a w w' : World} {B : Nat} (h : But l a w) (hb : Below B w w') (hB : a.heap.size ≤ B) : But l a w' :=
  ⟨hb.os.trans h.os, hb.tape.trans h.tape, hb.output.trans h.output, Nat.le_trans h.size hb.size, fun k hk hn => (hb.block k (by omega)).trans (h.block k hk hn)⟩
theorem But.to_below {l : List Nat} {a w : World} {B : Nat} (h : But l a w) (hl : ∀ x ∈ l, B ≤ x) (hB : B ≤ a.heap.size) : Below B a w :=
  ⟨h.os, h.tape, h.output, h.size, fun k hk => h.block k (by omega) fun hm => by have := hl k hm; omega⟩
theorem But.of_below {a w : World} (h : Below a.heap.size a w) : But [] a w := (But.refl _ _).below h (Nat.le_refl _)
theorem But.cell {l : List Nat} {a w : World} (h : But l a w) {b o : Nat} (hb : b < a.heap.size) (hn : b ∉ l) : w.cell? ⟨b, o, none⟩ = a.cell? ⟨b, o, none⟩ := World.cell?_of_block (w := a) (h.block b hb hn)
theorem But.frozen {l : List Nat} {a w : World} (h : But l a w) {b o : Nat} (hb : b < a.heap.size) (hn : b ∉ l) : w.frozen? ⟨b, o, none⟩ = a.frozen? ⟨b, o, none⟩ := World.frozen?_of_block (w := a) (h.block b hb hn)
theorem below_drewN (w : World) (n : Nat) : Below w.heap.size w (w.drewN n) := ⟨rfl, rfl, rfl, Nat.le_refl _, fun _ _ => rfl⟩

/-! a row of limits, as cells -/
def lms : List Lm → List Value
  | [] => []
  | x :: l => .int .i64 x.lo :: .int .i64 x.hi :: lms l
/-- a limit as a value -/
def lmV (x : Lm) : Value := .agg #[.int .i64 x.lo, .int .i64 x.hi]

theorem lms_length : ∀ l : List Lm, (lms l).length = l.length * 2
  | [] => rfl
  | x :: l => by simp only [lms, List.length_cons, lms_length l]; omega
theorem lms_append : ∀ l m : List Lm, lms (l ++ m) = lms l ++ lms m
  | [], m => rfl
  | x :: l, m => by simp only [lms, List.cons_append, lms_append l m]
theorem lms_get : ∀ {l : List Lm} {i : Nat} {x : Lm}, l[i]? = some x → (lms l)[i * 2]? = some (.int .i64 x.lo) ∧ (lms l)[i * 2 + 1]? = some (.int .i64 x.hi)
  | [], i, x, h => by simp at h
  | q :: l, 0, x, h => by simp at h; subst h; exact ⟨rfl, rfl⟩
  | q :: l, i + 1, x, h => by
    have := lms_get (l := l) (i := i) (x := x) (by simpa using h)
    rw [show (i + 1) * 2 = i * 2 + 1 + 1 by omega]
    simpa [lms] using this
theorem lms_drop : ∀ (l : List Lm) (k : Nat), (lms l).drop (k * 2) = lms (l.drop k)
  | l, 0 => by simp
  | [], k + 1 => by simp [lms]
  | x :: l, k + 1 => by
    rw [show (k + 1) * 2 = k * 2 + 1 + 1 by omega]
    simpa [lms] using lms_drop l k
theorem lms_take : ∀ (l : List Lm) (k : Nat), (lms l).take (k * 2) = lms (l.take k)
  | l, 0 => by simp [lms]
  | [], k + 1 => by simp [lms]
  | x :: l, k + 1 => by
    rw [show (k + 1) * 2 = k * 2 + 1 + 1 by omega]
    simpa [lms] using lms_take l k
theorem lms_one : ∀ l : List Lm, ∀ u ∈ lms l, u.oneCell' = true
  | [], u, h => by simp [lms] at h
  | x :: l, u, h => by
    simp only [lms, List.mem_cons] at h
    rcases h with rfl | rfl | h
    · rfl
    · rfl
    · exact lms_one l u h

theorem lm_info : (Tryz.prog.info? 149).map (fun i => (i.zero, i.size, i.bytes)) = some (some (.agg #[.int .i64 0, .int .i64 0]), 2, 16) := by kernel_rfl

/-- a slice that reads as limits -/
def RdM (w : World) (a : Option Addr) (n : Nat) (l : List Lm) : Prop :=
  l.length = n ∧ (n = 0 ∨ ∃ b off, a = some ⟨b, off, none⟩ ∧ b < w.heap.size ∧ ∀ j u, (lms l)[j]? = some u → w.cell? ⟨b, off + j, none⟩ = some u)

theorem lt_of_heap {w : World} {g : Nat} {o : Obj} (h : w.heap[g]? = some o) : g < w.heap.size := (Array.getElem?_eq_some_iff.1 h).1
theorem addr_add (b off k : Nat) : ((⟨b, off, none⟩ : Addr).add k) = ⟨b, off + k, none⟩ := by by_cases z : k = 0 <;> simp [Addr.add, z]

theorem RdM.nil (w : World) (a : Option Addr) : RdM w a 0 [] := ⟨rfl, .inl rfl⟩
theorem RdM.at {w : World} {a : Option Addr} {n : Nat} {l : List Lm} (h : RdM w a n l) {i : Nat} {x : Lm} (hx : l[i]? = some x) :
    ∃ b off, a = some ⟨b, off, none⟩ ∧ b < w.heap.size ∧ w.cell? ⟨b, off + i * 2, none⟩ = some (.int .i64 x.lo) ∧ w.cell? ⟨b, off + i * 2 + 1, none⟩ = some (.int .i64 x.hi) := by
  have hi := (List.getElem?_eq_some_iff.1 hx).1
  rcases h.2 with h0 | ⟨b, off, ha, hb, hc⟩
  · have := h.1; omega
  · obtain ⟨k1, k2⟩ := lms_get hx
    exact ⟨b, off, ha, hb, hc _ _ k1, by rw [Nat.add_assoc]; exact hc _ _ k2⟩
theorem RdM.keep {w w' : World} {a : Option Addr} {n : Nat} {l : List Lm} (h : RdM w a n l) (hs : w.heap.size ≤ w'.heap.size) (hk : ∀ b off, a = some ⟨b, off, none⟩ → b < w.heap.size → w'.heap[b]? = w.heap[b]?) : RdM w' a n l := by
  refine ⟨h.1, ?_⟩
  rcases h.2 with h0 | ⟨b, off, ha, hb, hc⟩
  · exact .inl h0
  · exact .inr ⟨b, off, ha, by omega, fun j u hu => (World.cell?_of_block (w := w) (a := ⟨b, off + j, none⟩) (hk b off ha hb)).trans (hc j u hu)⟩
theorem RdM.below {w w' : World} {a : Option Addr} {n : Nat} {l : List Lm} (h : RdM w a n l) {B : Nat} (hb : Below B w w') (hB : w.heap.size ≤ B) : RdM w' a n l := h.keep hb.size fun b off _ hlt => hb.block b (by omega)
theorem RdM.drew {w : World} {a : Option Addr} {n : Nat} {l : List Lm} (h : RdM w a n l) (q : Nat) : RdM (w.drewN q) a n l := h
theorem RdM.drop {w : World} {b off n : Nat} {l : List Lm} (h : RdM w (some ⟨b, off, none⟩) n l) (k : Nat) (hk : k ≤ n) : RdM w (some ⟨b, off + k * 2, none⟩) (n - k) (l.drop k) := by
  refine ⟨by simp [h.1], ?_⟩
  rcases h.2 with h0 | ⟨b', off', ha, hb, hc⟩
  · exact .inl (by omega)
  · injection ha with ha
    injection ha with e1 e2
    subst e1 e2
    refine .inr ⟨b, off + k * 2, rfl, hb, fun j u hu => ?_⟩
    rw [← lms_drop, List.getElem?_drop] at hu
    rw [Nat.add_assoc]
    exact hc _ u hu

/-- an own row of limits -/
def OwnM (w : World) (a : Option Addr) (cap : Nat) (l : List Lm) : Prop :=
  (a = none ∧ cap = 0 ∧ l = []) ∨ ∃ g cur, a = some ⟨g, 0, none⟩ ∧ w.heap[g]? = some (.cells cur 149 (0, 0)) ∧ l.length ≤ cap ∧ cap ≤ maxLen ∧ cap * 2 ≤ cur.size ∧ cur.toList.take (l.length * 2) = lms l
/-- the block of a row, if it has one -/
def blk (p : Nat) : Option Addr → Nat
  | some a => a.block
  | none => p

theorem OwnM.nil (w : World) : OwnM w none 0 [] := .inl ⟨rfl, rfl, rfl⟩
theorem OwnM.cap {w : World} {a : Option Addr} {cap : Nat} {l : List Lm} (h : OwnM w a cap l) : l.length ≤ cap ∧ cap ≤ maxLen := by
  rcases h with ⟨rfl, rfl, rfl⟩ | ⟨g, cur, rfl, h1, h2, h3, h4, h5⟩
  · simp [maxLen]
  · exact ⟨h2, h3⟩
theorem OwnM.of_block {w w' : World} {a : Option Addr} {cap : Nat} {l : List Lm} (h : OwnM w a cap l) {p : Nat} (hb : w'.heap[blk p a]? = w.heap[blk p a]?) : OwnM w' a cap l := by
  rcases h with h | ⟨g, cur, rfl, h1, h2⟩
  · exact .inl h
  · exact .inr ⟨g, cur, rfl, by simp only [blk] at hb; rw [hb]; exact h1, h2⟩
theorem OwnM.lt {w : World} {a : Option Addr} {cap : Nat} {l : List Lm} (h : OwnM w a cap l) {p : Nat} (hl : p < w.heap.size) : blk p a < w.heap.size := by
  rcases h with ⟨rfl, rfl, rfl⟩ | ⟨g, cur, rfl, h1, h2, h3, h4, h5⟩
  · exact hl
  · exact lt_of_heap h1
theorem OwnM.but {w w' : World} {a : Option Addr} {cap : Nat} {l : List Lm} (h : OwnM w a cap l) {q : List Nat} (hb : But q w w') {p : Nat} (hp : blk p a ∉ q) : OwnM w' a cap l := by
  rcases h with h | ⟨g, cur, rfl, h1, h2⟩
  · exact .inl h
  · exact .inr ⟨g, cur, rfl, by rw [hb.block g (lt_of_heap h1) hp]; exact h1, h2⟩
theorem OwnM.below {w w' : World} {a : Option Addr} {cap : Nat} {l : List Lm} (h : OwnM w a cap l) {B : Nat} (hb : Below B w w') (hB : w.heap.size ≤ B) : OwnM w' a cap l := by
  rcases h with h | ⟨g, cur, rfl, h1, h2⟩
  · exact .inl h
  · exact .inr ⟨g, cur, rfl, by rw [hb.block g (by have := lt_of_heap h1; omega)]; exact h1, h2⟩
theorem OwnM.drew {w : World} {a : Option Addr} {cap : Nat} {l : List Lm} (h : OwnM w a cap l) (q : Nat) : OwnM (w.drewN q) a cap l := h
theorem OwnM.rd {w : World} {a : Option Addr} {cap : Nat} {l : List Lm} (h : OwnM w a cap l) : RdM w a l.length l := by
  refine ⟨rfl, ?_⟩
  rcases h with ⟨rfl, rfl, rfl⟩ | ⟨g, cur, rfl, h1, h2, h3, h4, h5⟩
  · exact .inl rfl
  · refine .inr ⟨g, 0, rfl, lt_of_heap h1, fun j u hu => ?_⟩
    have hj := (List.getElem?_eq_some_iff.1 hu).1
    rw [lms_length] at hj
    rw [← h5, List.getElem?_take, if_pos hj, Array.getElem?_toList] at hu
    simp only [World.cell?, h1, Nat.zero_add]
    simpa using hu
/-- a beginning of an own row, its room cut -/
theorem OwnM.cut {w : World} {a : Option Addr} {cap : Nat} {l : List Lm} (h : OwnM w a cap l) (k : Nat) (hk : k ≤ l.length) : OwnM w a k (l.take k) := by
  rcases h with ⟨rfl, rfl, rfl⟩ | ⟨g, cur, rfl, h1, h2, h3, h4, h5⟩
  · simp at hk; subst hk; exact .inl ⟨rfl, rfl, rfl⟩
  · have hm : min k l.length = k := Nat.min_eq_left hk
    refine .inr ⟨g, cur, rfl, h1, by simp; omega, by omega, Nat.le_trans (Nat.mul_le_mul_right 2 (by omega)) h4, ?_⟩
    rw [List.length_take, hm, ← lms_take, ← h5, List.take_take, Nat.min_eq_left (Nat.mul_le_mul_right 2 hk)]

/-- where a row lies behind an append: where it lay, or in a new block -/
def Anew (w : World) (a a' : Option Addr) : Prop := a' = a ∨ ∃ g, a' = some ⟨g, 0, none⟩ ∧ w.heap.size ≤ g
theorem Anew.blk {w : World} {a a' : Option Addr} (h : Anew w a a') (p : Nat) : blk p a' = blk p a ∨ w.heap.size ≤ blk p a' := by
  rcases h with rfl | ⟨g, rfl, hg⟩
  · exact .inl rfl
  · exact .inr hg
theorem Anew.refl (w : World) (a : Option Addr) : Anew w a a := .inl rfl
theorem Anew.trans {w w' : World} {a b c : Option Addr} (h : Anew w a b) (k : Anew w' b c) (hs : w.heap.size ≤ w'.heap.size) : Anew w a c := by
  rcases k with rfl | ⟨g, rfl, hg⟩
  · exact h
  · exact .inr ⟨g, rfl, by omega⟩
theorem Anew.more {w w' : World} {a b : Option Addr} (h : Anew w' a b) (hs : w.heap.size ≤ w'.heap.size) : Anew w a b := by
  rcases h with h | ⟨g, rfl, hg⟩
  · exact .inl h
  · exact .inr ⟨g, rfl, by omega⟩

theorem lay_take {α : Type} (l : List α) (o : Nat) (v : α) (ho : o < l.length) : (l.set o v).take (o + 1) = l.take o ++ [v] := by
  rw [List.take_succ_eq_append_getElem (by simpa using ho), List.getElem_set_self, List.take_set_of_le (Nat.le_refl _)]
theorem lay_drop {α : Type} (l : List α) (o k : Nat) (v : α) (h : o < k) : (l.set o v).drop k = l.drop k := List.drop_set_of_lt h
theorem obj_setCells {b : Nat} {e : TypeId} {fr : Nat × Nat} : ∀ (vs : List Value) (o : Nat) (w : World) (cur : Array Value), w.heap[b]? = some (.cells cur e fr) → o + vs.length ≤ cur.size →
    ∃ cur', (w.setCells b o vs).heap[b]? = some (.cells cur' e fr) ∧ cur'.size = cur.size ∧ cur'.toList = cur.toList.take o ++ vs ++ cur.toList.drop (o + vs.length)
  | [], o, w, cur, h, hs => ⟨cur, h, rfl, by simp⟩
  | v :: r, o, w, cur, h, hs => by
    have h1 : (w.setCell ⟨b, o, none⟩ v).heap[b]? = some (.cells (cur.setIfInBounds o v) e fr) := by
      simp only [World.setCell, Array.getElem?_modify, if_pos]
      simp [h]
    simp only [List.length_cons] at hs
    obtain ⟨cur', g1, g2, g3⟩ := obj_setCells r (o + 1) _ _ h1 (by simp; omega)
    refine ⟨cur', by rw [World.setCells]; exact g1, by rw [g2]; simp, ?_⟩
    rw [g3, Array.toList_setIfInBounds]
    simp only [List.length_cons]
    have ho : o < cur.toList.length := by rw [Array.length_toList]; omega
    rw [lay_take _ _ _ ho, lay_drop _ _ _ _ (show o < o + 1 + r.length by omega)]
    simp [show o + 1 + r.length = o + (r.length + 1) by omega]
theorem heap_setCells (b : Nat) : ∀ (vs : List Value) (o : Nat) (w : World) (k : Nat), k ≠ b → (w.setCells b o vs).heap[k]? = w.heap[k]?
  | [], _, _, _, _ => rfl
  | v :: r, o, w, k, hk => by rw [World.setCells, heap_setCells b r _ _ k hk, Below.heap_setCell _ _ _ _ hk]
theorem size_setCells (b : Nat) : ∀ (vs : List Value) (o : Nat) (w : World), (w.setCells b o vs).heap.size = w.heap.size
  | [], _, _ => rfl
  | v :: r, o, w => by rw [World.setCells, size_setCells b r]; simp [World.setCell]
theorem os_setCells (b : Nat) : ∀ (vs : List Value) (o : Nat) (w : World), (w.setCells b o vs).os = w.os ∧ (w.setCells b o vs).tape = w.tape ∧ (w.setCells b o vs).output = w.output
  | [], _, _ => ⟨rfl, rfl, rfl⟩
  | v :: r, o, w => by rw [World.setCells]; exact os_setCells b r _ _

/-- append: an own row, and any row that reads as limits -/
theorem run_append_M (w : World) (ty : TypeId) {a : Option Addr} {cap : Nat} {l : List Lm} (h : OwnM w a cap l) {ax : Option Addr} {m c : Nat} {ms : List Lm} (hx : RdM w ax m ms) (hs : l.length + m ≤ 1000) :
    ∃ a' cap' w', (Builtin.append_ #[150, 150] ty #[.slice a l.length cap, .slice ax m c]).run Tryz.prog w = .ok (.slice a' (l.length + m) cap') w' ∧ OwnM w' a' cap' (l ++ ms) ∧ w.grownBy w' (Value.slice a l.length cap).ownBlock ∧ Anew w a a' := by
  obtain ⟨i0, hi0, hz0, hz1, hz2⟩ := info_parts lm_info
  have hlm : (l ++ ms).length = l.length + m := by rw [List.length_append, hx.1]
  have hcap := h.cap
  have hml : (1000 : Nat) ≤ maxLen := by simp [maxLen]
  by_cases hm0 : m = 0
  · -- nothing is appended
    subst hm0
    obtain rfl : ms = [] := List.eq_nil_of_length_eq_zero hx.1
    have hsrc : Src Tryz.prog i0.size 150 (.slice ax 0 c) 0 [] w := by
      cases ax with
      | none => exact Src.ofNil w Tryz.underlying150 c
      | some p => exact Src.ofSlice w Tryz.underlying150 p 0 c [] (by simp) (by simp) (by simp)
    refine ⟨a, cap, w, run_append_nothing w _ _ ty _ i0 Tryz.underlying150 hi0 a l.length cap hcap.1 _ hsrc, by simpa using h, ⟨rfl, rfl, rfl, Nat.le_refl _, fun _ _ _ => rfl⟩, .inl rfl⟩
  · obtain ⟨bx, ox, rfl, hbx, hcx⟩ := hx.2.resolve_left hm0
    have hnl : (lms ms).length = m * i0.size := by rw [lms_length, hx.1, hz1]
    have hnews : ∀ j u, (lms ms)[j]? = some u → w.cell? ((⟨bx, ox, none⟩ : Addr).add j) = some u := fun j u hu => by rw [addr_add]; exact hcx j u hu
    have hsrc : Src Tryz.prog i0.size 150 (.slice (some ⟨bx, ox, none⟩) m c) m (lms ms) w := Src.ofSlice w Tryz.underlying150 _ m c _ hnl hnews (lms_one _)
    by_cases hroom : l.length + m ≤ cap
    · rcases h with ⟨rfl, rfl, rfl⟩ | ⟨g, cur, rfl, h1, h2, h3, h4, h5⟩
      · simp at hroom; omega
      · have hfit : l.length * 2 + (lms ms).length ≤ cur.size := by rw [lms_length, hx.1]; omega
        have hcell : ∀ j, j < (lms ms).length → (w.cell? ⟨g, 0 + l.length * i0.size + j, none⟩).isSome = true := fun j hj => by
          rw [hz1]
          simp only [World.cell?, h1]
          rw [Array.getElem?_eq_getElem (by omega)]; rfl
        have hfrz : ∀ j, j < (lms ms).length → w.frozen? ⟨g, 0 + l.length * i0.size + j, none⟩ = false := fun j hj => by simp [World.frozen?, h1]
        have hrun := run_append_room_src (P := Tryz.prog) w _ _ ty _ i0 Tryz.underlying150 hi0 g 0 l.length cap _ m (lms ms) hsrc hroom hcell hfrz
        rw [hz1, Nat.zero_add] at hrun
        obtain ⟨cur', c1, c2, c3⟩ := obj_setCells (lms ms) (l.length * 2) w cur h1 hfit
        refine ⟨_, _, _, hrun, .inr ⟨g, cur', rfl, c1, by omega, h3, by omega, ?_⟩, ?_, .inl rfl⟩
        · rw [hlm, c3, h5, ← lms_append]
          rw [show (l.length + m) * 2 = (lms (l ++ ms)).length by rw [lms_length, hlm]]
          exact List.take_left
        · obtain ⟨e1, e2, e3⟩ := os_setCells g (lms ms) (l.length * 2) w
          exact ⟨e1, e2, e3, Nat.le_of_eq (size_setCells _ _ _ _).symm, fun k _ hk => heap_setCells _ _ _ _ _ (fun e => hk (by simp [Value.ownBlock, e]))⟩
    · have hold : (Builtin.firstCells i0.size l.length (.slice a l.length cap)).run Tryz.prog w.drew = .ok (lms l).toArray w.drew := by
        rw [hz1]
        rcases h with ⟨rfl, rfl, rfl⟩ | ⟨g, cur, rfl, h1, h2, h3, h4, h5⟩
        · exact run_firstCells_none w.drew 2 0 0 0
        · exact run_firstCells_some w.drew 2 l.length ⟨g, 0, none⟩ l.length cap _ (lms_length l) (fun j u hu => by
            rw [addr_add]
            have hj := (List.getElem?_eq_some_iff.1 hu).1
            rw [lms_length] at hj
            rw [← h5, List.getElem?_take, if_pos hj, Array.getElem?_toList] at hu
            show w.cell? _ = _
            simp only [World.cell?, h1, Nat.zero_add]
            simpa using hu)
      have hrun := run_append_grow_src (P := Tryz.prog) w _ _ ty _ i0 _ Tryz.underlying150 hi0 hz0 a l.length cap (lms l) hold _ m (lms ms) hsrc (by omega) (by omega) (growslice_fits (by omega) (by rw [hz2]; omega))
      have hge := grownCap_ge w (l.length + m) cap 149
      have hcm := grownCap_le_maxLen w (l.length + m) cap 149 (by omega)
      refine ⟨_, _, _, hrun, .inr ⟨w.heap.size, _, rfl, heap_alloc_new w.drew _, by rw [hlm]; exact hge, hcm, ?_, ?_⟩, ⟨rfl, rfl, rfl, by simp, fun k hk _ => Below.heap_alloc w.drew _ k hk⟩, .inr ⟨_, rfl, Nat.le_refl _⟩⟩
      · have hzs : (Value.agg #[.int .i64 0, .int .i64 0]).cells.size = 2 := rfl
        simp only [Array.size_append, List.size_toArray, size_zeroCells, hzs, List.length_append, lms_length, hx.1]
        omega
      · rw [hlm, ← lms_append, Array.toList_append]
        rw [show (l.length + m) * 2 = (lms (l ++ ms)).length by rw [lms_length, hlm]]
        exact List.take_left

/-- append, as a step of a region that draws its order -/
theorem step_append_M (w : World) {ops : Array Oper} {o : Oper} {act : Act} {K : Act → World → Prop} {Q : Exit → Act → World → Prop} {E : Prop} (hgd : o.guard = none) (s x : Operand)
    (ho : o.op = .call { callee := .builtin .append, args := #[s, x], argTypes := #[150, 150] })
    (a : Option Addr) (k cap : Nat) (l : List Lm) (hs : act.eval s = .slice a k cap) (hk : l.length = k) (hown : OwnM w a cap l)
    (ax : Option Addr) (m c : Nat) (ms : List Lm) (hx : act.eval x = .slice ax m c) (hr : RdM w ax m ms) (hsum : k + m ≤ 1000)
    (h : ∀ a' cap' w', OwnM w' a' cap' (l ++ ms) → w.grownBy w' (Value.slice a k cap).ownBlock → Anew w a a' → K (act.put o.dst (.slice a' (k + m) cap')) w') :
    if Region.wanted o (yielded ops act.tmps) = true then Oper.wp Tryz.prog o act w K Q else E := by
  have hw : Region.wanted o (yielded ops act.tmps) = true := by simp [Region.wanted, hgd]
  rw [if_pos hw]
  subst hk
  obtain ⟨a', cap', w', hrun, h1, h2, h3⟩ := run_append_M w o.type hown (c := c) hr hsum
  unfold Oper.wp execOp
  simp only [ho, resolve, invoke, builtin, Sem.run_bind, Sem.run_pure, Result.andThen_ok, List.map_toArray, List.map_cons, List.map_nil, hs, hx, hrun]
  exact h a' cap' w' h1 h2 h3
/-- append in a plain region -/
theorem wpList_append_M (w : World) {ops : Array Oper} {rest : List Oper} {o : Oper} {act : Act} {Q : Exit → Act → World → Prop} (hgd : o.guard = none) (s x : Operand)
    (ho : o.op = .call { callee := .builtin .append, args := #[s, x], argTypes := #[150, 150] })
    (a : Option Addr) (k cap : Nat) (l : List Lm) (hs : act.eval s = .slice a k cap) (hk : l.length = k) (hown : OwnM w a cap l)
    (ax : Option Addr) (m c : Nat) (ms : List Lm) (hx : act.eval x = .slice ax m c) (hr : RdM w ax m ms) (hsum : k + m ≤ 1000)
    (h : ∀ a' cap' w', OwnM w' a' cap' (l ++ ms) → w.grownBy w' (Value.slice a k cap).ownBlock → Anew w a a' → wpList Tryz.prog ops Q rest (act.put o.dst (.slice a' (k + m) cap')) w') :
    wpList Tryz.prog ops Q (o :: rest) act w := by
  refine wpList_plain hgd fun K hK => ?_
  subst hk
  obtain ⟨a', cap', w', hrun, h1, h2, h3⟩ := run_append_M w o.type hown (c := c) hr hsum
  unfold Oper.wp execOp
  simp only [ho, resolve, invoke, builtin, Sem.run_bind, Sem.run_pure, Result.andThen_ok, List.map_toArray, List.map_cons, List.map_nil, hs, hx, hrun]
  exact hK _ _ (h a' cap' w' h1 h2 h3)
theorem own_row {a : Option Addr} {n cap p k : Nat} (h : (Value.slice a n cap).ownBlock = some k) : k = blk p a := by
  cases a with
  | none => simp [Value.ownBlock] at h
  | some q => simp [Value.ownBlock] at h; simp [blk, h]
end Go.Proofs.YtofhijnfbilieaaGreat.Ml
namespace Go.Proofs.YtofhijnfbilieaaGreat.Ml
open Go.RowKit
open C (Row Own i64s strs row_below row_i64 row_str own_nil own_below)
set_option linter.unusedVariables false
set_option linter.unusedSimpArgs false
set_option maxRecDepth 20000

theorem wpList_append_i64 (w : World) {ops : Array Oper} {rest : List Oper} {o : Oper} {act : Act} {Q : Exit → Act → World → Prop} (hgd : o.guard = none) (s x : Operand)
    (ho : o.op = .call { callee := .builtin .append, args := #[s, x], argTypes := #[82, 82] })
    (B : Nat) (a : Option Addr) (n cap : Nat) (l : List Int) (hs : act.eval s = .slice a n cap) (hown : Own 2 w B a n cap (i64s l))
    (A : Option Addr) (m c : Nat) (y : List Int) (hx : act.eval x = .slice A m c) (hr : Row w A m c (i64s y)) (hsum : n + m ≤ 1048576) (hB : B ≤ w.heap.size)
    (h : ∀ a' cap' w', Own 2 w' B a' (n + m) cap' (i64s (l ++ y)) → Below B w w' → wpList Tryz.prog ops Q rest (act.put o.dst (.slice a' (n + m) cap')) w') : wpList Tryz.prog ops Q (o :: rest) act w := by
  refine wpList_plain hgd fun K hK => ?_
  obtain ⟨a', cap', w', hrun, h2, h3, _, _⟩ := C.run_append_i64 w o.type B a n cap l hown A m c y hr hsum hB
  unfold Oper.wp execOp
  simp only [ho, resolve, invoke, builtin, Sem.run_bind, Sem.run_pure, Result.andThen_ok, List.map_toArray, List.map_cons, List.map_nil, hs, hx, hrun]
  exact hK _ _ (h a' cap' w' h2 h3)

theorem bDrewN {B : Nat} {w w' : World} (h : Below B w w') (n : Nat) : Below B w (w'.drewN n) := ⟨h.os, h.tape, h.output, h.size, h.block⟩

/-- a row as it was just made -/
theorem ownM_lit {w : World} {g : Nat} {l : List Lm} (h : w.heap[g]? = some (.cells (lms l).toArray 149)) (hl : l.length ≤ 1000) : OwnM w (some ⟨g, 0, none⟩) l.length l := by
  refine .inr ⟨g, (lms l).toArray, rfl, h, Nat.le_refl _, by simp [maxLen]; omega, by simp [lms_length], ?_⟩
  rw [← lms_length]; simp
theorem rdM_one {w : World} {g : Nat} {x : Lm} (h : w.heap[g]? = some (.cells #[.int .i64 x.lo, .int .i64 x.hi] 149)) : RdM w (some ⟨g, 0, none⟩) 1 [x] := (ownM_lit (l := [x]) h (by simp)).rd

theorem rdM_big (w : World) : RdM (w.alloc (.cells #[.int .i64 0, .int .i64 4611686018427387904] 149)) (some ⟨w.heap.size, 0, none⟩) 1 [⟨0, big⟩] := rdM_one (heap_alloc_new w _)

/-- limits that are being gathered -/
structure LR (w wr : World) (a : Option Addr) (cap : Nat) (l : List Lm) : Prop where
  own : OwnM wr a cap l
  be : Below w.heap.size w wr
  new : w.heap.size ≤ blk w.heap.size a
theorem LR.alloc {w wr : World} {a : Option Addr} {cap : Nat} {l : List Lm} (h : LR w wr a cap l) (o : Obj) : LR w (wr.alloc o) a cap l :=
  ⟨h.own.below ((Below.refl _ _).alloc (Nat.le_refl _) o) (Nat.le_refl _), h.be.alloc h.be.size o, h.new⟩
theorem LR.app {w wr w' : World} {a a' : Option Addr} {n cap cap' : Nat} {l l' : List Lm} (h : LR w wr a cap l) (o : OwnM w' a' cap' l') (g : wr.grownBy w' (Value.slice a n cap).ownBlock) (an : Anew wr a a') : LR w w' a' cap' l' := by
  refine ⟨o, ?_, ?_⟩
  · exact Below.grown h.be g h.be.size fun k hk => by
      rw [own_row (p := w.heap.size) hk]; exact h.new
  · rcases an.blk w.heap.size with e | e
    · rw [e]; exact h.new
    · exact Nat.le_trans h.be.size e
theorem take_lims {k : Nat} (h : k < 4) : lims.take (6 + k) ++ [⟨0, big⟩] = lims.take (6 + k + 1) := by
  rcases k with _ | _ | _ | _ | k
  · rfl
  · rfl
  · rfl
  · rfl
  · omega
theorem len_lims {k : Nat} (h : k ≤ 4) : (lims.take (6 + k)).length = 6 + k := by simp [lims]; omega

set_option maxHeartbeats 1000000 in
theorem limits_any (w : World) : Calls Tryz.prog 73 #[] w fun e w' => ∃ a cap, e = .returned (.slice a 10 cap) ∧ RdM w' a 10 lims ∧ Below w.heap.size w w' := by
  go_enter Tryz.func73, Tryz.ntmps73
  go_wp2
  go_loopw [1, 9] (fun l i wr => ∃ (k : Nat) (a : Option Addr) (cap : Nat), k ≤ 4 ∧ i = .int .i64 (k : Int) ∧ l = .slice a (6 + k) cap ∧ LR w wr a cap (lims.take (6 + k))) (fun _ i _ => 4 - (intOf i).toNat)
  case atStart => exact ⟨0, _, _, by omega, rfl, rfl, ⟨ownM_lit (l := lims.take 6) (heap_alloc_new w _) (by simp [lims]), (Below.refl _ _).alloc (Nat.le_refl _) _, Nat.le_refl _⟩⟩
  case round =>
    obtain ⟨k, a, cap, hk, rfl, rfl, hr⟩ := hrel
    have HR := Lib.hid hr
    clear hr
    by_cases hlt : k < 4
    · have hltI : (k : Int) < 4 := by omega
      have HL := Lib.hid (len_lims hk)
      have HT := Lib.hid (take_lims hlt)
      go_wp2_with (at_builtin
                   refine wpList_append_M _ rfl (.tmp 11) (.tmp 13) rfl a (6 + k) cap _ rfl HL.out (HR.out.alloc _).own _ 1 1 [⟨0, big⟩] rfl (rdM_big wr) (by omega) ?_
                   intro a' c' w5 o g an
                   have H5 : Hid (LR w w5 a' c' (lims.take (6 + k + 1))) := Lib.hid ((HR.out.alloc _).app (by rw [← HT.out]; exact o) g an)
                   clear o g an)
      go_roundw
      case rel => exact ⟨k + 1, a', c', by omega, by go_num, rfl, H5.out⟩
      case measure => simp [intOf]; omega
    · obtain rfl : k = 4 := by omega
      go_wp2
      go_ret
      exact ⟨a, cap, rfl, HR.out.own.rd, HR.out.be⟩

set_option maxHeartbeats 1000000 in
theorem lengths_any (w : World) (a : Option Addr) (n cap : Nat) (ts : List ByteArray) (h : Row w a n cap (strs ts)) (hn : n ≤ 1000) :
    Calls Tryz.prog 74 #[.slice a n cap] w fun e w' => ∃ a' cap', e = .returned (.slice a' n cap') ∧ Own 2 w' w.heap.size a' n cap' (i64s (sizes ts)) ∧ Below w.heap.size w w' := by
  have H := Lib.hid h
  have HLn : Hid (ts.length = n) := Lib.hid (by have := h.1; rw [C.strs_length] at this; exact this)
  have hcap := h.2.1
  have hmax := h.2.2.1
  clear h
  go_enter Tryz.func74, Tryz.ntmps74
  go_wp2
  go_loopw [3, 8] (fun l i wr => ∃ (k : Nat) (a : Option Addr) (cap : Nat), k ≤ n ∧ i = .int .i64 (k : Int) ∧ l = .slice a k cap ∧ Own 2 wr w.heap.size a k cap (i64s (sizes (ts.take k))) ∧ Below w.heap.size w wr) (fun _ i _ => n - (intOf i).toNat)
  case atStart => exact ⟨0, none, 0, by omega, rfl, rfl, by simpa [sizes, i64s] using own_nil 2 w w.heap.size, Below.refl _ _⟩
  case round =>
    obtain ⟨k, a2, cap2, hk, rfl, rfl, ho, hb⟩ := hrel
    have HO := Lib.hid ho
    have HB := Lib.hid hb
    clear ho hb
    by_cases hlt : k < n
    · have hltI : (k : Int) < (n : Int) := by omega
      obtain ⟨b, off, t, rfl, hbw, ht, hc0⟩ := row_str H.out k hlt
      have hc : wr.cell? ⟨b, off + k, none⟩ = some (.string t) := by
        rw [HB.out.cell (p := ⟨b, off + k, none⟩) hbw]; exact hc0
      have HT := Lib.hid ht
      clear ht hc0 hbw
      go_wp2_with (at_builtin
                   refine wpList_append_i64 _ rfl (.tmp 12) (.tmp 15) rfl w.heap.size a2 k cap2 _ rfl (own_below HO.out ((Below.refl _ _).alloc (Nat.le_refl _) _) (Nat.le_refl _)) _ 1 1 [(t.size : Int)] rfl (C.row_i64_new wr (t.size : Int)) (by omega) (by have := HB.out.size; simp; omega) ?_
                   intro a3 c3 w3 o3 b3
                   have O3 := Lib.hid o3
                   have B3 := Lib.hid ((HB.out.alloc HB.out.size _).trans b3)
                   clear o3 b3)
      go_roundw
      case rel => exact ⟨k + 1, a3, c3, by omega, by go_num, rfl, by
        have := O3.out
        rw [C.take_one HT.out]
        simpa [sizes] using this, B3.out⟩
      case measure => simp [intOf]; omega
    · obtain rfl : k = n := by omega
      have hge : (k : Int) ≤ (k : Int) := Int.le_refl _
      go_wp2
      go_ret
      exact ⟨a2, cap2, rfl, by
        have := HO.out
        rw [List.take_of_length_le (by rw [HLn.out]; exact Nat.le_refl _)] at this
        exact this, HB.out⟩

set_option maxHeartbeats 2000000 in
theorem within_any (w : World) (a : Option Addr) (n cap : Nat) (ns : List Int) (b : Option Addr) (m c : Nat) (xs : List Lm) (h : Row w a n cap (i64s ns)) (g : RdM w b m xs) (hn : n ≤ 1000) (hm : m ≤ 1000) :
    Calls Tryz.prog 72 #[.slice a n cap, .slice b m c] w fun e w' => e = .returned (.bool (win ns xs)) ∧ Below w.heap.size w w' := by
  have H := Lib.hid h
  have G := Lib.hid g
  have HN : Hid (ns.length = n) := Lib.hid (by have := h.1; rw [C.i64s_length] at this; exact this)
  have HM : Hid (xs.length = m) := Lib.hid g.1
  have hcap := h.2.1
  have hmax := h.2.2.1
  clear h g
  by_cases he : n = m
  · subst he
    go_enter Tryz.func72, Tryz.ntmps72
    go_wp2
    go_loopw [14] (fun i wr => ∃ (k : Nat), k ≤ n ∧ i = .int .i64 (k : Int) ∧ (∀ (j : Nat) (v : Int) (x : Lm), j < k → ns[j]? = some v → xs[j]? = some x → x.lo ≤ v ∧ v ≤ x.hi) ∧ Below w.heap.size w wr) (fun i _ => n - (intOf i).toNat)
    case atStart => exact ⟨0, by omega, rfl, fun j v x hj => by omega, Below.refl _ _⟩
    case round =>
      obtain ⟨k, hk, rfl, hall, hb⟩ := hrel
      have HA := Lib.hid hall
      have HB := Lib.hid hb
      clear hall hb
      by_cases hlt : k < n
      · have hltI : (k : Int) < (n : Int) := by omega
        obtain ⟨b1, o1, v, rfl, hb1, hv, hc1⟩ := row_i64 H.out k hlt
        obtain ⟨⟨lo, hi⟩, hx⟩ : ∃ x, xs[k]? = some x := ⟨_, List.getElem?_eq_getElem (by rw [HM.out]; exact hlt)⟩
        obtain ⟨b2, o2, rfl, hb2, hc2, hc3⟩ := G.out.at hx
        simp only at hc2 hc3
        have d1 : wr.cell? ⟨b1, o1 + k, none⟩ = some (.int .i64 v) := (HB.out.cell (p := ⟨b1, o1 + k, none⟩) hb1).trans hc1
        have d2 : wr.cell? ⟨b2, o2 + k * 2, none⟩ = some (.int .i64 lo) := (HB.out.cell (p := ⟨b2, o2 + k * 2, none⟩) hb2).trans hc2
        have d3 : wr.cell? ⟨b2, o2 + k * 2 + 1, none⟩ = some (.int .i64 hi) := (HB.out.cell (p := ⟨b2, o2 + k * 2 + 1, none⟩) hb2).trans hc3
        have HV := Lib.hid hv
        have HX := Lib.hid hx
        have hbr1 : b1 < wr.heap.size := Nat.lt_of_lt_of_le hb1 HB.out.size
        clear hv hx hc1 hc2 hc3 hb1 hb2
        go_wp2
        by_cases h1 : v < lo
        · have e1 : decide (v < lo) = true := decide_eq_true h1
          have HO := Lib.hid (win_out HV.out HX.out (by simp only; omega))
          clear h1
          go_quiet (fail)
          go_wp2
          go_ret
          exact ⟨by rw [HO.out]; rfl, by repeat (first | with_reducible exact HB.out | refine Below.drew ?_ | refine bDrewN ?_ _ | refine Below.setCell ?_ (by have := HB.out.size; simp; try omega) _ | refine Below.alloc ?_ (by have := HB.out.size; simp; try omega) _)⟩
        · have e1 : decide (v < lo) = false := decide_eq_false h1
          by_cases h2 : hi < v
          · have e2 : decide (hi < v) = true := decide_eq_true h2
            have HO := Lib.hid (win_out HV.out HX.out (by simp only; omega))
            clear h1 h2
            go_quiet (fail)
            go_wp2
            go_ret
            exact ⟨by rw [HO.out]; rfl, by repeat (first | with_reducible exact HB.out | refine Below.drew ?_ | refine bDrewN ?_ _ | refine Below.setCell ?_ (by have := HB.out.size; simp; try omega) _ | refine Below.alloc ?_ (by have := HB.out.size; simp; try omega) _)⟩
          · have e2 : decide (hi < v) = false := decide_eq_false h2
            have HO : Hid (lo ≤ v ∧ v ≤ hi) := Lib.hid (by omega)
            clear h1 h2
            go_quiet (fail)
            go_wp2
            go_roundw
            case rel => exact ⟨k + 1, by omega, by go_num, fun j v' x' hj hv' hx' => by
              by_cases hjk : j = k
              · subst hjk
                rw [HV.out] at hv'; injection hv' with hv'; subst hv'
                rw [HX.out] at hx'; injection hx' with hx'; subst hx'
                exact HO.out
              · exact HA.out j v' x' (by omega) hv' hx', by repeat (first | with_reducible exact HB.out | refine Below.drew ?_ | refine bDrewN ?_ _ | refine Below.setCell ?_ (by have := HB.out.size; simp; try omega) _ | refine Below.alloc ?_ (by have := HB.out.size; simp; try omega) _)⟩
            case measure => simp [intOf]; omega
      · obtain rfl : k = n := by omega
        have hge : (k : Int) ≤ (k : Int) := Int.le_refl _
        go_wp2
        go_ret
        exact ⟨by
          have : win ns xs = true := win_all (HN.out.trans HM.out.symm) fun j v x h1 h2 => HA.out j v x (by rw [← HN.out]; exact (List.getElem?_eq_some_iff.1 h1).1) h1 h2
          rw [this]; rfl, HB.out⟩
  · have hwf : win ns xs = false := by
      cases hw : win ns xs with
      | false => rfl
      | true => have := win_len hw; rw [HN.out, HM.out] at this; exact absurd this he
    have HW := Lib.hid hwf
    have hne : ¬ ((n : Int) = (m : Int)) := by omega
    clear hwf
    go_enter Tryz.func72, Tryz.ntmps72
    go_wp2
    go_ret
    exact ⟨by rw [HW.out]; rfl, Below.refl _ _⟩
end Go.Proofs.YtofhijnfbilieaaGreat.Ml
namespace Go.Proofs.YtofhijnfbilieaaGreat.Ml
open Go.RowKit
open C (Row Own i64s strs row_below row_i64 row_str own_nil own_below own_lit own_set RecAt)
set_option linter.unusedVariables false
set_option linter.unusedSimpArgs false
set_option maxRecDepth 20000

/-- a message as a value -/
def Mg.cells (m : Mg) : Array Value := #[.int .i64 m.kind, .int .i64 m.epoch, .int .i64 m.seq, .int .i64 m.n, .int .i64 m.block, .int .i64 m.client, .int .i64 m.e, .int .i64 m.t0, .int .i64 m.t1, .int .i64 m.t2, .int .i64 m.t3, .string m.data, .string m.row]
def msgV (m : Mg) : Value := .agg m.cells

theorem msg_info : (Tryz.prog.info? 37).map (fun i => (i.zero, i.size)) = some (some (msgV nil), 13) := by kernel_rfl

theorem row_block {w w' : World} {a : Option Addr} {n cap : Nat} {vs : List Value} (h : Row w a n cap vs) (hs : w.heap.size ≤ w'.heap.size) (hb : ∀ b off, a = some ⟨b, off, none⟩ → w'.heap[b]? = w.heap[b]?) : Row w' a n cap vs := by
  obtain ⟨h1, h2, h3, h4⟩ := h
  refine ⟨h1, h2, h3, ?_⟩
  rcases h4 with h4 | ⟨b, off, ha, hlt, hc⟩
  · exact .inl h4
  · exact .inr ⟨b, off, ha, by omega, fun i hi => by rw [World.cell?_of_block (w := w) (a := ⟨b, off + i, none⟩) (hb b off ha)]; exact hc i hi⟩

theorem step_append_i64 (w : World) {ops : Array Oper} {o : Oper} {act : Act} {K : Act → World → Prop} {Q : Exit → Act → World → Prop} {E : Prop} (hgd : o.guard = none) (s x : Operand)
    (ho : o.op = .call { callee := .builtin .append, args := #[s, x], argTypes := #[82, 82] })
    (B : Nat) (a : Option Addr) (n cap : Nat) (l : List Int) (hs : act.eval s = .slice a n cap) (hown : Own 2 w B a n cap (i64s l))
    (A : Option Addr) (m c : Nat) (y : List Int) (hx : act.eval x = .slice A m c) (hr : Row w A m c (i64s y)) (hsum : n + m ≤ 1048576) (hB : B ≤ w.heap.size)
    (h : ∀ a' cap' w', Own 2 w' B a' (n + m) cap' (i64s (l ++ y)) → Below B w w' → w.grownBy w' (Value.slice a n cap).ownBlock → K (act.put o.dst (.slice a' (n + m) cap')) w') :
    if Region.wanted o (yielded ops act.tmps) = true then Oper.wp Tryz.prog o act w K Q else E := by
  have hw : Region.wanted o (yielded ops act.tmps) = true := by simp [Region.wanted, hgd]
  rw [if_pos hw]
  obtain ⟨a', cap', w', hrun, h2, h3, h4, _⟩ := C.run_append_i64 w o.type B a n cap l hown A m c y hr hsum hB
  unfold Oper.wp execOp
  simp only [ho, resolve, invoke, builtin, Sem.run_bind, Sem.run_pure, Result.andThen_ok, List.map_toArray, List.map_cons, List.map_nil, hs, hx, hrun]
  exact h a' cap' w' h2 h3 h4

/-- a part of a box that reads as numbers, as texts -/
theorem row4 {w : World} {b off : Nat} {x0 x1 x2 x3 : Int} (hb : b < w.heap.size) (h0 : w.cell? ⟨b, off, none⟩ = some (.int .i64 x0)) (h1 : w.cell? ⟨b, off + 1, none⟩ = some (.int .i64 x1)) (h2 : w.cell? ⟨b, off + 2, none⟩ = some (.int .i64 x2)) (h3 : w.cell? ⟨b, off + 3, none⟩ = some (.int .i64 x3)) :
    Row w (some ⟨b, off, none⟩) 4 4 (i64s [x0, x1, x2, x3]) := by
  refine ⟨rfl, Nat.le_refl _, by simp [maxLen], .inr ⟨b, off, rfl, hb, fun i hi => ?_⟩⟩
  rcases i with _ | _ | _ | _ | i
  · exact h0
  · exact h1
  · exact h2
  · exact h3
  · omega

/-- what is known where a record is being made -/
structure RF (w : World) (m : Mg) (w' : World) : Prop where
  be : Below w.heap.size w w'
  z : w.heap.size + 3 ≤ w'.heap.size
  c0 : w'.cell? ⟨w.heap.size, 0, none⟩ = some (.int .i64 m.kind)
  c7 : w'.cell? ⟨w.heap.size, 7, none⟩ = some (.int .i64 m.t0)
  c8 : w'.cell? ⟨w.heap.size, 7 + 1, none⟩ = some (.int .i64 m.t1)
  c9 : w'.cell? ⟨w.heap.size, 7 + 2, none⟩ = some (.int .i64 m.t2)
  c10 : w'.cell? ⟨w.heap.size, 7 + 3, none⟩ = some (.int .i64 m.t3)
  c11 : w'.cell? ⟨w.heap.size, 11, none⟩ = some (.string m.data)
  c12 : w'.cell? ⟨w.heap.size, 12, none⟩ = some (.string m.row)
  r0 : w'.cell? ⟨w.heap.size + 1, 0, none⟩ = some (.int .i64 0)
  r1 : w'.cell? ⟨w.heap.size + 1, 1, none⟩ = some (.slice none 0 0)
  r2 : w'.cell? ⟨w.heap.size + 1, 2, none⟩ = some (.slice none 0 0)
  f0 : w'.frozen? ⟨w.heap.size + 1, 0, none⟩ = false
  f1 : w'.frozen? ⟨w.heap.size + 1, 1, none⟩ = false
  f2 : w'.frozen? ⟨w.heap.size + 1, 2, none⟩ = false
theorem RF.on {w w' w'' : World} {m : Mg} (h : RF w m w') (hb : Below (w.heap.size + 2) w' w'') : RF w m w'' where
  be := h.be.trans (hb.mono (by omega))
  z := Nat.le_trans h.z hb.size
  c0 := (hb.cell (by simp)).trans h.c0
  c7 := (hb.cell (by simp)).trans h.c7
  c8 := (hb.cell (by simp)).trans h.c8
  c9 := (hb.cell (by simp)).trans h.c9
  c10 := (hb.cell (by simp)).trans h.c10
  c11 := (hb.cell (by simp)).trans h.c11
  c12 := (hb.cell (by simp)).trans h.c12
  r0 := (hb.cell (by simp)).trans h.r0
  r1 := (hb.cell (by simp)).trans h.r1
  r2 := (hb.cell (by simp)).trans h.r2
  f0 := (hb.frozen (by simp)).trans h.f0
  f1 := (hb.frozen (by simp)).trans h.f1
  f2 := (hb.frozen (by simp)).trans h.f2
theorem RF.row {w w' : World} {m : Mg} (h : RF w m w') : Row w' (some ⟨w.heap.size, 7, none⟩) 4 4 (i64s [m.t0, m.t1, m.t2, m.t3]) := row4 (by have := h.z; omega) h.c7 h.c8 h.c9 h.c10
theorem rf_start (w : World) (kind epoch seq n block client e t0 t1 t2 t3 : Int) (data row : ByteArray) :
    RF w ⟨kind, epoch, seq, n, block, client, e, t0, t1, t2, t3, data, row⟩ (((w.alloc (.cells #[.int .i64 kind, .int .i64 epoch, .int .i64 seq, .int .i64 n, .int .i64 block, .int .i64 client, .int .i64 e, .int .i64 t0, .int .i64 t1, .int .i64 t2, .int .i64 t3, .string data, .string row] 37)).alloc (.cells #[.int .i64 0, .slice none 0 0, .slice none 0 0] 99)).alloc (.cells #[.int .i64 epoch, .int .i64 seq, .int .i64 n, .int .i64 block, .int .i64 client, .int .i64 e] 2)) ∧ Own 2 (((w.alloc (.cells #[.int .i64 kind, .int .i64 epoch, .int .i64 seq, .int .i64 n, .int .i64 block, .int .i64 client, .int .i64 e, .int .i64 t0, .int .i64 t1, .int .i64 t2, .int .i64 t3, .string data, .string row] 37)).alloc (.cells #[.int .i64 0, .slice none 0 0, .slice none 0 0] 99)).alloc (.cells #[.int .i64 epoch, .int .i64 seq, .int .i64 n, .int .i64 block, .int .i64 client, .int .i64 e] 2)) (w.heap.size + 2) (some ⟨w.heap.size + 1 + 1, 0, none⟩) 6 6 (i64s [epoch, seq, n, block, client, e]) := by
  refine ⟨?_, ?_⟩
  · constructor
    · exact (((Below.refl _ _).alloc (Nat.le_refl _) _).alloc (by simp) _).alloc (by simp; omega) _
    · simp
    all_goals go_simp
  · have := own_lit 2 ((w.alloc (.cells #[.int .i64 kind, .int .i64 epoch, .int .i64 seq, .int .i64 n, .int .i64 block, .int .i64 client, .int .i64 e, .int .i64 t0, .int .i64 t1, .int .i64 t2, .int .i64 t3, .string data, .string row] 37)).alloc (.cells #[.int .i64 0, .slice none 0 0, .slice none 0 0] 99)) (w.heap.size + 2) (i64s [epoch, seq, n, block, client, e]) (by simp) (by simp [i64s])
    rw [show ((w.alloc (.cells #[.int .i64 kind, .int .i64 epoch, .int .i64 seq, .int .i64 n, .int .i64 block, .int .i64 client, .int .i64 e, .int .i64 t0, .int .i64 t1, .int .i64 t2, .int .i64 t3, .string data, .string row] 37)).alloc (.cells #[.int .i64 0, .slice none 0 0, .slice none 0 0] 99)).heap.size = w.heap.size + 1 + 1 by simp] at this
    exact this

theorem rec_endA {w w4 : World} {m : Mg} {a : Option Addr} {cap : Nat} (F : RF w m w4) (O : Own 2 w4 (w.heap.size + 2) a 10 cap (i64s m.nums)) (v0 v1 v2 : Value) :
    RecAt ((((w4.alloc (.cells #[.string m.data, .string m.row] 9)).setCell ⟨w.heap.size + 1, 0, none⟩ v0).setCell ⟨w.heap.size + 1, 1, none⟩ v1).setCell ⟨w.heap.size + 1, 2, none⟩ v2) m.rc a 10 cap (some ⟨w4.heap.size, 0, none⟩) 2 2 ∧
      Below w.heap.size w ((((w4.alloc (.cells #[.string m.data, .string m.row] 9)).setCell ⟨w.heap.size + 1, 0, none⟩ v0).setCell ⟨w.heap.size + 1, 1, none⟩ v1).setCell ⟨w.heap.size + 1, 2, none⟩ v2) := by
  have hz := F.z
  have OT : Own 9 (w4.alloc (.cells #[.string m.data, .string m.row] 9)) (w.heap.size + 2) (some ⟨w4.heap.size, 0, none⟩) 2 2 (strs m.texts) := own_lit 9 w4 (w.heap.size + 2) (strs m.texts) (by omega) (by simp [strs, Mg.texts])
  have ON : Own 2 (w4.alloc (.cells #[.string m.data, .string m.row] 9)) (w.heap.size + 2) a 10 cap (i64s m.nums) := own_below O ((Below.refl _ _).alloc (Nat.le_refl _) _) (Nat.le_refl _)
  refine ⟨⟨(C.own_row (own_set (own_set (own_set ON v0 ?_) v1 ?_) v2 ?_)).1, (C.own_row (own_set (own_set (own_set OT v0 ?_) v1 ?_) v2 ?_)).1⟩, ?_⟩
  iterate 6 (show w.heap.size + 1 < w.heap.size + 2; omega)
  exact (((F.be.alloc F.be.size _).setCell (by simp) _).setCell (by simp) _).setCell (by simp) _

theorem rec_endB {w wt w4 : World} {m : Mg} {a : Option Addr} {cap : Nat} (F : RF w m wt) (O : Own 2 w4 (w.heap.size + 2) a 10 cap (i64s m.nums)) (g : (wt.alloc (.cells #[.string m.data, .string m.row] 9)).grownBy w4 (Value.slice (some ⟨w.heap.size + 1 + 1, 0, none⟩) 6 6).ownBlock)
    (hb : Below w.heap.size w w4) (v0 v1 v2 : Value) :
    RecAt (((w4.setCell ⟨w.heap.size + 1, 0, none⟩ v0).setCell ⟨w.heap.size + 1, 1, none⟩ v1).setCell ⟨w.heap.size + 1, 2, none⟩ v2) m.rc a 10 cap (some ⟨wt.heap.size, 0, none⟩) 2 2 ∧
      Below w.heap.size w (((w4.setCell ⟨w.heap.size + 1, 0, none⟩ v0).setCell ⟨w.heap.size + 1, 1, none⟩ v1).setCell ⟨w.heap.size + 1, 2, none⟩ v2) := by
  have hz := F.z
  have hsz := g.size
  have RT : Row (wt.alloc (.cells #[.string m.data, .string m.row] 9)) (some ⟨wt.heap.size, 0, none⟩) 2 2 (strs m.texts) := (C.own_row (own_lit 9 wt (w.heap.size + 2) (strs m.texts) (by omega) (by simp [strs, Mg.texts]))).1
  have RT4 : Row w4 (some ⟨wt.heap.size, 0, none⟩) 2 2 (strs m.texts) := row_block RT hsz fun b off hbo => by
    injection hbo with hbo
    injection hbo with hbo _
    subst hbo
    exact g.block _ (by simp) (by simp [Value.ownBlock]; omega)
  refine ⟨⟨(C.own_row (own_set (own_set (own_set O v0 ?_) v1 ?_) v2 ?_)).1, C.row_set (C.row_set (C.row_set RT4 v0 ?_) v1 ?_) v2 ?_⟩, ?_⟩
  iterate 3 (show w.heap.size + 1 < w.heap.size + 2; omega)
  iterate 3 (exact .inr fun b off hbo => by injection hbo with hbo; injection hbo with hbo _; subst hbo; show wt.heap.size ≠ w.heap.size + 1; omega)
  exact ((hb.setCell (by simp) _).setCell (by simp) _).setCell (by simp) _

set_option maxHeartbeats 4000000 in
theorem record_any (w : World) (m : Mg) :
    Calls Tryz.prog 53 #[msgV m] w fun e w' => ∃ aN cN aT cT, e = .returned (.agg #[.int .i64 m.kind, .slice aN 10 cN, .slice aT 2 cT]) ∧ RecAt w' m.rc aN 10 cN aT 2 cT ∧ Below w.heap.size w w' := by
  obtain ⟨kind, epoch, seq, n, block, client, e, t0, t1, t2, t3, data, row⟩ := m
  simp only [msgV, Mg.cells]
  have HF := Lib.hid (rf_start w kind epoch seq n block client e t0 t1 t2 t3 data row)
  go_enter Tryz.func53, Tryz.ntmps53
  go_wp2
  generalize (((w.alloc (.cells #[.int .i64 kind, .int .i64 epoch, .int .i64 seq, .int .i64 n, .int .i64 block, .int .i64 client, .int .i64 e, .int .i64 t0, .int .i64 t1, .int .i64 t2, .int .i64 t3, .string data, .string row] 37)).alloc (.cells #[.int .i64 0, .slice none 0 0, .slice none 0 0] 99)).alloc (.cells #[.int .i64 epoch, .int .i64 seq, .int .i64 n, .int .i64 block, .int .i64 client, .int .i64 e] 2)) = w3 at HF ⊢
  have F3 := Lib.hid HF.out.1
  have O3 := Lib.hid HF.out.2
  have K : Hid (∀ w', Below (w.heap.size + 1) w3 w' → w'.cell? ⟨w.heap.size, 0, none⟩ = some (.int .i64 kind) ∧ w'.cell? ⟨w.heap.size, 11, none⟩ = some (.string data) ∧ w'.cell? ⟨w.heap.size, 12, none⟩ = some (.string row)) := Lib.hid fun w' hb =>
    ⟨(hb.cell (by simp)).trans HF.out.1.c0, (hb.cell (by simp)).trans HF.out.1.c11, (hb.cell (by simp)).trans HF.out.1.c12⟩
  obtain ⟨c0, c11, c12⟩ := K.out w3 (Below.refl _ _)
  have r0 := HF.out.1.r0
  have r1 := HF.out.1.r1
  have r2 := HF.out.1.r2
  have f0 := HF.out.1.f0
  have f1 := HF.out.1.f1
  have f2 := HF.out.1.f2
  clear HF
  go_region_held3 (fun w' => w'.cell? ⟨w.heap.size, 0, none⟩ = some (.int .i64 kind) ∧ w'.cell? ⟨w.heap.size, 11, none⟩ = some (.string data) ∧ w'.cell? ⟨w.heap.size, 12, none⟩ = some (.string row))
    (first
      | (refine K.out _ ?_; (repeat (first | with_reducible exact Below.refl _ _ | with_reducible exact B4.out | refine Below.drew ?_ | refine Below.alloc ?_ (by first | (have := F4.out.z; omega) | (have := F3.out.z; simp <;> omega)) _ | refine Below.setCell ?_ (by simp) _)); done)
      | (go_keep; done))
    (first
      | (refine step_append_i64 _ (by rfl) (.tmp 19) (.tmp 21) (by rfl) (w.heap.size + 2) (some ⟨w.heap.size + 1 + 1, 0, none⟩) 6 6 [epoch, seq, n, block, client, e] (by rfl) (own_below O3.out (C := w3.heap.size) (by repeat (first | with_reducible exact Below.refl _ _ | refine Below.drew ?_ | refine Below.alloc ?_ (by simp; try omega) _)) (Nat.le_refl _)) (some ⟨w.heap.size, 7, none⟩) 4 4 [t0, t1, t2, t3] (by rfl) (row_below F3.out.row (B := w3.heap.size) (by repeat (first | with_reducible exact Below.refl _ _ | refine Below.drew ?_ | refine Below.alloc ?_ (by simp; try omega) _)) (Nat.le_refl _)) (by omega) (by have := F3.out.z; simp; try omega) ?_
         intro a4 cap4 w4 o4 b4 g4
         have B4' : Below (w.heap.size + 2) w3 w4 := Below.trans (by repeat (first | with_reducible exact Below.refl _ _ | refine Below.drew ?_ | refine Below.alloc ?_ (by have := F3.out.z; simp; try omega) _)) b4
         have F4 := Lib.hid (F3.out.on B4')
         have B4 := Lib.hid (B4'.mono (B' := w.heap.size + 1) (by omega))
         have k1 := F4.out.r0
         have k2 := F4.out.r1
         have k3 := F4.out.r2
         have k4 := F4.out.f0
         have k5 := F4.out.f1
         have k6 := F4.out.f2
         have FX := F4.out.on ((Below.refl (w.heap.size + 2) w4).alloc (by have := F4.out.z; omega) (.cells #[.string data, .string row] 9))
         have x1 := FX.r0
         have x2 := FX.r1
         have x3 := FX.r2
         have x4 := FX.f0
         have x5 := FX.f1
         have x6 := FX.f2
         clear FX B4'
         have O4 := Lib.hid o4
         clear o4 b4))
  all_goals
    go_wp2
    first
      | (refine bodyPost_ret (v := .agg #[.int .i64 kind, .slice a4 10 cap4, .slice (some ⟨w4.heap.size, 0, none⟩) 2 2]) (by simp [results, Tryz.results53, go_sem, x1, x2, x3]) rfl ?_
         exact ⟨a4, cap4, _, _, rfl, rec_endA F4.out O4.out _ _ _⟩)
      | (refine bodyPost_ret (v := .agg #[.int .i64 kind, .slice a4 10 cap4, .slice (some ⟨w3.heap.size, 0, none⟩) 2 2]) (by simp [results, Tryz.results53, go_sem, k1, k2, k3]) rfl ?_
         first
           | exact ⟨a4, cap4, _, _, rfl, rec_endB (F3.out.on (Below.drew (Below.refl _ _))) O4.out g4 F4.out.be _ _ _⟩
           | exact ⟨a4, cap4, _, _, rfl, rec_endB F3.out O4.out g4 F4.out.be _ _ _⟩)
end Go.Proofs.YtofhijnfbilieaaGreat.Ml
namespace Go.Proofs.YtofhijnfbilieaaGreat.Ml
open Go.RowKit
open C (Row Own i64s strs row_below own_below RecAt)
set_option linter.unusedVariables false
set_option linter.unusedSimpArgs false
set_option maxRecDepth 20000

theorem top_at {w : World} {o : Obj} {n : Nat} (h : w.heap.size = n) : (w.alloc o).heap[n]? = some o := by subst h; exact heap_alloc_new w o
theorem deep_at {w : World} {o : Obj} {n : Nat} (h : n < w.heap.size) : (w.alloc o).heap[n]? = w.heap[n]? := Below.heap_alloc w o n h
theorem drew_at (w : World) (n : Nat) : w.drew.heap[n]? = w.heap[n]? := rfl
theorem row_one {w : World} {g : Nat} {v : Int} (h : w.heap[g]? = some (.cells #[.int .i64 v] 2)) : Row w (some ⟨g, 0, none⟩) 1 1 (i64s [v]) := by
  refine ⟨rfl, Nat.le_refl _, by simp [maxLen], .inr ⟨g, 0, rfl, lt_of_heap h, fun i hi => ?_⟩⟩
  obtain rfl : i = 0 := by omega
  simp [World.cell?, h, i64s]
theorem within_one (w : World) (g b : Nat) (v : Int) (x : Lm) (z : Bool) (hz : win [v] [x] = z) (h1 : w.heap[g]? = some (.cells #[.int .i64 v] 2)) (h2 : w.heap[b]? = some (.cells #[.int .i64 x.lo, .int .i64 x.hi] 149)) :
    Calls Tryz.prog 72 #[.slice (some ⟨g, 0, none⟩) 1 1, .slice (some ⟨b, 0, none⟩) 1 1] w fun e w' => e = .returned (.bool z) ∧ Below w.heap.size w w' := by
  subst hz
  exact within_any w _ 1 1 [v] _ 1 1 [x] (row_one h1) (rdM_one h2) (by omega) (by omega)

theorem within_as (w : World) (a : Option Addr) (n cap : Nat) (ns : List Int) (b : Option Addr) (m c : Nat) (xs : List Lm) {z : Bool} (hz : win ns xs = z) (h : Row w a n cap (i64s ns)) (g : RdM w b m xs) (hn : n ≤ 1000) (hm : m ≤ 1000) :
    Calls Tryz.prog 72 #[.slice a n cap, .slice b m c] w fun e w' => e = .returned (.bool z) ∧ Below w.heap.size w w' := by
  subst hz
  exact within_any w a n cap ns b m c xs h g hn hm
theorem rdM_two {w : World} {g : Nat} {a b c d : Int} (h : w.heap[g]? = some (.cells #[.int .i64 a, .int .i64 b, .int .i64 c, .int .i64 d] 149)) : RdM w (some ⟨g, 0, none⟩) 2 [⟨a, b⟩, ⟨c, d⟩] := (ownM_lit (l := [⟨a, b⟩, ⟨c, d⟩]) h (by simp)).rd

set_option maxHeartbeats 4000000 in
theorem is_kind (w : World) (r : C.M.Rc) (aN : Option Addr) (nN cN : Nat) (aT : Option Addr) (nT cT : Nat) (h : RecAt w r aN nN cN aT nT cT) (hk : win [r.kind] [⟨1, 15⟩] = false) :
    Calls Tryz.prog 52 #[.agg #[.int .i64 r.kind, .slice aN nN cN, .slice aT nT cT]] w fun e w' => e = .returned (.bool false) ∧ Below w.heap.size w w' := by
  have HK := Lib.hid hk
  clear h hk
  have HB0 : Hid (Below w.heap.size w (w.alloc (.cells #[.int .i64 r.kind, .slice aN nN cN, .slice aT nT cT] 99))) := Lib.hid ((Below.refl _ _).alloc (Nat.le_refl _) _)
  have KS : Hid (∀ w', Below (w.heap.size + 1) (w.alloc (.cells #[.int .i64 r.kind, .slice aN nN cN, .slice aT nT cT] 99)) w' → (w'.cell? ⟨w.heap.size, 0, none⟩ = some (.int .i64 r.kind) ∧ w'.cell? ⟨w.heap.size, 1, none⟩ = some (.slice aN nN cN) ∧ w'.cell? ⟨w.heap.size, 2, none⟩ = some (.slice aT nT cT))) := Lib.hid fun w' hb => by
    refine ⟨?_, ?_, ?_⟩ <;> (rw [Below.cell hb (by simp)]; rw [World.cell?_alloc_mark]; rfl)
  go_enter Tryz.func52, Tryz.ntmps52
  go_wp2_with fail
  have b0 := Below.drew (Below.refl (w.heap.size + 1) (w.alloc (.cells #[.int .i64 r.kind, .slice aN nN cN, .slice aT nT cT] 99)))
  refine wp_region_noPanic ?_
  refine wp_region_held_drew (S := fun w' => w'.cell? ⟨w.heap.size, 0, none⟩ = some (.int .i64 r.kind) ∧ w'.cell? ⟨w.heap.size, 1, none⟩ = some (.slice aN nN cN) ∧ w'.cell? ⟨w.heap.size, 2, none⟩ = some (.slice aT nT cT)) (by kernel_rfl) (KS.out _ b0) (fun hHeld => ?_)
  refine wpAnyH_take (i := 0) (v := ?_) rfl (by kernel_rfl) (by kernel_rfl) (by kernel_rfl) (fun _ _ _ h => h) (Or.inl ⟨by rfl, ?_⟩) hHeld ?_
  rotate_left 1
  · (intro w hSw; (try dsimp only at hSw); go_simp; try with_reducible rfl)
  change wpAnyH _ _ _ _ _ _ _ (Act.put _ (some 3) _) _
  try simp only [Act.put, List.setIfInBounds_toArray, List.set_cons_zero, List.set_cons_succ]
  refine wpAnyH_take (i := 1) (v := ?_) rfl (by kernel_rfl) (by kernel_rfl) (by kernel_rfl) (fun _ _ _ h => h) (Or.inl ⟨by rfl, ?_⟩) hHeld ?_
  rotate_left 1
  · (intro w hSw; (try dsimp only at hSw); go_simp; try with_reducible rfl)
  change wpAnyH _ _ _ _ _ _ _ (Act.put _ (some 4) _) _
  try simp only [Act.put, List.setIfInBounds_toArray, List.set_cons_zero, List.set_cons_succ]
  refine wpAnyH_take (i := 3) (v := ?_) rfl (by kernel_rfl) (by kernel_rfl) (by kernel_rfl) (fun _ _ _ h => h) (Or.inl ⟨by rfl, ?_⟩) hHeld ?_
  rotate_left 1
  · (intro w hSw; (try dsimp only at hSw); go_simp; try with_reducible rfl)
  change wpAnyH _ _ _ _ _ _ _ (Act.put _ (some 6) _) _
  try simp only [Act.put, List.setIfInBounds_toArray, List.set_cons_zero, List.set_cons_succ]
  refine wpAnyH_ready (rs := [2, 4]) (by kernel_rfl) (by simp) ?_
  refine AllReadyH.cons rfl (fun K hK => ?_) (AllReadyH.cons rfl (fun K hK => ?_) AllReadyH.nil)
  ·
    go_simp
    have b1 := Below.alloc b0 (by have := Below.size b0; try simp at this; first | (simp; done) | omega | (simp; omega)) (.cells #[.int .i64 r.kind] 2)
    refine hK.out _ _ (KS.out _ b1) (fun hHeld => ?_)
    clear hK K
    try simp only [Act.put, List.setIfInBounds_toArray, List.set_cons_zero, List.set_cons_succ]
    refine wpAnyH_ready (rs := [4]) (by kernel_rfl) (by simp) ?_
    refine AllReadyH.cons rfl (fun K hK => ?_) AllReadyH.nil
    go_simp
    have b2 := Below.alloc b1 (by have := Below.size b1; try simp at this; first | (simp; done) | omega | (simp; omega)) (.cells #[.int .i64 1, .int .i64 15] 149)
    refine hK.out _ _ (KS.out _ b2) (fun hHeld => ?_)
    clear hK K
    try simp only [Act.put, List.setIfInBounds_toArray, List.set_cons_zero, List.set_cons_succ]
    refine wpAnyH_ready (rs := [5]) (by kernel_rfl) (by simp) ?_
    refine AllReadyH.cons rfl (fun K hK => ?_) AllReadyH.nil
    go_simp
    with_reducible refine (within_one _ _ _ r.kind ⟨1, 15⟩ _ HK.out (by repeat (first | exact top_at (by simp; done) | refine (drew_at _ _).trans ?_ | refine (deep_at (by simp)).trans ?_)) (by repeat (first | exact top_at (by simp; done) | refine (drew_at _ _).trans ?_ | refine (deep_at (by simp)).trans ?_))).mono ?_
    rintro e w1 ⟨rfl, hcb⟩
    have b3 := Below.trans b2 (Below.mono hcb (by have := Below.size b2; try simp at this; first | (simp; done) | omega | (simp; omega)))
    have HC1 := Lib.hid (HB0.out.trans (Below.mono b3 (by omega)))
    clear hcb
    refine hK.out _ _ (KS.out _ b3) (fun hHeld => ?_)
    clear hK K
    try simp only [Act.put, List.setIfInBounds_toArray, List.set_cons_zero, List.set_cons_succ]
    refine wpAnyH_take (i := 6) (v := ?_) rfl (by kernel_rfl) (by kernel_rfl) (by kernel_rfl) (fun _ _ _ h => h) (Or.inl ⟨by rfl, ?_⟩) hHeld ?_
    rotate_left 1
    · (intro w hSw; (try dsimp only at hSw); go_simp; try with_reducible rfl)
    change wpAnyH _ _ _ _ _ _ _ (Act.put _ (some 9) _) _
    try simp only [Act.put, List.setIfInBounds_toArray, List.set_cons_zero, List.set_cons_succ]
    refine wpAnyH_take (i := 7) (v := undef) rfl (by kernel_rfl) (by kernel_rfl) (by kernel_rfl) (fun _ _ _ h => h) (Or.inr ⟨by rfl, rfl⟩) hHeld ?_
    change wpAnyH _ _ _ _ _ _ _ (Act.put _ (some 10) _) _
    try simp only [Act.put, List.setIfInBounds_toArray, List.set_cons_zero, List.set_cons_succ]
    refine wpAnyH_take (i := 8) (v := undef) rfl (by kernel_rfl) (by kernel_rfl) (by kernel_rfl) (fun _ _ _ h => h) (Or.inr ⟨by rfl, rfl⟩) hHeld ?_
    change wpAnyH _ _ _ _ _ _ _ (Act.put _ (some 11) _) _
    try simp only [Act.put, List.setIfInBounds_toArray, List.set_cons_zero, List.set_cons_succ]
    refine wpAnyH_take (i := 9) (v := undef) rfl (by kernel_rfl) (by kernel_rfl) (by kernel_rfl) (fun _ _ _ h => h) (Or.inr ⟨by rfl, rfl⟩) hHeld ?_
    change wpAnyH _ _ _ _ _ _ _ (Act.put _ (some 12) _) _
    try simp only [Act.put, List.setIfInBounds_toArray, List.set_cons_zero, List.set_cons_succ]
    refine wpAnyH_take (i := 10) (v := undef) rfl (by kernel_rfl) (by kernel_rfl) (by kernel_rfl) (fun _ _ _ h => h) (Or.inr ⟨by rfl, rfl⟩) hHeld ?_
    change wpAnyH _ _ _ _ _ _ _ (Act.put _ (some 13) _) _
    try simp only [Act.put, List.setIfInBounds_toArray, List.set_cons_zero, List.set_cons_succ]
    refine wpAnyH_take (i := 11) (v := ?_) rfl (by kernel_rfl) (by kernel_rfl) (by kernel_rfl) (fun _ _ _ h => h) (Or.inl ⟨by rfl, ?_⟩) hHeld ?_
    rotate_left 1
    · (intro w hSw; (try dsimp only at hSw); go_simp; try with_reducible rfl)
    change wpAnyH _ _ _ _ _ _ _ (Act.put _ (some 14) _) _
    try simp only [Act.put, List.setIfInBounds_toArray, List.set_cons_zero, List.set_cons_succ]
    refine wpAnyH_take (i := 12) (v := ?_) rfl (by kernel_rfl) (by kernel_rfl) (by kernel_rfl) (fun _ _ _ h => h) (Or.inl ⟨by rfl, ?_⟩) hHeld ?_
    rotate_left 1
    · (intro w hSw; (try dsimp only at hSw); go_simp; try with_reducible rfl)
    change wpAnyH _ _ _ _ _ _ _ (Act.put _ (some 15) _) _
    try simp only [Act.put, List.setIfInBounds_toArray, List.set_cons_zero, List.set_cons_succ]
    refine wpAnyH_take (i := 13) (v := undef) rfl (by kernel_rfl) (by kernel_rfl) (by kernel_rfl) (fun _ _ _ h => h) (Or.inr ⟨by rfl, rfl⟩) hHeld ?_
    change wpAnyH _ _ _ _ _ _ _ (Act.put _ (some 16) _) _
    try simp only [Act.put, List.setIfInBounds_toArray, List.set_cons_zero, List.set_cons_succ]
    refine wpAnyH_take (i := 14) (v := undef) rfl (by kernel_rfl) (by kernel_rfl) (by kernel_rfl) (fun _ _ _ h => h) (Or.inr ⟨by rfl, rfl⟩) hHeld ?_
    change wpAnyH _ _ _ _ _ _ _ (Act.put _ (some 17) _) _
    try simp only [Act.put, List.setIfInBounds_toArray, List.set_cons_zero, List.set_cons_succ]
    refine wpAnyH_take (i := 15) (v := undef) rfl (by kernel_rfl) (by kernel_rfl) (by kernel_rfl) (fun _ _ _ h => h) (Or.inr ⟨by rfl, rfl⟩) hHeld ?_
    change wpAnyH _ _ _ _ _ _ _ (Act.put _ (some 18) _) _
    try simp only [Act.put, List.setIfInBounds_toArray, List.set_cons_zero, List.set_cons_succ]
    refine wpAnyH_take (i := 16) (v := undef) rfl (by kernel_rfl) (by kernel_rfl) (by kernel_rfl) (fun _ _ _ h => h) (Or.inr ⟨by rfl, rfl⟩) hHeld ?_
    change wpAnyH _ _ _ _ _ _ _ (Act.put _ (some 19) _) _
    try simp only [Act.put, List.setIfInBounds_toArray, List.set_cons_zero, List.set_cons_succ]
    refine wpAnyH_take (i := 17) (v := undef) rfl (by kernel_rfl) (by kernel_rfl) (by kernel_rfl) (fun _ _ _ h => h) (Or.inr ⟨by rfl, rfl⟩) hHeld ?_
    change wpAnyH _ _ _ _ _ _ _ (Act.put _ (some 20) _) _
    try simp only [Act.put, List.setIfInBounds_toArray, List.set_cons_zero, List.set_cons_succ]
    refine wpAnyH_take (i := 18) (v := undef) rfl (by kernel_rfl) (by kernel_rfl) (by kernel_rfl) (fun _ _ _ h => h) (Or.inr ⟨by rfl, rfl⟩) hHeld ?_
    change wpAnyH _ _ _ _ _ _ _ (Act.put _ (some 21) _) _
    try simp only [Act.put, List.setIfInBounds_toArray, List.set_cons_zero, List.set_cons_succ]
    refine wpAnyH_take (i := 19) (v := undef) rfl (by kernel_rfl) (by kernel_rfl) (by kernel_rfl) (fun _ _ _ h => h) (Or.inr ⟨by rfl, rfl⟩) hHeld ?_
    change wpAnyH _ _ _ _ _ _ _ (Act.put _ (some 22) _) _
    try simp only [Act.put, List.setIfInBounds_toArray, List.set_cons_zero, List.set_cons_succ]
    refine wpAnyH_take (i := 20) (v := ?_) rfl (by kernel_rfl) (by kernel_rfl) (by kernel_rfl) (fun _ _ _ h => h) (Or.inl ⟨by rfl, ?_⟩) hHeld ?_
    rotate_left 1
    · (intro w hSw; (try dsimp only at hSw); go_simp; try with_reducible rfl)
    change wpAnyH _ _ _ _ _ _ _ (Act.put _ (some 23) _) _
    try simp only [Act.put, List.setIfInBounds_toArray, List.set_cons_zero, List.set_cons_succ]
    refine wpAnyH_take (i := 21) (v := ?_) rfl (by kernel_rfl) (by kernel_rfl) (by kernel_rfl) (fun _ _ _ h => h) (Or.inl ⟨by rfl, ?_⟩) hHeld ?_
    rotate_left 1
    · (intro w hSw; (try dsimp only at hSw); go_simp; try with_reducible rfl)
    change wpAnyH _ _ _ _ _ _ _ (Act.put _ (some 2) _) _
    try simp only [Act.put, List.setIfInBounds_toArray, List.set_cons_zero, List.set_cons_succ]
    refine wpAnyH_done (by kernel_rfl) ?_ _
    refine NoPanic.normal ?_
    go_wp2
    go_ret
    exact ⟨rfl, HB0.out.trans (Below.mono b3 (by omega))⟩
  ·
    go_simp
    have b1 := Below.alloc b0 (by have := Below.size b0; try simp at this; first | (simp; done) | omega | (simp; omega)) (.cells #[.int .i64 1, .int .i64 15] 149)
    refine hK.out _ _ (KS.out _ b1) (fun hHeld => ?_)
    clear hK K
    try simp only [Act.put, List.setIfInBounds_toArray, List.set_cons_zero, List.set_cons_succ]
    refine wpAnyH_ready (rs := [2]) (by kernel_rfl) (by simp) ?_
    refine AllReadyH.cons rfl (fun K hK => ?_) AllReadyH.nil
    go_simp
    have b2 := Below.alloc b1 (by have := Below.size b1; try simp at this; first | (simp; done) | omega | (simp; omega)) (.cells #[.int .i64 r.kind] 2)
    refine hK.out _ _ (KS.out _ b2) (fun hHeld => ?_)
    clear hK K
    try simp only [Act.put, List.setIfInBounds_toArray, List.set_cons_zero, List.set_cons_succ]
    refine wpAnyH_ready (rs := [5]) (by kernel_rfl) (by simp) ?_
    refine AllReadyH.cons rfl (fun K hK => ?_) AllReadyH.nil
    go_simp
    with_reducible refine (within_one _ _ _ r.kind ⟨1, 15⟩ _ HK.out (by repeat (first | exact top_at (by simp; done) | refine (drew_at _ _).trans ?_ | refine (deep_at (by simp)).trans ?_)) (by repeat (first | exact top_at (by simp; done) | refine (drew_at _ _).trans ?_ | refine (deep_at (by simp)).trans ?_))).mono ?_
    rintro e w1 ⟨rfl, hcb⟩
    have b3 := Below.trans b2 (Below.mono hcb (by have := Below.size b2; try simp at this; first | (simp; done) | omega | (simp; omega)))
    have HC1 := Lib.hid (HB0.out.trans (Below.mono b3 (by omega)))
    clear hcb
    refine hK.out _ _ (KS.out _ b3) (fun hHeld => ?_)
    clear hK K
    try simp only [Act.put, List.setIfInBounds_toArray, List.set_cons_zero, List.set_cons_succ]
    refine wpAnyH_take (i := 6) (v := ?_) rfl (by kernel_rfl) (by kernel_rfl) (by kernel_rfl) (fun _ _ _ h => h) (Or.inl ⟨by rfl, ?_⟩) hHeld ?_
    rotate_left 1
    · (intro w hSw; (try dsimp only at hSw); go_simp; try with_reducible rfl)
    change wpAnyH _ _ _ _ _ _ _ (Act.put _ (some 9) _) _
    try simp only [Act.put, List.setIfInBounds_toArray, List.set_cons_zero, List.set_cons_succ]
    refine wpAnyH_take (i := 7) (v := undef) rfl (by kernel_rfl) (by kernel_rfl) (by kernel_rfl) (fun _ _ _ h => h) (Or.inr ⟨by rfl, rfl⟩) hHeld ?_
    change wpAnyH _ _ _ _ _ _ _ (Act.put _ (some 10) _) _
    try simp only [Act.put, List.setIfInBounds_toArray, List.set_cons_zero, List.set_cons_succ]
    refine wpAnyH_take (i := 8) (v := undef) rfl (by kernel_rfl) (by kernel_rfl) (by kernel_rfl) (fun _ _ _ h => h) (Or.inr ⟨by rfl, rfl⟩) hHeld ?_
    change wpAnyH _ _ _ _ _ _ _ (Act.put _ (some 11) _) _
    try simp only [Act.put, List.setIfInBounds_toArray, List.set_cons_zero, List.set_cons_succ]
    refine wpAnyH_take (i := 9) (v := undef) rfl (by kernel_rfl) (by kernel_rfl) (by kernel_rfl) (fun _ _ _ h => h) (Or.inr ⟨by rfl, rfl⟩) hHeld ?_
    change wpAnyH _ _ _ _ _ _ _ (Act.put _ (some 12) _) _
    try simp only [Act.put, List.setIfInBounds_toArray, List.set_cons_zero, List.set_cons_succ]
    refine wpAnyH_take (i := 10) (v := undef) rfl (by kernel_rfl) (by kernel_rfl) (by kernel_rfl) (fun _ _ _ h => h) (Or.inr ⟨by rfl, rfl⟩) hHeld ?_
    change wpAnyH _ _ _ _ _ _ _ (Act.put _ (some 13) _) _
    try simp only [Act.put, List.setIfInBounds_toArray, List.set_cons_zero, List.set_cons_succ]
    refine wpAnyH_take (i := 11) (v := ?_) rfl (by kernel_rfl) (by kernel_rfl) (by kernel_rfl) (fun _ _ _ h => h) (Or.inl ⟨by rfl, ?_⟩) hHeld ?_
    rotate_left 1
    · (intro w hSw; (try dsimp only at hSw); go_simp; try with_reducible rfl)
    change wpAnyH _ _ _ _ _ _ _ (Act.put _ (some 14) _) _
    try simp only [Act.put, List.setIfInBounds_toArray, List.set_cons_zero, List.set_cons_succ]
    refine wpAnyH_take (i := 12) (v := ?_) rfl (by kernel_rfl) (by kernel_rfl) (by kernel_rfl) (fun _ _ _ h => h) (Or.inl ⟨by rfl, ?_⟩) hHeld ?_
    rotate_left 1
    · (intro w hSw; (try dsimp only at hSw); go_simp; try with_reducible rfl)
    change wpAnyH _ _ _ _ _ _ _ (Act.put _ (some 15) _) _
    try simp only [Act.put, List.setIfInBounds_toArray, List.set_cons_zero, List.set_cons_succ]
    refine wpAnyH_take (i := 13) (v := undef) rfl (by kernel_rfl) (by kernel_rfl) (by kernel_rfl) (fun _ _ _ h => h) (Or.inr ⟨by rfl, rfl⟩) hHeld ?_
    change wpAnyH _ _ _ _ _ _ _ (Act.put _ (some 16) _) _
    try simp only [Act.put, List.setIfInBounds_toArray, List.set_cons_zero, List.set_cons_succ]
    refine wpAnyH_take (i := 14) (v := undef) rfl (by kernel_rfl) (by kernel_rfl) (by kernel_rfl) (fun _ _ _ h => h) (Or.inr ⟨by rfl, rfl⟩) hHeld ?_
    change wpAnyH _ _ _ _ _ _ _ (Act.put _ (some 17) _) _
    try simp only [Act.put, List.setIfInBounds_toArray, List.set_cons_zero, List.set_cons_succ]
    refine wpAnyH_take (i := 15) (v := undef) rfl (by kernel_rfl) (by kernel_rfl) (by kernel_rfl) (fun _ _ _ h => h) (Or.inr ⟨by rfl, rfl⟩) hHeld ?_
    change wpAnyH _ _ _ _ _ _ _ (Act.put _ (some 18) _) _
    try simp only [Act.put, List.setIfInBounds_toArray, List.set_cons_zero, List.set_cons_succ]
    refine wpAnyH_take (i := 16) (v := undef) rfl (by kernel_rfl) (by kernel_rfl) (by kernel_rfl) (fun _ _ _ h => h) (Or.inr ⟨by rfl, rfl⟩) hHeld ?_
    change wpAnyH _ _ _ _ _ _ _ (Act.put _ (some 19) _) _
    try simp only [Act.put, List.setIfInBounds_toArray, List.set_cons_zero, List.set_cons_succ]
    refine wpAnyH_take (i := 17) (v := undef) rfl (by kernel_rfl) (by kernel_rfl) (by kernel_rfl) (fun _ _ _ h => h) (Or.inr ⟨by rfl, rfl⟩) hHeld ?_
    change wpAnyH _ _ _ _ _ _ _ (Act.put _ (some 20) _) _
    try simp only [Act.put, List.setIfInBounds_toArray, List.set_cons_zero, List.set_cons_succ]
    refine wpAnyH_take (i := 18) (v := undef) rfl (by kernel_rfl) (by kernel_rfl) (by kernel_rfl) (fun _ _ _ h => h) (Or.inr ⟨by rfl, rfl⟩) hHeld ?_
    change wpAnyH _ _ _ _ _ _ _ (Act.put _ (some 21) _) _
    try simp only [Act.put, List.setIfInBounds_toArray, List.set_cons_zero, List.set_cons_succ]
    refine wpAnyH_take (i := 19) (v := undef) rfl (by kernel_rfl) (by kernel_rfl) (by kernel_rfl) (fun _ _ _ h => h) (Or.inr ⟨by rfl, rfl⟩) hHeld ?_
    change wpAnyH _ _ _ _ _ _ _ (Act.put _ (some 22) _) _
    try simp only [Act.put, List.setIfInBounds_toArray, List.set_cons_zero, List.set_cons_succ]
    refine wpAnyH_take (i := 20) (v := ?_) rfl (by kernel_rfl) (by kernel_rfl) (by kernel_rfl) (fun _ _ _ h => h) (Or.inl ⟨by rfl, ?_⟩) hHeld ?_
    rotate_left 1
    · (intro w hSw; (try dsimp only at hSw); go_simp; try with_reducible rfl)
    change wpAnyH _ _ _ _ _ _ _ (Act.put _ (some 23) _) _
    try simp only [Act.put, List.setIfInBounds_toArray, List.set_cons_zero, List.set_cons_succ]
    refine wpAnyH_take (i := 21) (v := ?_) rfl (by kernel_rfl) (by kernel_rfl) (by kernel_rfl) (fun _ _ _ h => h) (Or.inl ⟨by rfl, ?_⟩) hHeld ?_
    rotate_left 1
    · (intro w hSw; (try dsimp only at hSw); go_simp; try with_reducible rfl)
    change wpAnyH _ _ _ _ _ _ _ (Act.put _ (some 2) _) _
    try simp only [Act.put, List.setIfInBounds_toArray, List.set_cons_zero, List.set_cons_succ]
    refine wpAnyH_done (by kernel_rfl) ?_ _
    refine NoPanic.normal ?_
    go_wp2
    go_ret
    exact ⟨rfl, HB0.out.trans (Below.mono b3 (by omega))⟩

set_option maxHeartbeats 4000000 in
theorem is_nums (w : World) (r : C.M.Rc) (aN : Option Addr) (nN cN : Nat) (aT : Option Addr) (nT cT : Nat) (h : RecAt w r aN nN cN aT nT cT) (hn : nN ≤ 1000) (hk : win [r.kind] [⟨1, 15⟩] = true) (hns : win r.nums lims = false) :
    Calls Tryz.prog 52 #[.agg #[.int .i64 r.kind, .slice aN nN cN, .slice aT nT cT]] w fun e w' => e = .returned (.bool false) ∧ Below w.heap.size w w' := by
  have HK := Lib.hid hk
  have HR := Lib.hid h
  have HN := Lib.hid hns
  have HnN := Lib.hid hn
  clear h hk hns hn
  have HB0 : Hid (Below w.heap.size w (w.alloc (.cells #[.int .i64 r.kind, .slice aN nN cN, .slice aT nT cT] 99))) := Lib.hid ((Below.refl _ _).alloc (Nat.le_refl _) _)
  have KS : Hid (∀ w', Below (w.heap.size + 1) (w.alloc (.cells #[.int .i64 r.kind, .slice aN nN cN, .slice aT nT cT] 99)) w' → (w'.cell? ⟨w.heap.size, 0, none⟩ = some (.int .i64 r.kind) ∧ w'.cell? ⟨w.heap.size, 1, none⟩ = some (.slice aN nN cN) ∧ w'.cell? ⟨w.heap.size, 2, none⟩ = some (.slice aT nT cT))) := Lib.hid fun w' hb => by
    refine ⟨?_, ?_, ?_⟩ <;> (rw [Below.cell hb (by simp)]; rw [World.cell?_alloc_mark]; rfl)
  go_enter Tryz.func52, Tryz.ntmps52
  go_wp2_with fail
  have b0 := Below.drew (Below.refl (w.heap.size + 1) (w.alloc (.cells #[.int .i64 r.kind, .slice aN nN cN, .slice aT nT cT] 99)))
  refine wp_region_noPanic ?_
  refine wp_region_held_drew (S := fun w' => w'.cell? ⟨w.heap.size, 0, none⟩ = some (.int .i64 r.kind) ∧ w'.cell? ⟨w.heap.size, 1, none⟩ = some (.slice aN nN cN) ∧ w'.cell? ⟨w.heap.size, 2, none⟩ = some (.slice aT nT cT)) (by kernel_rfl) (KS.out _ b0) (fun hHeld => ?_)
  refine wpAnyH_take (i := 0) (v := ?_) rfl (by kernel_rfl) (by kernel_rfl) (by kernel_rfl) (fun _ _ _ h => h) (Or.inl ⟨by rfl, ?_⟩) hHeld ?_
  rotate_left 1
  · (intro w hSw; (try dsimp only at hSw); go_simp; try with_reducible rfl)
  change wpAnyH _ _ _ _ _ _ _ (Act.put _ (some 3) _) _
  try simp only [Act.put, List.setIfInBounds_toArray, List.set_cons_zero, List.set_cons_succ]
  refine wpAnyH_take (i := 1) (v := ?_) rfl (by kernel_rfl) (by kernel_rfl) (by kernel_rfl) (fun _ _ _ h => h) (Or.inl ⟨by rfl, ?_⟩) hHeld ?_
  rotate_left 1
  · (intro w hSw; (try dsimp only at hSw); go_simp; try with_reducible rfl)
  change wpAnyH _ _ _ _ _ _ _ (Act.put _ (some 4) _) _
  try simp only [Act.put, List.setIfInBounds_toArray, List.set_cons_zero, List.set_cons_succ]
  refine wpAnyH_take (i := 3) (v := ?_) rfl (by kernel_rfl) (by kernel_rfl) (by kernel_rfl) (fun _ _ _ h => h) (Or.inl ⟨by rfl, ?_⟩) hHeld ?_
  rotate_left 1
  · (intro w hSw; (try dsimp only at hSw); go_simp; try with_reducible rfl)
  change wpAnyH _ _ _ _ _ _ _ (Act.put _ (some 6) _) _
  try simp only [Act.put, List.setIfInBounds_toArray, List.set_cons_zero, List.set_cons_succ]
  refine wpAnyH_ready (rs := [2, 4]) (by kernel_rfl) (by simp) ?_
  refine AllReadyH.cons rfl (fun K hK => ?_) (AllReadyH.cons rfl (fun K hK => ?_) AllReadyH.nil)
  ·
    go_simp
    have b1 := Below.alloc b0 (by have := Below.size b0; try simp at this; first | (simp; done) | omega | (simp; omega)) (.cells #[.int .i64 r.kind] 2)
    refine hK.out _ _ (KS.out _ b1) (fun hHeld => ?_)
    clear hK K
    try simp only [Act.put, List.setIfInBounds_toArray, List.set_cons_zero, List.set_cons_succ]
    refine wpAnyH_ready (rs := [4]) (by kernel_rfl) (by simp) ?_
    refine AllReadyH.cons rfl (fun K hK => ?_) AllReadyH.nil
    go_simp
    have b2 := Below.alloc b1 (by have := Below.size b1; try simp at this; first | (simp; done) | omega | (simp; omega)) (.cells #[.int .i64 1, .int .i64 15] 149)
    refine hK.out _ _ (KS.out _ b2) (fun hHeld => ?_)
    clear hK K
    try simp only [Act.put, List.setIfInBounds_toArray, List.set_cons_zero, List.set_cons_succ]
    refine wpAnyH_ready (rs := [5]) (by kernel_rfl) (by simp) ?_
    refine AllReadyH.cons rfl (fun K hK => ?_) AllReadyH.nil
    go_simp
    with_reducible refine (within_one _ _ _ r.kind ⟨1, 15⟩ _ HK.out (by repeat (first | exact top_at (by simp; done) | refine (drew_at _ _).trans ?_ | refine (deep_at (by simp)).trans ?_)) (by repeat (first | exact top_at (by simp; done) | refine (drew_at _ _).trans ?_ | refine (deep_at (by simp)).trans ?_))).mono ?_
    rintro e w1 ⟨rfl, hcb⟩
    have b3 := Below.trans b2 (Below.mono hcb (by have := Below.size b2; try simp at this; first | (simp; done) | omega | (simp; omega)))
    have HC1 := Lib.hid (HB0.out.trans (Below.mono b3 (by omega)))
    clear hcb
    refine hK.out _ _ (KS.out _ b3) (fun hHeld => ?_)
    clear hK K
    try simp only [Act.put, List.setIfInBounds_toArray, List.set_cons_zero, List.set_cons_succ]
    refine wpAnyH_take (i := 6) (v := ?_) rfl (by kernel_rfl) (by kernel_rfl) (by kernel_rfl) (fun _ _ _ h => h) (Or.inl ⟨by rfl, ?_⟩) hHeld ?_
    rotate_left 1
    · (intro w hSw; (try dsimp only at hSw); go_simp; try with_reducible rfl)
    change wpAnyH _ _ _ _ _ _ _ (Act.put _ (some 9) _) _
    try simp only [Act.put, List.setIfInBounds_toArray, List.set_cons_zero, List.set_cons_succ]
    refine wpAnyH_take (i := 7) (v := ?_) rfl (by kernel_rfl) (by kernel_rfl) (by kernel_rfl) (fun _ _ _ h => h) (Or.inl ⟨by rfl, ?_⟩) hHeld ?_
    rotate_left 1
    · (intro w hSw; (try dsimp only at hSw); go_simp; try with_reducible rfl)
    change wpAnyH _ _ _ _ _ _ _ (Act.put _ (some 10) _) _
    try simp only [Act.put, List.setIfInBounds_toArray, List.set_cons_zero, List.set_cons_succ]
    refine wpAnyH_take (i := 8) (v := ?_) rfl (by kernel_rfl) (by kernel_rfl) (by kernel_rfl) (fun _ _ _ h => h) (Or.inl ⟨by rfl, ?_⟩) hHeld ?_
    rotate_left 1
    · (intro w hSw; (try dsimp only at hSw); go_simp; try with_reducible rfl)
    change wpAnyH _ _ _ _ _ _ _ (Act.put _ (some 11) _) _
    try simp only [Act.put, List.setIfInBounds_toArray, List.set_cons_zero, List.set_cons_succ]
    refine wpAnyH_ready (rs := [9]) (by kernel_rfl) (by simp) ?_
    refine AllReadyH.cons rfl (fun K hK => ?_) AllReadyH.nil
    go_simp
    with_reducible refine (limits_any _).mono ?_
    rintro e w2 ⟨aL, cL, rfl, hrd, hcb⟩
    have b4 := Below.trans b3 (Below.mono hcb (by have := Below.size b3; try simp at this; first | (simp; done) | omega | (simp; omega)))
    have HL := Lib.hid hrd
    have R2 := Lib.hid (row_below HR.out.nums (HB0.out.trans (Below.mono b4 (by omega))) (Nat.le_refl _))
    clear hcb hrd
    refine hK.out _ _ (KS.out _ b4) (fun hHeld => ?_)
    clear hK K
    try simp only [Act.put, List.setIfInBounds_toArray, List.set_cons_zero, List.set_cons_succ]
    refine wpAnyH_ready (rs := [10]) (by kernel_rfl) (by simp) ?_
    refine AllReadyH.cons rfl (fun K hK => ?_) AllReadyH.nil
    go_simp
    with_reducible refine (within_as _ _ _ _ _ _ _ _ _ HN.out R2.out HL.out HnN.out (by omega)).mono ?_
    rintro e w3 ⟨rfl, hcb⟩
    have b5 := Below.trans b4 (Below.mono hcb (by have := Below.size b4; try simp at this; first | (simp; done) | omega | (simp; omega)))
    clear hcb
    refine hK.out _ _ (KS.out _ b5) (fun hHeld => ?_)
    clear hK K
    try simp only [Act.put, List.setIfInBounds_toArray, List.set_cons_zero, List.set_cons_succ]
    refine wpAnyH_take (i := 11) (v := ?_) rfl (by kernel_rfl) (by kernel_rfl) (by kernel_rfl) (fun _ _ _ h => h) (Or.inl ⟨by rfl, ?_⟩) hHeld ?_
    rotate_left 1
    · (intro w hSw; (try dsimp only at hSw); go_simp; try with_reducible rfl)
    change wpAnyH _ _ _ _ _ _ _ (Act.put _ (some 14) _) _
    try simp only [Act.put, List.setIfInBounds_toArray, List.set_cons_zero, List.set_cons_succ]
    refine wpAnyH_take (i := 12) (v := ?_) rfl (by kernel_rfl) (by kernel_rfl) (by kernel_rfl) (fun _ _ _ h => h) (Or.inl ⟨by rfl, ?_⟩) hHeld ?_
    rotate_left 1
    · (intro w hSw; (try dsimp only at hSw); go_simp; try with_reducible rfl)
    change wpAnyH _ _ _ _ _ _ _ (Act.put _ (some 15) _) _
    try simp only [Act.put, List.setIfInBounds_toArray, List.set_cons_zero, List.set_cons_succ]
    refine wpAnyH_take (i := 13) (v := undef) rfl (by kernel_rfl) (by kernel_rfl) (by kernel_rfl) (fun _ _ _ h => h) (Or.inr ⟨by rfl, rfl⟩) hHeld ?_
    change wpAnyH _ _ _ _ _ _ _ (Act.put _ (some 16) _) _
    try simp only [Act.put, List.setIfInBounds_toArray, List.set_cons_zero, List.set_cons_succ]
    refine wpAnyH_take (i := 14) (v := undef) rfl (by kernel_rfl) (by kernel_rfl) (by kernel_rfl) (fun _ _ _ h => h) (Or.inr ⟨by rfl, rfl⟩) hHeld ?_
    change wpAnyH _ _ _ _ _ _ _ (Act.put _ (some 17) _) _
    try simp only [Act.put, List.setIfInBounds_toArray, List.set_cons_zero, List.set_cons_succ]
    refine wpAnyH_take (i := 15) (v := undef) rfl (by kernel_rfl) (by kernel_rfl) (by kernel_rfl) (fun _ _ _ h => h) (Or.inr ⟨by rfl, rfl⟩) hHeld ?_
    change wpAnyH _ _ _ _ _ _ _ (Act.put _ (some 18) _) _
    try simp only [Act.put, List.setIfInBounds_toArray, List.set_cons_zero, List.set_cons_succ]
    refine wpAnyH_take (i := 16) (v := undef) rfl (by kernel_rfl) (by kernel_rfl) (by kernel_rfl) (fun _ _ _ h => h) (Or.inr ⟨by rfl, rfl⟩) hHeld ?_
    change wpAnyH _ _ _ _ _ _ _ (Act.put _ (some 19) _) _
    try simp only [Act.put, List.setIfInBounds_toArray, List.set_cons_zero, List.set_cons_succ]
    refine wpAnyH_take (i := 17) (v := undef) rfl (by kernel_rfl) (by kernel_rfl) (by kernel_rfl) (fun _ _ _ h => h) (Or.inr ⟨by rfl, rfl⟩) hHeld ?_
    change wpAnyH _ _ _ _ _ _ _ (Act.put _ (some 20) _) _
    try simp only [Act.put, List.setIfInBounds_toArray, List.set_cons_zero, List.set_cons_succ]
    refine wpAnyH_take (i := 18) (v := undef) rfl (by kernel_rfl) (by kernel_rfl) (by kernel_rfl) (fun _ _ _ h => h) (Or.inr ⟨by rfl, rfl⟩) hHeld ?_
    change wpAnyH _ _ _ _ _ _ _ (Act.put _ (some 21) _) _
    try simp only [Act.put, List.setIfInBounds_toArray, List.set_cons_zero, List.set_cons_succ]
    refine wpAnyH_take (i := 19) (v := undef) rfl (by kernel_rfl) (by kernel_rfl) (by kernel_rfl) (fun _ _ _ h => h) (Or.inr ⟨by rfl, rfl⟩) hHeld ?_
    change wpAnyH _ _ _ _ _ _ _ (Act.put _ (some 22) _) _
    try simp only [Act.put, List.setIfInBounds_toArray, List.set_cons_zero, List.set_cons_succ]
    refine wpAnyH_take (i := 20) (v := ?_) rfl (by kernel_rfl) (by kernel_rfl) (by kernel_rfl) (fun _ _ _ h => h) (Or.inl ⟨by rfl, ?_⟩) hHeld ?_
    rotate_left 1
    · (intro w hSw; (try dsimp only at hSw); go_simp; try with_reducible rfl)
    change wpAnyH _ _ _ _ _ _ _ (Act.put _ (some 23) _) _
    try simp only [Act.put, List.setIfInBounds_toArray, List.set_cons_zero, List.set_cons_succ]
    refine wpAnyH_take (i := 21) (v := ?_) rfl (by kernel_rfl) (by kernel_rfl) (by kernel_rfl) (fun _ _ _ h => h) (Or.inl ⟨by rfl, ?_⟩) hHeld ?_
    rotate_left 1
    · (intro w hSw; (try dsimp only at hSw); go_simp; try with_reducible rfl)
    change wpAnyH _ _ _ _ _ _ _ (Act.put _ (some 2) _) _
    try simp only [Act.put, List.setIfInBounds_toArray, List.set_cons_zero, List.set_cons_succ]
    refine wpAnyH_done (by kernel_rfl) ?_ _
    refine NoPanic.normal ?_
    go_wp2
    go_ret
    exact ⟨rfl, HB0.out.trans (Below.mono b5 (by omega))⟩
  ·
    go_simp
    have b1 := Below.alloc b0 (by have := Below.size b0; try simp at this; first | (simp; done) | omega | (simp; omega)) (.cells #[.int .i64 1, .int .i64 15] 149)
    refine hK.out _ _ (KS.out _ b1) (fun hHeld => ?_)
    clear hK K
    try simp only [Act.put, List.setIfInBounds_toArray, List.set_cons_zero, List.set_cons_succ]
    refine wpAnyH_ready (rs := [2]) (by kernel_rfl) (by simp) ?_
    refine AllReadyH.cons rfl (fun K hK => ?_) AllReadyH.nil
    go_simp
    have b2 := Below.alloc b1 (by have := Below.size b1; try simp at this; first | (simp; done) | omega | (simp; omega)) (.cells #[.int .i64 r.kind] 2)
    refine hK.out _ _ (KS.out _ b2) (fun hHeld => ?_)
    clear hK K
    try simp only [Act.put, List.setIfInBounds_toArray, List.set_cons_zero, List.set_cons_succ]
    refine wpAnyH_ready (rs := [5]) (by kernel_rfl) (by simp) ?_
    refine AllReadyH.cons rfl (fun K hK => ?_) AllReadyH.nil
    go_simp
    with_reducible refine (within_one _ _ _ r.kind ⟨1, 15⟩ _ HK.out (by repeat (first | exact top_at (by simp; done) | refine (drew_at _ _).trans ?_ | refine (deep_at (by simp)).trans ?_)) (by repeat (first | exact top_at (by simp; done) | refine (drew_at _ _).trans ?_ | refine (deep_at (by simp)).trans ?_))).mono ?_
    rintro e w1 ⟨rfl, hcb⟩
    have b3 := Below.trans b2 (Below.mono hcb (by have := Below.size b2; try simp at this; first | (simp; done) | omega | (simp; omega)))
    have HC1 := Lib.hid (HB0.out.trans (Below.mono b3 (by omega)))
    clear hcb
    refine hK.out _ _ (KS.out _ b3) (fun hHeld => ?_)
    clear hK K
    try simp only [Act.put, List.setIfInBounds_toArray, List.set_cons_zero, List.set_cons_succ]
    refine wpAnyH_take (i := 6) (v := ?_) rfl (by kernel_rfl) (by kernel_rfl) (by kernel_rfl) (fun _ _ _ h => h) (Or.inl ⟨by rfl, ?_⟩) hHeld ?_
    rotate_left 1
    · (intro w hSw; (try dsimp only at hSw); go_simp; try with_reducible rfl)
    change wpAnyH _ _ _ _ _ _ _ (Act.put _ (some 9) _) _
    try simp only [Act.put, List.setIfInBounds_toArray, List.set_cons_zero, List.set_cons_succ]
    refine wpAnyH_take (i := 7) (v := ?_) rfl (by kernel_rfl) (by kernel_rfl) (by kernel_rfl) (fun _ _ _ h => h) (Or.inl ⟨by rfl, ?_⟩) hHeld ?_
    rotate_left 1
    · (intro w hSw; (try dsimp only at hSw); go_simp; try with_reducible rfl)
    change wpAnyH _ _ _ _ _ _ _ (Act.put _ (some 10) _) _
    try simp only [Act.put, List.setIfInBounds_toArray, List.set_cons_zero, List.set_cons_succ]
    refine wpAnyH_take (i := 8) (v := ?_) rfl (by kernel_rfl) (by kernel_rfl) (by kernel_rfl) (fun _ _ _ h => h) (Or.inl ⟨by rfl, ?_⟩) hHeld ?_
    rotate_left 1
    · (intro w hSw; (try dsimp only at hSw); go_simp; try with_reducible rfl)
    change wpAnyH _ _ _ _ _ _ _ (Act.put _ (some 11) _) _
    try simp only [Act.put, List.setIfInBounds_toArray, List.set_cons_zero, List.set_cons_succ]
    refine wpAnyH_ready (rs := [9]) (by kernel_rfl) (by simp) ?_
    refine AllReadyH.cons rfl (fun K hK => ?_) AllReadyH.nil
    go_simp
    with_reducible refine (limits_any _).mono ?_
    rintro e w2 ⟨aL, cL, rfl, hrd, hcb⟩
    have b4 := Below.trans b3 (Below.mono hcb (by have := Below.size b3; try simp at this; first | (simp; done) | omega | (simp; omega)))
    have HL := Lib.hid hrd
    have R2 := Lib.hid (row_below HR.out.nums (HB0.out.trans (Below.mono b4 (by omega))) (Nat.le_refl _))
    clear hcb hrd
    refine hK.out _ _ (KS.out _ b4) (fun hHeld => ?_)
    clear hK K
    try simp only [Act.put, List.setIfInBounds_toArray, List.set_cons_zero, List.set_cons_succ]
    refine wpAnyH_ready (rs := [10]) (by kernel_rfl) (by simp) ?_
    refine AllReadyH.cons rfl (fun K hK => ?_) AllReadyH.nil
    go_simp
    with_reducible refine (within_as _ _ _ _ _ _ _ _ _ HN.out R2.out HL.out HnN.out (by omega)).mono ?_
    rintro e w3 ⟨rfl, hcb⟩
    have b5 := Below.trans b4 (Below.mono hcb (by have := Below.size b4; try simp at this; first | (simp; done) | omega | (simp; omega)))
    clear hcb
    refine hK.out _ _ (KS.out _ b5) (fun hHeld => ?_)
    clear hK K
    try simp only [Act.put, List.setIfInBounds_toArray, List.set_cons_zero, List.set_cons_succ]
    refine wpAnyH_take (i := 11) (v := ?_) rfl (by kernel_rfl) (by kernel_rfl) (by kernel_rfl) (fun _ _ _ h => h) (Or.inl ⟨by rfl, ?_⟩) hHeld ?_
    rotate_left 1
    · (intro w hSw; (try dsimp only at hSw); go_simp; try with_reducible rfl)
    change wpAnyH _ _ _ _ _ _ _ (Act.put _ (some 14) _) _
    try simp only [Act.put, List.setIfInBounds_toArray, List.set_cons_zero, List.set_cons_succ]
    refine wpAnyH_take (i := 12) (v := ?_) rfl (by kernel_rfl) (by kernel_rfl) (by kernel_rfl) (fun _ _ _ h => h) (Or.inl ⟨by rfl, ?_⟩) hHeld ?_
    rotate_left 1
    · (intro w hSw; (try dsimp only at hSw); go_simp; try with_reducible rfl)
    change wpAnyH _ _ _ _ _ _ _ (Act.put _ (some 15) _) _
    try simp only [Act.put, List.setIfInBounds_toArray, List.set_cons_zero, List.set_cons_succ]
    refine wpAnyH_take (i := 13) (v := undef) rfl (by kernel_rfl) (by kernel_rfl) (by kernel_rfl) (fun _ _ _ h => h) (Or.inr ⟨by rfl, rfl⟩) hHeld ?_
    change wpAnyH _ _ _ _ _ _ _ (Act.put _ (some 16) _) _
    try simp only [Act.put, List.setIfInBounds_toArray, List.set_cons_zero, List.set_cons_succ]
    refine wpAnyH_take (i := 14) (v := undef) rfl (by kernel_rfl) (by kernel_rfl) (by kernel_rfl) (fun _ _ _ h => h) (Or.inr ⟨by rfl, rfl⟩) hHeld ?_
    change wpAnyH _ _ _ _ _ _ _ (Act.put _ (some 17) _) _
    try simp only [Act.put, List.setIfInBounds_toArray, List.set_cons_zero, List.set_cons_succ]
    refine wpAnyH_take (i := 15) (v := undef) rfl (by kernel_rfl) (by kernel_rfl) (by kernel_rfl) (fun _ _ _ h => h) (Or.inr ⟨by rfl, rfl⟩) hHeld ?_
    change wpAnyH _ _ _ _ _ _ _ (Act.put _ (some 18) _) _
    try simp only [Act.put, List.setIfInBounds_toArray, List.set_cons_zero, List.set_cons_succ]
    refine wpAnyH_take (i := 16) (v := undef) rfl (by kernel_rfl) (by kernel_rfl) (by kernel_rfl) (fun _ _ _ h => h) (Or.inr ⟨by rfl, rfl⟩) hHeld ?_
    change wpAnyH _ _ _ _ _ _ _ (Act.put _ (some 19) _) _
    try simp only [Act.put, List.setIfInBounds_toArray, List.set_cons_zero, List.set_cons_succ]
    refine wpAnyH_take (i := 17) (v := undef) rfl (by kernel_rfl) (by kernel_rfl) (by kernel_rfl) (fun _ _ _ h => h) (Or.inr ⟨by rfl, rfl⟩) hHeld ?_
    change wpAnyH _ _ _ _ _ _ _ (Act.put _ (some 20) _) _
    try simp only [Act.put, List.setIfInBounds_toArray, List.set_cons_zero, List.set_cons_succ]
    refine wpAnyH_take (i := 18) (v := undef) rfl (by kernel_rfl) (by kernel_rfl) (by kernel_rfl) (fun _ _ _ h => h) (Or.inr ⟨by rfl, rfl⟩) hHeld ?_
    change wpAnyH _ _ _ _ _ _ _ (Act.put _ (some 21) _) _
    try simp only [Act.put, List.setIfInBounds_toArray, List.set_cons_zero, List.set_cons_succ]
    refine wpAnyH_take (i := 19) (v := undef) rfl (by kernel_rfl) (by kernel_rfl) (by kernel_rfl) (fun _ _ _ h => h) (Or.inr ⟨by rfl, rfl⟩) hHeld ?_
    change wpAnyH _ _ _ _ _ _ _ (Act.put _ (some 22) _) _
    try simp only [Act.put, List.setIfInBounds_toArray, List.set_cons_zero, List.set_cons_succ]
    refine wpAnyH_take (i := 20) (v := ?_) rfl (by kernel_rfl) (by kernel_rfl) (by kernel_rfl) (fun _ _ _ h => h) (Or.inl ⟨by rfl, ?_⟩) hHeld ?_
    rotate_left 1
    · (intro w hSw; (try dsimp only at hSw); go_simp; try with_reducible rfl)
    change wpAnyH _ _ _ _ _ _ _ (Act.put _ (some 23) _) _
    try simp only [Act.put, List.setIfInBounds_toArray, List.set_cons_zero, List.set_cons_succ]
    refine wpAnyH_take (i := 21) (v := ?_) rfl (by kernel_rfl) (by kernel_rfl) (by kernel_rfl) (fun _ _ _ h => h) (Or.inl ⟨by rfl, ?_⟩) hHeld ?_
    rotate_left 1
    · (intro w hSw; (try dsimp only at hSw); go_simp; try with_reducible rfl)
    change wpAnyH _ _ _ _ _ _ _ (Act.put _ (some 2) _) _
    try simp only [Act.put, List.setIfInBounds_toArray, List.set_cons_zero, List.set_cons_succ]
    refine wpAnyH_done (by kernel_rfl) ?_ _
    refine NoPanic.normal ?_
    go_wp2
    go_ret
    exact ⟨rfl, HB0.out.trans (Below.mono b5 (by omega))⟩

set_option maxHeartbeats 8000000 in
theorem is_texts (w : World) (r : C.M.Rc) (aN : Option Addr) (nN cN : Nat) (aT : Option Addr) (nT cT : Nat) (h : RecAt w r aN nN cN aT nT cT) (hn : nN ≤ 1000) (ht : nT ≤ 1000) (hk : win [r.kind] [⟨1, 15⟩] = true) (hns : win r.nums lims = true) (z : Bool) (hz : win (sizes r.texts) [⟨0, 40⟩, ⟨0, 10⟩] = z) :
    Calls Tryz.prog 52 #[.agg #[.int .i64 r.kind, .slice aN nN cN, .slice aT nT cT]] w fun e w' => e = .returned (.bool z) ∧ Below w.heap.size w w' := by
  have HK := Lib.hid hk
  have HR := Lib.hid h
  have HN := Lib.hid hns
  have HnN := Lib.hid hn
  have HnT := Lib.hid ht
  have HT := Lib.hid hz
  clear h hk hns hn ht hz
  have HB0 : Hid (Below w.heap.size w (w.alloc (.cells #[.int .i64 r.kind, .slice aN nN cN, .slice aT nT cT] 99))) := Lib.hid ((Below.refl _ _).alloc (Nat.le_refl _) _)
  have KS : Hid (∀ w', Below (w.heap.size + 1) (w.alloc (.cells #[.int .i64 r.kind, .slice aN nN cN, .slice aT nT cT] 99)) w' → (w'.cell? ⟨w.heap.size, 0, none⟩ = some (.int .i64 r.kind) ∧ w'.cell? ⟨w.heap.size, 1, none⟩ = some (.slice aN nN cN) ∧ w'.cell? ⟨w.heap.size, 2, none⟩ = some (.slice aT nT cT))) := Lib.hid fun w' hb => by
    refine ⟨?_, ?_, ?_⟩ <;> (rw [Below.cell hb (by simp)]; rw [World.cell?_alloc_mark]; rfl)
  go_enter Tryz.func52, Tryz.ntmps52
  go_wp2_with fail
  have b0 := Below.drew (Below.refl (w.heap.size + 1) (w.alloc (.cells #[.int .i64 r.kind, .slice aN nN cN, .slice aT nT cT] 99)))
  refine wp_region_noPanic ?_
  refine wp_region_held_drew (S := fun w' => w'.cell? ⟨w.heap.size, 0, none⟩ = some (.int .i64 r.kind) ∧ w'.cell? ⟨w.heap.size, 1, none⟩ = some (.slice aN nN cN) ∧ w'.cell? ⟨w.heap.size, 2, none⟩ = some (.slice aT nT cT)) (by kernel_rfl) (KS.out _ b0) (fun hHeld => ?_)
  refine wpAnyH_take (i := 0) (v := ?_) rfl (by kernel_rfl) (by kernel_rfl) (by kernel_rfl) (fun _ _ _ h => h) (Or.inl ⟨by rfl, ?_⟩) hHeld ?_
  rotate_left 1
  · (intro w hSw; (try dsimp only at hSw); go_simp; try with_reducible rfl)
  change wpAnyH _ _ _ _ _ _ _ (Act.put _ (some 3) _) _
  try simp only [Act.put, List.setIfInBounds_toArray, List.set_cons_zero, List.set_cons_succ]
  refine wpAnyH_take (i := 1) (v := ?_) rfl (by kernel_rfl) (by kernel_rfl) (by kernel_rfl) (fun _ _ _ h => h) (Or.inl ⟨by rfl, ?_⟩) hHeld ?_
  rotate_left 1
  · (intro w hSw; (try dsimp only at hSw); go_simp; try with_reducible rfl)
  change wpAnyH _ _ _ _ _ _ _ (Act.put _ (some 4) _) _
  try simp only [Act.put, List.setIfInBounds_toArray, List.set_cons_zero, List.set_cons_succ]
  refine wpAnyH_take (i := 3) (v := ?_) rfl (by kernel_rfl) (by kernel_rfl) (by kernel_rfl) (fun _ _ _ h => h) (Or.inl ⟨by rfl, ?_⟩) hHeld ?_
  rotate_left 1
  · (intro w hSw; (try dsimp only at hSw); go_simp; try with_reducible rfl)
  change wpAnyH _ _ _ _ _ _ _ (Act.put _ (some 6) _) _
  try simp only [Act.put, List.setIfInBounds_toArray, List.set_cons_zero, List.set_cons_succ]
  refine wpAnyH_ready (rs := [2, 4]) (by kernel_rfl) (by simp) ?_
  refine AllReadyH.cons rfl (fun K hK => ?_) (AllReadyH.cons rfl (fun K hK => ?_) AllReadyH.nil)
  ·
    go_simp
    have b1 := Below.alloc b0 (by have := Below.size b0; try simp at this; first | (simp; done) | omega | (simp; omega)) (.cells #[.int .i64 r.kind] 2)
    refine hK.out _ _ (KS.out _ b1) (fun hHeld => ?_)
    clear hK K
    try simp only [Act.put, List.setIfInBounds_toArray, List.set_cons_zero, List.set_cons_succ]
    refine wpAnyH_ready (rs := [4]) (by kernel_rfl) (by simp) ?_
    refine AllReadyH.cons rfl (fun K hK => ?_) AllReadyH.nil
    go_simp
    have b2 := Below.alloc b1 (by have := Below.size b1; try simp at this; first | (simp; done) | omega | (simp; omega)) (.cells #[.int .i64 1, .int .i64 15] 149)
    refine hK.out _ _ (KS.out _ b2) (fun hHeld => ?_)
    clear hK K
    try simp only [Act.put, List.setIfInBounds_toArray, List.set_cons_zero, List.set_cons_succ]
    refine wpAnyH_ready (rs := [5]) (by kernel_rfl) (by simp) ?_
    refine AllReadyH.cons rfl (fun K hK => ?_) AllReadyH.nil
    go_simp
    with_reducible refine (within_one _ _ _ r.kind ⟨1, 15⟩ _ HK.out (by repeat (first | exact top_at (by simp; done) | refine (drew_at _ _).trans ?_ | refine (deep_at (by simp)).trans ?_)) (by repeat (first | exact top_at (by simp; done) | refine (drew_at _ _).trans ?_ | refine (deep_at (by simp)).trans ?_))).mono ?_
    rintro e w1 ⟨rfl, hcb⟩
    have b3 := Below.trans b2 (Below.mono hcb (by have := Below.size b2; try simp at this; first | (simp; done) | omega | (simp; omega)))
    have HC1 := Lib.hid (HB0.out.trans (Below.mono b3 (by omega)))
    clear hcb
    refine hK.out _ _ (KS.out _ b3) (fun hHeld => ?_)
    clear hK K
    try simp only [Act.put, List.setIfInBounds_toArray, List.set_cons_zero, List.set_cons_succ]
    refine wpAnyH_take (i := 6) (v := ?_) rfl (by kernel_rfl) (by kernel_rfl) (by kernel_rfl) (fun _ _ _ h => h) (Or.inl ⟨by rfl, ?_⟩) hHeld ?_
    rotate_left 1
    · (intro w hSw; (try dsimp only at hSw); go_simp; try with_reducible rfl)
    change wpAnyH _ _ _ _ _ _ _ (Act.put _ (some 9) _) _
    try simp only [Act.put, List.setIfInBounds_toArray, List.set_cons_zero, List.set_cons_succ]
    refine wpAnyH_take (i := 7) (v := ?_) rfl (by kernel_rfl) (by kernel_rfl) (by kernel_rfl) (fun _ _ _ h => h) (Or.inl ⟨by rfl, ?_⟩) hHeld ?_
    rotate_left 1
    · (intro w hSw; (try dsimp only at hSw); go_simp; try with_reducible rfl)
    change wpAnyH _ _ _ _ _ _ _ (Act.put _ (some 10) _) _
    try simp only [Act.put, List.setIfInBounds_toArray, List.set_cons_zero, List.set_cons_succ]
    refine wpAnyH_take (i := 8) (v := ?_) rfl (by kernel_rfl) (by kernel_rfl) (by kernel_rfl) (fun _ _ _ h => h) (Or.inl ⟨by rfl, ?_⟩) hHeld ?_
    rotate_left 1
    · (intro w hSw; (try dsimp only at hSw); go_simp; try with_reducible rfl)
    change wpAnyH _ _ _ _ _ _ _ (Act.put _ (some 11) _) _
    try simp only [Act.put, List.setIfInBounds_toArray, List.set_cons_zero, List.set_cons_succ]
    refine wpAnyH_ready (rs := [9]) (by kernel_rfl) (by simp) ?_
    refine AllReadyH.cons rfl (fun K hK => ?_) AllReadyH.nil
    go_simp
    with_reducible refine (limits_any _).mono ?_
    rintro e w2 ⟨aL, cL, rfl, hrd, hcb⟩
    have b4 := Below.trans b3 (Below.mono hcb (by have := Below.size b3; try simp at this; first | (simp; done) | omega | (simp; omega)))
    have HL := Lib.hid hrd
    have R2 := Lib.hid (row_below HR.out.nums (HB0.out.trans (Below.mono b4 (by omega))) (Nat.le_refl _))
    clear hcb hrd
    refine hK.out _ _ (KS.out _ b4) (fun hHeld => ?_)
    clear hK K
    try simp only [Act.put, List.setIfInBounds_toArray, List.set_cons_zero, List.set_cons_succ]
    refine wpAnyH_ready (rs := [10]) (by kernel_rfl) (by simp) ?_
    refine AllReadyH.cons rfl (fun K hK => ?_) AllReadyH.nil
    go_simp
    with_reducible refine (within_as _ _ _ _ _ _ _ _ _ HN.out R2.out HL.out HnN.out (by omega)).mono ?_
    rintro e w3 ⟨rfl, hcb⟩
    have b5 := Below.trans b4 (Below.mono hcb (by have := Below.size b4; try simp at this; first | (simp; done) | omega | (simp; omega)))
    clear hcb
    refine hK.out _ _ (KS.out _ b5) (fun hHeld => ?_)
    clear hK K
    try simp only [Act.put, List.setIfInBounds_toArray, List.set_cons_zero, List.set_cons_succ]
    refine wpAnyH_take (i := 11) (v := ?_) rfl (by kernel_rfl) (by kernel_rfl) (by kernel_rfl) (fun _ _ _ h => h) (Or.inl ⟨by rfl, ?_⟩) hHeld ?_
    rotate_left 1
    · (intro w hSw; (try dsimp only at hSw); go_simp; try with_reducible rfl)
    change wpAnyH _ _ _ _ _ _ _ (Act.put _ (some 14) _) _
    try simp only [Act.put, List.setIfInBounds_toArray, List.set_cons_zero, List.set_cons_succ]
    refine wpAnyH_take (i := 12) (v := ?_) rfl (by kernel_rfl) (by kernel_rfl) (by kernel_rfl) (fun _ _ _ h => h) (Or.inl ⟨by rfl, ?_⟩) hHeld ?_
    rotate_left 1
    · (intro w hSw; (try dsimp only at hSw); go_simp; try with_reducible rfl)
    change wpAnyH _ _ _ _ _ _ _ (Act.put _ (some 15) _) _
    try simp only [Act.put, List.setIfInBounds_toArray, List.set_cons_zero, List.set_cons_succ]
    refine wpAnyH_take (i := 13) (v := ?_) rfl (by kernel_rfl) (by kernel_rfl) (by kernel_rfl) (fun _ _ _ h => h) (Or.inl ⟨by rfl, ?_⟩) hHeld ?_
    rotate_left 1
    · (intro w hSw; (try dsimp only at hSw); go_simp; try with_reducible rfl)
    change wpAnyH _ _ _ _ _ _ _ (Act.put _ (some 16) _) _
    try simp only [Act.put, List.setIfInBounds_toArray, List.set_cons_zero, List.set_cons_succ]
    refine wpAnyH_take (i := 14) (v := ?_) rfl (by kernel_rfl) (by kernel_rfl) (by kernel_rfl) (fun _ _ _ h => h) (Or.inl ⟨by rfl, ?_⟩) hHeld ?_
    rotate_left 1
    · (intro w hSw; (try dsimp only at hSw); go_simp; try with_reducible rfl)
    change wpAnyH _ _ _ _ _ _ _ (Act.put _ (some 17) _) _
    try simp only [Act.put, List.setIfInBounds_toArray, List.set_cons_zero, List.set_cons_succ]
    refine wpAnyH_take (i := 16) (v := ?_) rfl (by kernel_rfl) (by kernel_rfl) (by kernel_rfl) (fun _ _ _ h => h) (Or.inl ⟨by rfl, ?_⟩) hHeld ?_
    rotate_left 1
    · (intro w hSw; (try dsimp only at hSw); go_simp; try with_reducible rfl)
    change wpAnyH _ _ _ _ _ _ _ (Act.put _ (some 19) _) _
    try simp only [Act.put, List.setIfInBounds_toArray, List.set_cons_zero, List.set_cons_succ]
    refine wpAnyH_take (i := 17) (v := ?_) rfl (by kernel_rfl) (by kernel_rfl) (by kernel_rfl) (fun _ _ _ h => h) (Or.inl ⟨by rfl, ?_⟩) hHeld ?_
    rotate_left 1
    · (intro w hSw; (try dsimp only at hSw); go_simp; try with_reducible rfl)
    change wpAnyH _ _ _ _ _ _ _ (Act.put _ (some 20) _) _
    try simp only [Act.put, List.setIfInBounds_toArray, List.set_cons_zero, List.set_cons_succ]
    have R3 := Lib.hid (row_below HR.out.texts (HB0.out.trans (Below.mono b5 (by omega))) (Nat.le_refl _))
    refine wpAnyH_ready (rs := [15, 18]) (by kernel_rfl) (by simp) ?_
    refine AllReadyH.cons rfl (fun K hK => ?_) (AllReadyH.cons rfl (fun K hK => ?_) AllReadyH.nil)
    ·
      go_simp
      with_reducible refine (lengths_any _ _ _ _ _ R3.out HnT.out).mono ?_
      rintro e w4 ⟨aS, cS, rfl, hro, hcb⟩
      have b6 := Below.trans b5 (Below.mono hcb (by have := Below.size b5; try simp at this; first | (simp; done) | omega | (simp; omega)))
      have RS := Lib.hid (row_below (C.own_row hro).1 ((Below.refl w4.heap.size w4).alloc (Nat.le_refl _) (.cells #[.int .i64 0, .int .i64 40, .int .i64 0, .int .i64 10] 149)) (Nat.le_refl _))
      clear hcb hro
      refine hK.out _ _ (KS.out _ b6) (fun hHeld => ?_)
      clear hK K
      try simp only [Act.put, List.setIfInBounds_toArray, List.set_cons_zero, List.set_cons_succ]
      refine wpAnyH_ready (rs := [18]) (by kernel_rfl) (by simp) ?_
      refine AllReadyH.cons rfl (fun K hK => ?_) AllReadyH.nil
      go_simp
      have b7 := Below.alloc b6 (by have := Below.size b6; try simp at this; first | (simp; done) | omega | (simp; omega)) (.cells #[.int .i64 0, .int .i64 40, .int .i64 0, .int .i64 10] 149)
      refine hK.out _ _ (KS.out _ b7) (fun hHeld => ?_)
      clear hK K
      try simp only [Act.put, List.setIfInBounds_toArray, List.set_cons_zero, List.set_cons_succ]
      have HT2 := Lib.hid (rdM_two (a := 0) (b := 40) (c := 0) (d := 10) (heap_alloc_new w4 _))
      refine wpAnyH_ready (rs := [19]) (by kernel_rfl) (by simp) ?_
      refine AllReadyH.cons rfl (fun K hK => ?_) AllReadyH.nil
      go_simp
      with_reducible refine (within_as _ _ _ _ _ _ _ _ _ HT.out RS.out HT2.out HnT.out (by omega)).mono ?_
      rintro e w5 ⟨rfl, hcb⟩
      have b8 := Below.trans b7 (Below.mono hcb (by have := Below.size b7; try simp at this; first | (simp; done) | omega | (simp; omega)))
      clear hcb
      refine hK.out _ _ (KS.out _ b8) (fun hHeld => ?_)
      clear hK K
      try simp only [Act.put, List.setIfInBounds_toArray, List.set_cons_zero, List.set_cons_succ]
      refine wpAnyH_take (i := 20) (v := ?_) rfl (by kernel_rfl) (by kernel_rfl) (by kernel_rfl) (fun _ _ _ h => h) (Or.inl ⟨by rfl, ?_⟩) hHeld ?_
      rotate_left 1
      · (intro w hSw; (try dsimp only at hSw); go_simp; try with_reducible rfl)
      change wpAnyH _ _ _ _ _ _ _ (Act.put _ (some 23) _) _
      try simp only [Act.put, List.setIfInBounds_toArray, List.set_cons_zero, List.set_cons_succ]
      refine wpAnyH_take (i := 21) (v := ?_) rfl (by kernel_rfl) (by kernel_rfl) (by kernel_rfl) (fun _ _ _ h => h) (Or.inl ⟨by rfl, ?_⟩) hHeld ?_
      rotate_left 1
      · (intro w hSw; (try dsimp only at hSw); go_simp; try with_reducible rfl)
      change wpAnyH _ _ _ _ _ _ _ (Act.put _ (some 2) _) _
      try simp only [Act.put, List.setIfInBounds_toArray, List.set_cons_zero, List.set_cons_succ]
      refine wpAnyH_done (by kernel_rfl) ?_ _
      refine NoPanic.normal ?_
      go_wp2
      go_ret
      exact ⟨rfl, HB0.out.trans (Below.mono b8 (by omega))⟩
    ·
      go_simp
      have b6 := Below.alloc b5 (by have := Below.size b5; try simp at this; first | (simp; done) | omega | (simp; omega)) (.cells #[.int .i64 0, .int .i64 40, .int .i64 0, .int .i64 10] 149)
      refine hK.out _ _ (KS.out _ b6) (fun hHeld => ?_)
      clear hK K
      try simp only [Act.put, List.setIfInBounds_toArray, List.set_cons_zero, List.set_cons_succ]
      refine wpAnyH_ready (rs := [15]) (by kernel_rfl) (by simp) ?_
      refine AllReadyH.cons rfl (fun K hK => ?_) AllReadyH.nil
      go_simp
      with_reducible refine (lengths_any _ _ _ _ _ (row_below R3.out ((Below.refl w3.heap.size w3).alloc (Nat.le_refl _) _) (Nat.le_refl _)) HnT.out).mono ?_
      rintro e w4 ⟨aS, cS, rfl, hro, hcb⟩
      have b7 := Below.trans b6 (Below.mono hcb (by have := Below.size b6; try simp at this; first | (simp; done) | omega | (simp; omega)))
      have RS := Lib.hid (C.own_row hro).1
      have HT2 := Lib.hid (rdM_two (a := 0) (b := 40) (c := 0) (d := 10) ((hcb.block _ (by simp)).trans (heap_alloc_new w3 _)))
      clear hcb hro
      refine hK.out _ _ (KS.out _ b7) (fun hHeld => ?_)
      clear hK K
      try simp only [Act.put, List.setIfInBounds_toArray, List.set_cons_zero, List.set_cons_succ]
      refine wpAnyH_ready (rs := [19]) (by kernel_rfl) (by simp) ?_
      refine AllReadyH.cons rfl (fun K hK => ?_) AllReadyH.nil
      go_simp
      with_reducible refine (within_as _ _ _ _ _ _ _ _ _ HT.out RS.out HT2.out HnT.out (by omega)).mono ?_
      rintro e w5 ⟨rfl, hcb⟩
      have b8 := Below.trans b7 (Below.mono hcb (by have := Below.size b7; try simp at this; first | (simp; done) | omega | (simp; omega)))
      clear hcb
      refine hK.out _ _ (KS.out _ b8) (fun hHeld => ?_)
      clear hK K
      try simp only [Act.put, List.setIfInBounds_toArray, List.set_cons_zero, List.set_cons_succ]
      refine wpAnyH_take (i := 20) (v := ?_) rfl (by kernel_rfl) (by kernel_rfl) (by kernel_rfl) (fun _ _ _ h => h) (Or.inl ⟨by rfl, ?_⟩) hHeld ?_
      rotate_left 1
      · (intro w hSw; (try dsimp only at hSw); go_simp; try with_reducible rfl)
      change wpAnyH _ _ _ _ _ _ _ (Act.put _ (some 23) _) _
      try simp only [Act.put, List.setIfInBounds_toArray, List.set_cons_zero, List.set_cons_succ]
      refine wpAnyH_take (i := 21) (v := ?_) rfl (by kernel_rfl) (by kernel_rfl) (by kernel_rfl) (fun _ _ _ h => h) (Or.inl ⟨by rfl, ?_⟩) hHeld ?_
      rotate_left 1
      · (intro w hSw; (try dsimp only at hSw); go_simp; try with_reducible rfl)
      change wpAnyH _ _ _ _ _ _ _ (Act.put _ (some 2) _) _
      try simp only [Act.put, List.setIfInBounds_toArray, List.set_cons_zero, List.set_cons_succ]
      refine wpAnyH_done (by kernel_rfl) ?_ _
      refine NoPanic.normal ?_
      go_wp2
      go_ret
      exact ⟨rfl, HB0.out.trans (Below.mono b8 (by omega))⟩
  ·
    go_simp
    have b1 := Below.alloc b0 (by have := Below.size b0; try simp at this; first | (simp; done) | omega | (simp; omega)) (.cells #[.int .i64 1, .int .i64 15] 149)
    refine hK.out _ _ (KS.out _ b1) (fun hHeld => ?_)
    clear hK K
    try simp only [Act.put, List.setIfInBounds_toArray, List.set_cons_zero, List.set_cons_succ]
    refine wpAnyH_ready (rs := [2]) (by kernel_rfl) (by simp) ?_
    refine AllReadyH.cons rfl (fun K hK => ?_) AllReadyH.nil
    go_simp
    have b2 := Below.alloc b1 (by have := Below.size b1; try simp at this; first | (simp; done) | omega | (simp; omega)) (.cells #[.int .i64 r.kind] 2)
    refine hK.out _ _ (KS.out _ b2) (fun hHeld => ?_)
    clear hK K
    try simp only [Act.put, List.setIfInBounds_toArray, List.set_cons_zero, List.set_cons_succ]
    refine wpAnyH_ready (rs := [5]) (by kernel_rfl) (by simp) ?_
    refine AllReadyH.cons rfl (fun K hK => ?_) AllReadyH.nil
    go_simp
    with_reducible refine (within_one _ _ _ r.kind ⟨1, 15⟩ _ HK.out (by repeat (first | exact top_at (by simp; done) | refine (drew_at _ _).trans ?_ | refine (deep_at (by simp)).trans ?_)) (by repeat (first | exact top_at (by simp; done) | refine (drew_at _ _).trans ?_ | refine (deep_at (by simp)).trans ?_))).mono ?_
    rintro e w1 ⟨rfl, hcb⟩
    have b3 := Below.trans b2 (Below.mono hcb (by have := Below.size b2; try simp at this; first | (simp; done) | omega | (simp; omega)))
    have HC1 := Lib.hid (HB0.out.trans (Below.mono b3 (by omega)))
    clear hcb
    refine hK.out _ _ (KS.out _ b3) (fun hHeld => ?_)
    clear hK K
    try simp only [Act.put, List.setIfInBounds_toArray, List.set_cons_zero, List.set_cons_succ]
    refine wpAnyH_take (i := 6) (v := ?_) rfl (by kernel_rfl) (by kernel_rfl) (by kernel_rfl) (fun _ _ _ h => h) (Or.inl ⟨by rfl, ?_⟩) hHeld ?_
    rotate_left 1
    · (intro w hSw; (try dsimp only at hSw); go_simp; try with_reducible rfl)
    change wpAnyH _ _ _ _ _ _ _ (Act.put _ (some 9) _) _
    try simp only [Act.put, List.setIfInBounds_toArray, List.set_cons_zero, List.set_cons_succ]
    refine wpAnyH_take (i := 7) (v := ?_) rfl (by kernel_rfl) (by kernel_rfl) (by kernel_rfl) (fun _ _ _ h => h) (Or.inl ⟨by rfl, ?_⟩) hHeld ?_
    rotate_left 1
    · (intro w hSw; (try dsimp only at hSw); go_simp; try with_reducible rfl)
    change wpAnyH _ _ _ _ _ _ _ (Act.put _ (some 10) _) _
    try simp only [Act.put, List.setIfInBounds_toArray, List.set_cons_zero, List.set_cons_succ]
    refine wpAnyH_take (i := 8) (v := ?_) rfl (by kernel_rfl) (by kernel_rfl) (by kernel_rfl) (fun _ _ _ h => h) (Or.inl ⟨by rfl, ?_⟩) hHeld ?_
    rotate_left 1
    · (intro w hSw; (try dsimp only at hSw); go_simp; try with_reducible rfl)
    change wpAnyH _ _ _ _ _ _ _ (Act.put _ (some 11) _) _
    try simp only [Act.put, List.setIfInBounds_toArray, List.set_cons_zero, List.set_cons_succ]
    refine wpAnyH_ready (rs := [9]) (by kernel_rfl) (by simp) ?_
    refine AllReadyH.cons rfl (fun K hK => ?_) AllReadyH.nil
    go_simp
    with_reducible refine (limits_any _).mono ?_
    rintro e w2 ⟨aL, cL, rfl, hrd, hcb⟩
    have b4 := Below.trans b3 (Below.mono hcb (by have := Below.size b3; try simp at this; first | (simp; done) | omega | (simp; omega)))
    have HL := Lib.hid hrd
    have R2 := Lib.hid (row_below HR.out.nums (HB0.out.trans (Below.mono b4 (by omega))) (Nat.le_refl _))
    clear hcb hrd
    refine hK.out _ _ (KS.out _ b4) (fun hHeld => ?_)
    clear hK K
    try simp only [Act.put, List.setIfInBounds_toArray, List.set_cons_zero, List.set_cons_succ]
    refine wpAnyH_ready (rs := [10]) (by kernel_rfl) (by simp) ?_
    refine AllReadyH.cons rfl (fun K hK => ?_) AllReadyH.nil
    go_simp
    with_reducible refine (within_as _ _ _ _ _ _ _ _ _ HN.out R2.out HL.out HnN.out (by omega)).mono ?_
    rintro e w3 ⟨rfl, hcb⟩
    have b5 := Below.trans b4 (Below.mono hcb (by have := Below.size b4; try simp at this; first | (simp; done) | omega | (simp; omega)))
    clear hcb
    refine hK.out _ _ (KS.out _ b5) (fun hHeld => ?_)
    clear hK K
    try simp only [Act.put, List.setIfInBounds_toArray, List.set_cons_zero, List.set_cons_succ]
    refine wpAnyH_take (i := 11) (v := ?_) rfl (by kernel_rfl) (by kernel_rfl) (by kernel_rfl) (fun _ _ _ h => h) (Or.inl ⟨by rfl, ?_⟩) hHeld ?_
    rotate_left 1
    · (intro w hSw; (try dsimp only at hSw); go_simp; try with_reducible rfl)
    change wpAnyH _ _ _ _ _ _ _ (Act.put _ (some 14) _) _
    try simp only [Act.put, List.setIfInBounds_toArray, List.set_cons_zero, List.set_cons_succ]
    refine wpAnyH_take (i := 12) (v := ?_) rfl (by kernel_rfl) (by kernel_rfl) (by kernel_rfl) (fun _ _ _ h => h) (Or.inl ⟨by rfl, ?_⟩) hHeld ?_
    rotate_left 1
    · (intro w hSw; (try dsimp only at hSw); go_simp; try with_reducible rfl)
    change wpAnyH _ _ _ _ _ _ _ (Act.put _ (some 15) _) _
    try simp only [Act.put, List.setIfInBounds_toArray, List.set_cons_zero, List.set_cons_succ]
    refine wpAnyH_take (i := 13) (v := ?_) rfl (by kernel_rfl) (by kernel_rfl) (by kernel_rfl) (fun _ _ _ h => h) (Or.inl ⟨by rfl, ?_⟩) hHeld ?_
    rotate_left 1
    · (intro w hSw; (try dsimp only at hSw); go_simp; try with_reducible rfl)
    change wpAnyH _ _ _ _ _ _ _ (Act.put _ (some 16) _) _
    try simp only [Act.put, List.setIfInBounds_toArray, List.set_cons_zero, List.set_cons_succ]
    refine wpAnyH_take (i := 14) (v := ?_) rfl (by kernel_rfl) (by kernel_rfl) (by kernel_rfl) (fun _ _ _ h => h) (Or.inl ⟨by rfl, ?_⟩) hHeld ?_
    rotate_left 1
    · (intro w hSw; (try dsimp only at hSw); go_simp; try with_reducible rfl)
    change wpAnyH _ _ _ _ _ _ _ (Act.put _ (some 17) _) _
    try simp only [Act.put, List.setIfInBounds_toArray, List.set_cons_zero, List.set_cons_succ]
    refine wpAnyH_take (i := 16) (v := ?_) rfl (by kernel_rfl) (by kernel_rfl) (by kernel_rfl) (fun _ _ _ h => h) (Or.inl ⟨by rfl, ?_⟩) hHeld ?_
    rotate_left 1
    · (intro w hSw; (try dsimp only at hSw); go_simp; try with_reducible rfl)
    change wpAnyH _ _ _ _ _ _ _ (Act.put _ (some 19) _) _
    try simp only [Act.put, List.setIfInBounds_toArray, List.set_cons_zero, List.set_cons_succ]
    refine wpAnyH_take (i := 17) (v := ?_) rfl (by kernel_rfl) (by kernel_rfl) (by kernel_rfl) (fun _ _ _ h => h) (Or.inl ⟨by rfl, ?_⟩) hHeld ?_
    rotate_left 1
    · (intro w hSw; (try dsimp only at hSw); go_simp; try with_reducible rfl)
    change wpAnyH _ _ _ _ _ _ _ (Act.put _ (some 20) _) _
    try simp only [Act.put, List.setIfInBounds_toArray, List.set_cons_zero, List.set_cons_succ]
    have R3 := Lib.hid (row_below HR.out.texts (HB0.out.trans (Below.mono b5 (by omega))) (Nat.le_refl _))
    refine wpAnyH_ready (rs := [15, 18]) (by kernel_rfl) (by simp) ?_
    refine AllReadyH.cons rfl (fun K hK => ?_) (AllReadyH.cons rfl (fun K hK => ?_) AllReadyH.nil)
    ·
      go_simp
      with_reducible refine (lengths_any _ _ _ _ _ R3.out HnT.out).mono ?_
      rintro e w4 ⟨aS, cS, rfl, hro, hcb⟩
      have b6 := Below.trans b5 (Below.mono hcb (by have := Below.size b5; try simp at this; first | (simp; done) | omega | (simp; omega)))
      have RS := Lib.hid (row_below (C.own_row hro).1 ((Below.refl w4.heap.size w4).alloc (Nat.le_refl _) (.cells #[.int .i64 0, .int .i64 40, .int .i64 0, .int .i64 10] 149)) (Nat.le_refl _))
      clear hcb hro
      refine hK.out _ _ (KS.out _ b6) (fun hHeld => ?_)
      clear hK K
      try simp only [Act.put, List.setIfInBounds_toArray, List.set_cons_zero, List.set_cons_succ]
      refine wpAnyH_ready (rs := [18]) (by kernel_rfl) (by simp) ?_
      refine AllReadyH.cons rfl (fun K hK => ?_) AllReadyH.nil
      go_simp
      have b7 := Below.alloc b6 (by have := Below.size b6; try simp at this; first | (simp; done) | omega | (simp; omega)) (.cells #[.int .i64 0, .int .i64 40, .int .i64 0, .int .i64 10] 149)
      refine hK.out _ _ (KS.out _ b7) (fun hHeld => ?_)
      clear hK K
      try simp only [Act.put, List.setIfInBounds_toArray, List.set_cons_zero, List.set_cons_succ]
      have HT2 := Lib.hid (rdM_two (a := 0) (b := 40) (c := 0) (d := 10) (heap_alloc_new w4 _))
      refine wpAnyH_ready (rs := [19]) (by kernel_rfl) (by simp) ?_
      refine AllReadyH.cons rfl (fun K hK => ?_) AllReadyH.nil
      go_simp
      with_reducible refine (within_as _ _ _ _ _ _ _ _ _ HT.out RS.out HT2.out HnT.out (by omega)).mono ?_
      rintro e w5 ⟨rfl, hcb⟩
      have b8 := Below.trans b7 (Below.mono hcb (by have := Below.size b7; try simp at this; first | (simp; done) | omega | (simp; omega)))
      clear hcb
      refine hK.out _ _ (KS.out _ b8) (fun hHeld => ?_)
      clear hK K
      try simp only [Act.put, List.setIfInBounds_toArray, List.set_cons_zero, List.set_cons_succ]
      refine wpAnyH_take (i := 20) (v := ?_) rfl (by kernel_rfl) (by kernel_rfl) (by kernel_rfl) (fun _ _ _ h => h) (Or.inl ⟨by rfl, ?_⟩) hHeld ?_
      rotate_left 1
      · (intro w hSw; (try dsimp only at hSw); go_simp; try with_reducible rfl)
      change wpAnyH _ _ _ _ _ _ _ (Act.put _ (some 23) _) _
      try simp only [Act.put, List.setIfInBounds_toArray, List.set_cons_zero, List.set_cons_succ]
      refine wpAnyH_take (i := 21) (v := ?_) rfl (by kernel_rfl) (by kernel_rfl) (by kernel_rfl) (fun _ _ _ h => h) (Or.inl ⟨by rfl, ?_⟩) hHeld ?_
      rotate_left 1
      · (intro w hSw; (try dsimp only at hSw); go_simp; try with_reducible rfl)
      change wpAnyH _ _ _ _ _ _ _ (Act.put _ (some 2) _) _
      try simp only [Act.put, List.setIfInBounds_toArray, List.set_cons_zero, List.set_cons_succ]
      refine wpAnyH_done (by kernel_rfl) ?_ _
      refine NoPanic.normal ?_
      go_wp2
      go_ret
      exact ⟨rfl, HB0.out.trans (Below.mono b8 (by omega))⟩
    ·
      go_simp
      have b6 := Below.alloc b5 (by have := Below.size b5; try simp at this; first | (simp; done) | omega | (simp; omega)) (.cells #[.int .i64 0, .int .i64 40, .int .i64 0, .int .i64 10] 149)
      refine hK.out _ _ (KS.out _ b6) (fun hHeld => ?_)
      clear hK K
      try simp only [Act.put, List.setIfInBounds_toArray, List.set_cons_zero, List.set_cons_succ]
      refine wpAnyH_ready (rs := [15]) (by kernel_rfl) (by simp) ?_
      refine AllReadyH.cons rfl (fun K hK => ?_) AllReadyH.nil
      go_simp
      with_reducible refine (lengths_any _ _ _ _ _ (row_below R3.out ((Below.refl w3.heap.size w3).alloc (Nat.le_refl _) _) (Nat.le_refl _)) HnT.out).mono ?_
      rintro e w4 ⟨aS, cS, rfl, hro, hcb⟩
      have b7 := Below.trans b6 (Below.mono hcb (by have := Below.size b6; try simp at this; first | (simp; done) | omega | (simp; omega)))
      have RS := Lib.hid (C.own_row hro).1
      have HT2 := Lib.hid (rdM_two (a := 0) (b := 40) (c := 0) (d := 10) ((hcb.block _ (by simp)).trans (heap_alloc_new w3 _)))
      clear hcb hro
      refine hK.out _ _ (KS.out _ b7) (fun hHeld => ?_)
      clear hK K
      try simp only [Act.put, List.setIfInBounds_toArray, List.set_cons_zero, List.set_cons_succ]
      refine wpAnyH_ready (rs := [19]) (by kernel_rfl) (by simp) ?_
      refine AllReadyH.cons rfl (fun K hK => ?_) AllReadyH.nil
      go_simp
      with_reducible refine (within_as _ _ _ _ _ _ _ _ _ HT.out RS.out HT2.out HnT.out (by omega)).mono ?_
      rintro e w5 ⟨rfl, hcb⟩
      have b8 := Below.trans b7 (Below.mono hcb (by have := Below.size b7; try simp at this; first | (simp; done) | omega | (simp; omega)))
      clear hcb
      refine hK.out _ _ (KS.out _ b8) (fun hHeld => ?_)
      clear hK K
      try simp only [Act.put, List.setIfInBounds_toArray, List.set_cons_zero, List.set_cons_succ]
      refine wpAnyH_take (i := 20) (v := ?_) rfl (by kernel_rfl) (by kernel_rfl) (by kernel_rfl) (fun _ _ _ h => h) (Or.inl ⟨by rfl, ?_⟩) hHeld ?_
      rotate_left 1
      · (intro w hSw; (try dsimp only at hSw); go_simp; try with_reducible rfl)
      change wpAnyH _ _ _ _ _ _ _ (Act.put _ (some 23) _) _
      try simp only [Act.put, List.setIfInBounds_toArray, List.set_cons_zero, List.set_cons_succ]
      refine wpAnyH_take (i := 21) (v := ?_) rfl (by kernel_rfl) (by kernel_rfl) (by kernel_rfl) (fun _ _ _ h => h) (Or.inl ⟨by rfl, ?_⟩) hHeld ?_
      rotate_left 1
      · (intro w hSw; (try dsimp only at hSw); go_simp; try with_reducible rfl)
      change wpAnyH _ _ _ _ _ _ _ (Act.put _ (some 2) _) _
      try simp only [Act.put, List.setIfInBounds_toArray, List.set_cons_zero, List.set_cons_succ]
      refine wpAnyH_done (by kernel_rfl) ?_ _
      refine NoPanic.normal ?_
      go_wp2
      go_ret
      exact ⟨rfl, HB0.out.trans (Below.mono b8 (by omega))⟩

theorem is_any (w : World) (r : C.M.Rc) (aN : Option Addr) (nN cN : Nat) (aT : Option Addr) (nT cT : Nat) (h : RecAt w r aN nN cN aT nT cT) (hn : nN ≤ 1000) (ht : nT ≤ 1000) :
    Calls Tryz.prog 52 #[.agg #[.int .i64 r.kind, .slice aN nN cN, .slice aT nT cT]] w fun e w' => e = .returned (.bool (isM r)) ∧ Below w.heap.size w w' := by
  cases hk : win [r.kind] [⟨1, 15⟩] with
  | false =>
    have e : isM r = false := by unfold isM; rw [hk]; rfl
    rw [e]; exact is_kind w r aN nN cN aT nT cT h hk
  | true =>
    cases hns : win r.nums lims with
    | false =>
      have e : isM r = false := by unfold isM; rw [hk, hns]; rfl
      rw [e]; exact is_nums w r aN nN cN aT nT cT h hn hk hns
    | true =>
      have e : isM r = win (sizes r.texts) [⟨0, 40⟩, ⟨0, 10⟩] := by unfold isM; rw [hk, hns]; rfl
      rw [e]; exact is_texts w r aN nN cN aT nT cT h hn ht hk hns _ rfl
end Go.Proofs.YtofhijnfbilieaaGreat.Ml
namespace Go.Proofs.YtofhijnfbilieaaGreat.Ml
open Go.RowKit
open C (Row Own i64s strs row_below own_below RecAt)
set_option linter.unusedVariables false
set_option linter.unusedSimpArgs false
set_option maxRecDepth 20000

/-- where a message's record lies -/
structure MC (w : World) (m : Mg) (b off b2 off2 : Nat) : Prop where
  lt : b < w.heap.size
  lt2 : b2 < w.heap.size
  e0 : w.cell? ⟨b, off, none⟩ = some (.int .i64 m.epoch)
  e1 : w.cell? ⟨b, off + 1, none⟩ = some (.int .i64 m.seq)
  e2 : w.cell? ⟨b, off + 2, none⟩ = some (.int .i64 m.n)
  e3 : w.cell? ⟨b, off + 3, none⟩ = some (.int .i64 m.block)
  e4 : w.cell? ⟨b, off + 4, none⟩ = some (.int .i64 m.client)
  e5 : w.cell? ⟨b, off + 5, none⟩ = some (.int .i64 m.e)
  e6 : w.cell? ⟨b, off + 6, none⟩ = some (.int .i64 m.t0)
  e7 : w.cell? ⟨b, off + 7, none⟩ = some (.int .i64 m.t1)
  e8 : w.cell? ⟨b, off + 8, none⟩ = some (.int .i64 m.t2)
  e9 : w.cell? ⟨b, off + 9, none⟩ = some (.int .i64 m.t3)
  s0 : w.cell? ⟨b2, off2, none⟩ = some (.string m.data)
  s1 : w.cell? ⟨b2, off2 + 1, none⟩ = some (.string m.row)
theorem rec_cells {w : World} {m : Mg} {aN : Option Addr} {cN : Nat} {aT : Option Addr} {cT : Nat} (h : RecAt w m.rc aN 10 cN aT 2 cT) :
    ∃ b off b2 off2, aN = some ⟨b, off, none⟩ ∧ aT = some ⟨b2, off2, none⟩ ∧ MC w m b off b2 off2 ∧ 10 ≤ cN ∧ cN ≤ maxLen ∧ 2 ≤ cT ∧ cT ≤ maxLen := by
  obtain ⟨⟨_, h1, h2, h3⟩, ⟨_, k1, k2, k3⟩⟩ := h
  rcases h3 with h3 | ⟨b, off, ha, hb, hc⟩
  · simp [Mg.rc, Mg.nums, i64s] at h3
  rcases k3 with k3 | ⟨b2, off2, ka, kb, kc⟩
  · simp [Mg.rc, Mg.texts, strs] at k3
  exact ⟨b, off, b2, off2, ha, ka, ⟨hb, kb, hc 0 (by omega), hc 1 (by omega), hc 2 (by omega), hc 3 (by omega), hc 4 (by omega), hc 5 (by omega), hc 6 (by omega), hc 7 (by omega), hc 8 (by omega), hc 9 (by omega), kc 0 (by omega), kc 1 (by omega)⟩, h1, h2, k1, k2⟩
theorem MC.below {w w' : World} {m : Mg} {b off b2 off2 : Nat} (h : MC w m b off b2 off2) (hb : Below w.heap.size w w') : MC w' m b off b2 off2 where
  lt := Nat.lt_of_lt_of_le h.lt hb.size
  lt2 := Nat.lt_of_lt_of_le h.lt2 hb.size
  e0 := (hb.cell h.lt).trans h.e0
  e1 := (hb.cell h.lt).trans h.e1
  e2 := (hb.cell h.lt).trans h.e2
  e3 := (hb.cell h.lt).trans h.e3
  e4 := (hb.cell h.lt).trans h.e4
  e5 := (hb.cell h.lt).trans h.e5
  e6 := (hb.cell h.lt).trans h.e6
  e7 := (hb.cell h.lt).trans h.e7
  e8 := (hb.cell h.lt).trans h.e8
  e9 := (hb.cell h.lt).trans h.e9
  s0 := (hb.cell h.lt2).trans h.s0
  s1 := (hb.cell h.lt2).trans h.s1

/-- a message in a block of its own -/
def MB (w : World) (g : Nat) (m : Mg) : Prop := w.heap[g]? = some (.cells m.cells 37 (0, 0))
theorem MB.lt {w : World} {g : Nat} {m : Mg} (h : MB w g m) : g < w.heap.size := lt_of_heap h
theorem MB.new (w : World) (m : Mg) : MB (w.alloc (.cells m.cells 37)) w.heap.size m := heap_alloc_new w _
theorem MB.below {w w' : World} {g : Nat} {m : Mg} (h : MB w g m) {B : Nat} (hb : Below B w w') (hB : g < B) : MB w' g m := by
  unfold MB; rw [hb.block g hB]; exact h
theorem MB.drew {w : World} {g : Nat} {m : Mg} (h : MB w g m) : MB w.drew g m := h
theorem MB.cell {w : World} {g : Nat} {m : Mg} (h : MB w g m) (o : Nat) : w.cell? ⟨g, o, none⟩ = m.cells[o]? := by unfold MB at h; simp [World.cell?, h]
theorem MB.fz {w : World} {g : Nat} {m : Mg} (h : MB w g m) (o : Nat) : w.frozen? ⟨g, o, none⟩ = false := by unfold MB at h; simp [World.frozen?, h]
theorem MB.there {w : World} {g : Nat} {m : Mg} (h : MB w g m) (j : Nat) (hj : j < 13) : (w.cell? ⟨g, j, none⟩).isSome = true := by
  rw [h.cell, Array.getElem?_eq_getElem (by simp [Mg.cells]; omega)]; rfl
theorem MB.cells {w : World} {g : Nat} {m : Mg} (h : MB w g m) : w.cell? ⟨g, 0, none⟩ = some (.int .i64 m.kind) ∧ w.cell? ⟨g, 1, none⟩ = some (.int .i64 m.epoch) ∧ w.cell? ⟨g, 2, none⟩ = some (.int .i64 m.seq) ∧ w.cell? ⟨g, 3, none⟩ = some (.int .i64 m.n) ∧ w.cell? ⟨g, 4, none⟩ = some (.int .i64 m.block) ∧ w.cell? ⟨g, 5, none⟩ = some (.int .i64 m.client) ∧ w.cell? ⟨g, 6, none⟩ = some (.int .i64 m.e) ∧
    w.cell? ⟨g, 7, none⟩ = some (.int .i64 m.t0) ∧ w.cell? ⟨g, 8, none⟩ = some (.int .i64 m.t1) ∧ w.cell? ⟨g, 9, none⟩ = some (.int .i64 m.t2) ∧ w.cell? ⟨g, 10, none⟩ = some (.int .i64 m.t3) ∧ w.cell? ⟨g, 11, none⟩ = some (.string m.data) ∧ w.cell? ⟨g, 12, none⟩ = some (.string m.row) :=
  ⟨h.cell 0, h.cell 1, h.cell 2, h.cell 3, h.cell 4, h.cell 5, h.cell 6, h.cell 7, h.cell 8, h.cell 9, h.cell 10, h.cell 11, h.cell 12⟩
theorem mb_set {w : World} {g : Nat} {m0 : Mg} (h : MB w g m0) (m : Mg) : MB (w.setCells g 0 m.cells.toList) g m := by
  obtain ⟨cur, h1, h2, h3⟩ := obj_setCells m.cells.toList 0 w m0.cells h (by simp [Mg.cells])
  unfold MB
  rw [h1]
  have : cur = m.cells := by
    apply Array.toList_inj.1
    rw [h3]
    simp [Mg.cells]
  rw [this]
theorem mb_set' {w : World} {g : Nat} {kind epoch seq n block client e t0 t1 t2 t3 : Int} {data row : ByteArray} {m0 : Mg} (h : MB w g m0) :
    MB (w.setCells g 0 [.int .i64 kind, .int .i64 epoch, .int .i64 seq, .int .i64 n, .int .i64 block, .int .i64 client, .int .i64 e, .int .i64 t0, .int .i64 t1, .int .i64 t2, .int .i64 t3, .string data, .string row]) g ⟨kind, epoch, seq, n, block, client, e, t0, t1, t2, t3, data, row⟩ := mb_set h ⟨kind, epoch, seq, n, block, client, e, t0, t1, t2, t3, data, row⟩
theorem mb_ts {w : World} {g : Nat} {kind epoch seq n block client e t0 t1 t2 t3 : Int} {data row : ByteArray} (h : MB w g ⟨kind, epoch, seq, n, block, client, e, 0, 0, 0, 0, data, row⟩) :
    MB (w.setCells g 7 (i64s [t0, t1, t2, t3])) g ⟨kind, epoch, seq, n, block, client, e, t0, t1, t2, t3, data, row⟩ := by
  obtain ⟨cur, h1, h2, h3⟩ := obj_setCells (i64s [t0, t1, t2, t3]) 7 w _ h (by simp [Mg.cells, i64s])
  unfold MB
  rw [h1]
  have : cur = (⟨kind, epoch, seq, n, block, client, e, t0, t1, t2, t3, data, row⟩ : Mg).cells := by
    apply Array.toList_inj.1
    rw [h3]
    simp [Mg.cells, i64s]
  rw [this]
theorem sets_below {w w' : World} {B : Nat} (h : Below B w w') {g o : Nat} (vs : List Value) (hg : B ≤ g) : Below B w (w'.setCells g o vs) := by
  obtain ⟨e1, e2, e3⟩ := os_setCells g vs o w'
  exact ⟨e1.trans h.os, e2.trans h.tape, e3.trans h.output, by rw [size_setCells]; exact h.size, fun k hk => (heap_setCells g vs o w' k (by omega)).trans (h.block k hk)⟩

theorem ret_msg {fn : Func} (hres : fn.results = #[.cell 2 37]) {R : Ending → World → Prop} {a : Act} {w : World} {g : Nat} {m : Mg} (h2 : a.tmps.getD 2 undef = .pointer (some ⟨g, 0, none⟩)) (hd : a.defers = []) (h : MB w g m)
    (hR : R (.returned (msgV m)) w) : bodyPost Tryz.prog fn R .ret a w := by
  have k0 := h.cell 0
  have k1 := h.cell 1
  have k2 := h.cell 2
  have k3 := h.cell 3
  have k4 := h.cell 4
  have k5 := h.cell 5
  have k6 := h.cell 6
  have k7 := h.cell 7
  have k8 := h.cell 8
  have k9 := h.cell 9
  have k10 := h.cell 10
  have k11 := h.cell 11
  have k12 := h.cell 12
  simp only [Mg.cells, List.getElem?_toArray, List.getElem?_cons_zero, List.getElem?_cons_succ] at k0 k1 k2 k3 k4 k5 k6 k7 k8 k9 k10 k11 k12
  simp only [Array.getD_eq_getD_getElem?] at h2
  refine bodyPost_ret_by ?_ hd hR
  simp [results, hres, h2, go_sem, k0, k1, k2, k3, k4, k5, k6, k7, k8, k9, k10, k11, k12, msgV, Mg.cells]

theorem step_copy_run {ops : Array Oper} {o : Oper} {a : Act} {w : World} {K : Act → World → Prop} {Q : Exit → Act → World → Prop} {E : Prop} (hgd : o.guard = none) (d s : Operand) (t t' : TypeId)
    (ho : o.op = .call { callee := .builtin .copy, args := #[d, s], argTypes := #[t, t'] }) (v u : Value) (hd : a.eval d = v) (hs : a.eval s = u) {v' : Value} {w' : World}
    (hr : (Builtin.copy_ #[t, t'] o.type #[v, u]).run Tryz.prog w = .ok v' w') (h : K (a.put o.dst v') w') : if Region.wanted o (yielded ops a.tmps) = true then Oper.wp Tryz.prog o a w K Q else E := by
  have hw : Region.wanted o (yielded ops a.tmps) = true := by simp [Region.wanted, hgd]
  rw [if_pos hw]
  unfold Oper.wp execOp
  simp only [ho, resolve, invoke, builtin, Sem.run_bind, Sem.run_pure, Result.andThen_ok, List.map_toArray, List.map_cons, List.map_nil, hd, hs, hr]
  exact h
theorem copy_ts {w : World} {g b off cN : Nat} {m : Mg} (ty : TypeId) (h : MB w g m) {t0 t1 t2 t3 : Int} (h0 : w.cell? ⟨b, off + 6, none⟩ = some (.int .i64 t0)) (h1 : w.cell? ⟨b, off + 7, none⟩ = some (.int .i64 t1)) (h2 : w.cell? ⟨b, off + 8, none⟩ = some (.int .i64 t2)) (h3 : w.cell? ⟨b, off + 9, none⟩ = some (.int .i64 t3)) :
    (Builtin.copy_ #[82, 82] ty #[.slice (some ⟨g, 7, none⟩) 4 4, .slice (some ⟨b, off + 6, none⟩) 4 cN]).run Tryz.prog w = .ok (goInt 4) (w.setCells g 7 (i64s [t0, t1, t2, t3])) := by
  refine run_copy_cells w 82 82 ty 2 g 7 4 4 _ 4 cN (i64s [t0, t1, t2, t3]) Tryz.underlying82 (by kernel_rfl) rfl ?_ ?_ ?_ (C.i64s_one _)
  · intro j v hv
    rw [addr_add]
    match j, hv with
    | 0, hv => injection hv with e; rw [← e]; exact h0
    | 1, hv => injection hv with e; rw [← e]; exact h1
    | 2, hv => injection hv with e; rw [← e]; exact h2
    | 3, hv => injection hv with e; rw [← e]; exact h3
  · intro j hj; exact h.there (7 + j) (by simp [i64s] at hj; omega)
  · intro j hj; exact h.fz _

end Go.Proofs.YtofhijnfbilieaaGreat.Ml
namespace Go.Proofs.YtofhijnfbilieaaGreat.Ml
open Go.RowKit
open C (Row Own i64s strs row_below own_below RecAt str)
set_option linter.unusedVariables false
set_option linter.unusedSimpArgs false
set_option maxRecDepth 20000

def Mg.Wf (m : Mg) : Prop := C.M.fits m.epoch ∧ C.M.fits m.seq ∧ C.M.fits m.n ∧ C.M.fits m.block ∧ C.M.fits m.client ∧ C.M.fits m.e ∧ C.M.fits m.t0 ∧ C.M.fits m.t1 ∧ C.M.fits m.t2 ∧ C.M.fits m.t3

set_option maxHeartbeats 1000000 in
theorem may_any (w : World) (m : Mg) : Calls Tryz.prog 29 #[msgV m] w fun e w' => e = .returned (.bool (may m)) ∧ Below w.heap.size w w' := by
  have HR := fun w' => record_any w' m
  have HI := fun w' aN cN aT cT h => is_any w' m.rc aN 10 cN aT 2 cT h (by omega) (by omega)
  have hm : isM m.rc = may m := rfl
  rw [hm] at HI
  generalize may m = z at *
  have hk : m.rc.kind = m.kind := rfl
  rw [hk] at HI
  generalize m.rc = r at *
  obtain ⟨kind, epoch, seq, n, block, client, e, t0, t1, t2, t3, data, row⟩ := m
  simp only [msgV, Mg.cells] at HR HI ⊢
  have HRh := Lib.hid HR
  have HIh := Lib.hid HI
  clear HR HI hm hk
  go_enter Tryz.func29, Tryz.ntmps29
  go_wp2_with (first
    | (go_at_call 53; with_reducible refine (HRh.out _).mono ?_; rintro e1 w1 ⟨aN, cN, aT, cT, rfl, hr, hb⟩
       have HA := Lib.hid hr
       have HB := Lib.hid (((Below.refl _ _).alloc (Nat.le_refl _) _).trans (Below.mono hb (by simp)))
       clear hr hb)
    | (go_at_call 52; with_reducible refine (HIh.out _ _ _ _ _ HA.out).mono ?_; rintro e2 w2 ⟨rfl, hb⟩
       have HB2 := Lib.hid (HB.out.trans (Below.mono hb HB.out.size))
       clear hb))
  go_ret
  exact ⟨rfl, HB2.out⟩

end Go.Proofs.YtofhijnfbilieaaGreat.Ml
namespace Go.Proofs.YtofhijnfbilieaaGreat.Ml
open Go.RowKit
open C (Row Own i64s strs u8s u8s_length row_below own_below RecAt str)
set_option linter.unusedVariables false
set_option linter.unusedSimpArgs false
set_option maxRecDepth 20000

/-- bytes that a string has become -/
theorem bytes_row (w : World) (s : ByteArray) (hs : s.size ≤ 65536) : Row (Lib.bytesWorld w 5 s) (some ⟨w.heap.size, 0, none⟩) s.size (grownCap w s.size 0 5) (u8s s.data.toList) := by
  have h1 : s.data.toList.length = s.size := C.M.size_list s
  refine ⟨by rw [u8s_length, h1], grownCap_ge w s.size 0 5, grownCap_le_maxLen w s.size 0 5 (by simp only [maxLen]; omega), .inr ⟨w.heap.size, 0, rfl, by rw [Lib.bytesWorld_size]; omega, fun i hi => ?_⟩⟩
  rw [Nat.zero_add, Lib.bytesWorld_cell w 5 s i hi]
  have hi2 : i < s.data.size := hi
  have e : s.data.toList[i]? = some s.data[i] := by rw [Array.getElem?_toList, Array.getElem?_eq_getElem hi2]
  rw [u8s, List.getElem?_map, List.getD_eq_getElem?_getD, e]
  rfl
theorem bytes_below (w : World) (s : ByteArray) : Below w.heap.size w (Lib.bytesWorld w 5 s) :=
  ⟨rfl, rfl, rfl, by rw [Lib.bytesWorld_size]; omega, fun k hk => Lib.bytesWorld_at_old w 5 s k hk⟩
theorem conv_str (w : World) (s : ByteArray) : (convert 9 50 (.string s)).run Tryz.prog w = .ok (.slice (some ⟨w.heap.size, 0, none⟩) s.size (grownCap w s.size 0 5)) (Lib.bytesWorld w 5 s) :=
  Lib.run_convert_string_bytes w 9 50 5 s Tryz.underlying9 Tryz.underlying50 Tryz.underlying5

theorem ret_msg2 {fn : Func} (hres : fn.results = #[.cell 2 37, .tmp 3]) {R : Ending → World → Prop} {a : Act} {w : World} {g : Nat} {m : Mg} {v : Value} (h2 : a.tmps.getD 2 undef = .pointer (some ⟨g, 0, none⟩)) (h3 : a.tmps.getD 3 undef = v) (hd : a.defers = []) (h : MB w g m)
    (hR : R (.returned (.tuple #[msgV m, v])) w) : bodyPost Tryz.prog fn R .ret a w := by
  obtain ⟨k0, k1, k2, k3, k4, k5, k6, k7, k8, k9, k10, k11, k12⟩ := h.cells
  simp only [Array.getD_eq_getD_getElem?] at h2 h3
  refine bodyPost_ret_by ?_ hd hR
  simp [results, hres, h2, h3, go_sem, k0, k1, k2, k3, k4, k5, k6, k7, k8, k9, k10, k11, k12, msgV, Mg.cells]

end Go.Proofs.YtofhijnfbilieaaGreat.Ml
