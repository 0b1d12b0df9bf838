/-
  A store as plain mathematics: what a cell's text says, the token, a block, the table; what a message does.
  A store in memory, with its device and its cells; a put to one of its cells.
  The record that a cell's text is.
  The record that a cell's text is: where its numbers are looked through.
  Tables: the greater numbers of two, a message's; is there a block; is a version above another one.
  The token, what a block's cell says, a block's version and bytes.
  What a block's cell says, as the program reads it.
  A block's version and bytes; the table.
-/
import Derived.Test.YtofhijnfbilieaaGreatJM
import Derived.Test.YtofhijnfbilieaaGreatJE
import Derived.BigRegion
import Derived.Deep.RegionLaw
import Derived.Deep.RegionHeld3
import Derived.Deep.RegionHeldLaw
import Derived.Deep.Upon
import Derived.StillTailTactics
namespace Go.Proofs.YtofhijnfbilieaaGreat.Bk
open C (str)
open C.M (Rc enc dec May Fits fits)
open Ml (Mg may)
set_option linter.unusedVariables false
set_option linter.unusedSimpArgs false

def big : Int := 4611686018427387904
/-- the numbers of four clients -/
structure T4 where
  a : Int
  b : Int
  c : Int
  d : Int
deriving DecidableEq
instance : Inhabited T4 := ⟨⟨0, 0, 0, 0⟩⟩
def T4.zero : T4 := ⟨0, 0, 0, 0⟩
/-- of each the greater one -/
def T4.up (x y : T4) : T4 := ⟨max x.a y.a, max x.b y.b, max x.c y.c, max x.d y.d⟩
/-- one client's number, if it is greater -/
def T4.bump (x : T4) (cl n : Int) : T4 := if cl = 0 then { x with a := max x.a n } else if cl = 1 then { x with b := max x.b n } else if cl = 2 then { x with c := max x.c n } else if cl = 3 then { x with d := max x.d n } else x
def T4.Ok (x : T4) : Prop := (0 ≤ x.a ∧ x.a ≤ big) ∧ (0 ≤ x.b ∧ x.b ≤ big) ∧ (0 ≤ x.c ∧ x.c ≤ big) ∧ (0 ≤ x.d ∧ x.d ≤ big)
theorem T4.up_ok {x y : T4} (hx : x.Ok) (hy : y.Ok) : (x.up y).Ok := by
  obtain ⟨h1, h2, h3, h4⟩ := hx
  obtain ⟨g1, g2, g3, g4⟩ := hy
  unfold T4.Ok T4.up
  simp only
  omega
theorem T4.bump_ok {x : T4} (hx : x.Ok) {cl n : Int} (hn : n ≤ big) : (x.bump cl n).Ok := by
  obtain ⟨h1, h2, h3, h4⟩ := hx
  unfold T4.bump
  repeat' split
  all_goals (unfold T4.Ok; (try dsimp only); omega)
theorem T4.zero_ok : T4.zero.Ok := by unfold T4.Ok T4.zero big; dsimp only; omega
theorem T4.zero_up {x : T4} (hx : x.Ok) : T4.zero.up x = x := by
  obtain ⟨a, b, c, d⟩ := x
  obtain ⟨h1, h2, h3, h4⟩ := hx
  simp only at h1 h2 h3 h4
  simp only [T4.up, T4.zero, T4.mk.injEq]
  omega

/-- what a block's cell says -/
structure Sd where
  ep : Int
  sq : Int
  data : ByteArray
  t : T4
instance : Inhabited Sd := ⟨⟨0, 0, ⟨#[]⟩, default⟩⟩
def zero8 : ByteArray := ⟨#[0, 0, 0, 0, 0, 0, 0, 0]⟩
def Sd.zero : Sd := ⟨0, 0, zero8, T4.zero⟩
def Sd.Ok (s : Sd) : Prop := (0 ≤ s.ep ∧ s.ep ≤ big) ∧ (0 ≤ s.sq ∧ s.sq ≤ big) ∧ s.data.size = 8 ∧ s.t.Ok
theorem Sd.zero_ok : Sd.zero.Ok := ⟨by simp [Sd.zero, big], by simp [Sd.zero, big], rfl, T4.zero_ok⟩

/-- numbers that may be -/
def numsOk (l : List Int) : Bool := l.all fun x => decide (0 ≤ x) && decide (x ≤ big)
theorem numsOk_iff (l : List Int) : numsOk l = true ↔ ∀ x ∈ l, 0 ≤ x ∧ x ≤ big := by simp [numsOk]
/-- a record of that kind, with so many numbers, which may be, and so many texts -/
def recOk (r : Rc) (kind : Int) (n m : Nat) : Bool := decide (r.kind = kind) && decide (r.nums.length = n) && decide (r.texts.length = m) && numsOk r.nums
theorem recOk_iff (r : Rc) (kind : Int) (n m : Nat) : recOk r kind n m = true ↔ r.kind = kind ∧ r.nums.length = n ∧ r.texts.length = m ∧ ∀ x ∈ r.nums, 0 ≤ x ∧ x ≤ big := by
  simp [recOk, numsOk_iff, and_assoc]
/-- the record that a cell's text is -/
def recOf (s : ByteArray) (kind : Int) (n m : Nat) : Option Rc := match dec s.data.toList with
  | some r => if recOk r kind n m = true then some r else none
  | none => none
def tokR : Option Rc → Int
  | some r => r.nums.getD 0 0
  | none => 0
/-- the token that the cell's text says -/
def tok (s : ByteArray) : Int := tokR (recOf s 31 1 0)
def stR : Option Rc → Sd
  | some r => if (r.texts.getD 0 ⟨#[]⟩).size = 8 then ⟨r.nums.getD 0 0, r.nums.getD 1 0, r.texts.getD 0 ⟨#[]⟩, ⟨r.nums.getD 2 0, r.nums.getD 3 0, r.nums.getD 4 0, r.nums.getD 5 0⟩⟩ else Sd.zero
  | none => Sd.zero
/-- what a block's cell's text says -/
def st (s : ByteArray) : Sd := stR (recOf s 30 6 1)

theorem recOf_some {s : ByteArray} {kind : Int} {n m : Nat} {r : Rc} (h : recOf s kind n m = some r) : dec s.data.toList = some r ∧ recOk r kind n m = true := by
  unfold recOf at h
  split at h
  · rename_i r' hr
    split at h
    · rename_i hk; injection h with h; subst h; exact ⟨hr, hk⟩
    · cases h
  · cases h
theorem tok_in (s : ByteArray) : 0 ≤ tok s ∧ tok s ≤ big := by
  unfold tok
  cases h : recOf s 31 1 0 with
  | none => simp [tokR, big]
  | some r =>
    obtain ⟨_, h2, h3, h4⟩ := (recOk_iff _ _ _ _).1 (recOf_some h).2
    simp only [tokR]
    match hr : r.nums, h2 with
    | [x], _ =>
      have := h4 x (by rw [hr]; simp)
      simpa using this
theorem st_ok (s : ByteArray) : (st s).Ok := by
  unfold st
  cases h : recOf s 30 6 1 with
  | none => exact Sd.zero_ok
  | some r =>
    obtain ⟨_, h2, h3, h4⟩ := (recOk_iff _ _ _ _).1 (recOf_some h).2
    simp only [stR]
    split
    · rename_i h8
      match hr : r.nums, h2 with
      | [a, b, c, d, e, f], _ =>
        have g := fun x hx => h4 x (by rw [hr]; exact hx)
        exact ⟨by simpa using g a (by simp), by simpa using g b (by simp), h8, by simpa using g c (by simp), by simpa using g d (by simp), by simpa using g e (by simp), by simpa using g f (by simp)⟩
    · exact Sd.zero_ok

def tokRec (x : Int) : Rc := ⟨31, [x], []⟩
def stRec (s : Sd) : Rc := ⟨30, [s.ep, s.sq, s.t.a, s.t.b, s.t.c, s.t.d], [s.data]⟩
def tokT (x : Int) : ByteArray := str (enc (tokRec x))
def stT (s : Sd) : ByteArray := str (enc (stRec s))
theorem fits_in {x : Int} (h : 0 ≤ x ∧ x ≤ big) : fits x := by simp only [big] at h; simp only [fits]; omega
theorem tok_may {x : Int} (h : 0 ≤ x ∧ x ≤ big) : May (tokRec x) ∧ Fits (tokRec x) := by
  refine ⟨⟨by simp [tokRec], by simp [tokRec], by simp [tokRec], by simp [tokRec], by simp [tokRec]⟩, fun y hy => ?_⟩
  simp [tokRec] at hy
  rw [hy]; exact fits_in h
theorem st_may {s : Sd} (h : s.Ok) : May (stRec s) ∧ Fits (stRec s) := by
  obtain ⟨h1, h2, h3, h4, h5, h6, h7⟩ := h
  refine ⟨⟨by simp [stRec], by simp [stRec], by simp [stRec], by simp [stRec], fun t ht => by simp [stRec] at ht; rw [ht]; omega⟩, fun y hy => ?_⟩
  simp [stRec] at hy
  rcases hy with rfl | rfl | rfl | rfl | rfl | rfl <;> apply fits_in <;> assumption
theorem str_list (l : List UInt8) : (str l).data.toList = l := by simp [str]
theorem str_size (l : List UInt8) : (str l).size = l.length := by simp [str, ByteArray.size]
theorem tok_tokT {x : Int} (h : 0 ≤ x ∧ x ≤ big) : tok (tokT x) = x := by
  obtain ⟨h1, h2⟩ := tok_may h
  unfold tok recOf tokT
  rw [str_list, C.M.dec_enc h1 h2]
  have : recOk (tokRec x) 31 1 0 = true := by rw [recOk_iff]; simp [tokRec, h]
  simp only [this, if_true]
  rfl
theorem st_stT {s : Sd} (h : s.Ok) : st (stT s) = s := by
  obtain ⟨h1, h2⟩ := st_may h
  unfold st recOf stT
  rw [str_list, C.M.dec_enc h1 h2]
  obtain ⟨g1, g2, g3, g4, g5, g6, g7⟩ := h
  have : recOk (stRec s) 30 6 1 = true := by
    rw [recOk_iff]
    refine ⟨rfl, rfl, rfl, fun y hy => ?_⟩
    simp [stRec] at hy
    rcases hy with rfl | rfl | rfl | rfl | rfl | rfl <;> assumption
  simp only [this, if_true]
  show (if s.data.size = 8 then Sd.mk s.ep s.sq s.data ⟨s.t.a, s.t.b, s.t.c, s.t.d⟩ else Sd.zero) = s
  rw [if_pos g3]
theorem num_sum (l : List Int) : (l.map fun n => (C.M.num n).length).sum ≤ l.length * 10 := C.M.sum_le l _ 10 fun x _ => (C.M.num_len x).2
theorem tokT_small (x : Int) : (tokT x).size ≤ 100 := by
  have h := num_sum (tokRec x).nums
  unfold tokT
  rw [str_size, C.M.enc_len]
  simp [tokRec] at h ⊢
  omega
theorem stT_small {s : Sd} (h : s.data.size = 8) : (stT s).size ≤ 100 := by
  have g := num_sum (stRec s).nums
  unfold stT
  rw [str_size, C.M.enc_len]
  simp [stRec] at g ⊢
  omega
theorem dec_nil : dec ([] : List UInt8) = none := by rfl
theorem tok_empty : tok ⟨#[]⟩ = 0 := by unfold tok recOf; rw [show (⟨#[]⟩ : ByteArray).data.toList = [] from rfl, dec_nil]; rfl
theorem st_empty : st ⟨#[]⟩ = Sd.zero := by unfold st recOf; rw [show (⟨#[]⟩ : ByteArray).data.toList = [] from rfl, dec_nil]; rfl

/-- a store's cells: the token's is the first one -/
abbrev Cs := Nat → M.Cl
def Cs.set (C : Cs) (k : Nat) (c : M.Cl) : Cs := fun i => if i = k then c else C i
theorem Cs.set_same (C : Cs) (k : Nat) (c : M.Cl) : C.set k c k = c := by simp [Cs.set]
theorem Cs.set_other (C : Cs) {k i : Nat} (c : M.Cl) (h : i ≠ k) : C.set k c i = C i := by simp [Cs.set, h]
theorem Cs.set_self (C : Cs) (k : Nat) : C.set k (C k) = C := by funext i; simp only [Cs.set]; split; · rename_i h; rw [h]
                                                                 · rfl
/-- what block k's cell says -/
def blk (C : Cs) (k : Nat) : Sd := st (C (k + 1)).text
/-- the table of the first k blocks -/
def tab (C : Cs) : Nat → T4
  | 0 => T4.zero
  | k + 1 => (tab C k).up (blk C k).t
theorem tab_ok (C : Cs) : ∀ k, (tab C k).Ok
  | 0 => T4.zero_ok
  | k + 1 => T4.up_ok (tab_ok C k) (st_ok _).2.2.2
def token (C : Cs) : Int := tok (C 0).text

def Mg.t4 (m : Mg) : T4 := ⟨m.t0, m.t1, m.t2, m.t3⟩
/-- is a version above another one? -/
def above (a b c d : Int) : Bool := decide (a > c) || (decide (a = c) && decide (b > d))
/-- what is stored anew -/
def newS (bl : Nat) (C : Cs) (m : Mg) : Sd := ⟨m.epoch, m.seq, m.data, ((tab C bl).up (Mg.t4 m)).bump m.client m.n⟩

/-- a put -/
def putE (n f : Nat) (d : M.Dv) (C : Cs) (k : Nat) (t : ByteArray) : Int := M.puE n d (f + 2 * k) (f + 2 * k + 1) (C k) t
def putD (n f : Nat) (d : M.Dv) (C : Cs) (k : Nat) (t : ByteArray) : M.Dv := M.puD n d (f + 2 * k) (f + 2 * k + 1) (C k) t
def putC (n f : Nat) (d : M.Dv) (C : Cs) (k : Nat) (t : ByteArray) : Cs := C.set k (M.puC n d (f + 2 * k) (f + 2 * k + 1) (C k) t)

/-- an epoch that comes -/
def admE (n f : Nat) (d : M.Dv) (C : Cs) (ep : Int) : Int := if ep < token C then 24 else if ep = token C then 0 else putE n f d C 0 (tokT ep)
def admD (n f : Nat) (d : M.Dv) (C : Cs) (ep : Int) : M.Dv := if ep ≤ token C then d else putD n f d C 0 (tokT ep)
def admC (n f : Nat) (d : M.Dv) (C : Cs) (ep : Int) : Cs := if ep ≤ token C then C else putC n f d C 0 (tokT ep)

/-- is there such a block? -/
def isB (bl : Nat) (b : Int) : Bool := decide (0 ≤ b) && decide (b < (bl : Int))
/-- does a message store anything? -/
def fresh (bl : Nat) (C : Cs) (m : Mg) : Bool := isB bl m.block && decide (m.data.size = 8) && above m.epoch m.seq (blk C m.block.toNat).ep (blk C m.block.toNat).sq
def stoE (n f bl : Nat) (d : M.Dv) (C : Cs) (m : Mg) : Int := if isB bl m.block = false then 2 else if m.data.size ≠ 8 then 3 else if fresh bl C m = true then putE n f d C (m.block.toNat + 1) (stT (newS bl C m)) else 0
def stoD (n f bl : Nat) (d : M.Dv) (C : Cs) (m : Mg) : M.Dv := if fresh bl C m = true then putD n f d C (m.block.toNat + 1) (stT (newS bl C m)) else d
def stoC (n f bl : Nat) (d : M.Dv) (C : Cs) (m : Mg) : Cs := if fresh bl C m = true then putC n f d C (m.block.toNat + 1) (stT (newS bl C m)) else C

/-- what is loaded -/
def getV (bl : Nat) (C : Cs) (b : Int) : Int × Int × ByteArray := if isB bl b = true then ((blk C b.toNat).ep, (blk C b.toNat).sq, (blk C b.toNat).data) else (0, 0, ⟨#[]⟩)
def loaE (bl : Nat) (b : Int) : Int := if b ≠ -1 ∧ isB bl b = false then 2 else 0
def loaS (bl : Nat) (C : Cs) (b : Int) : ByteArray := (getV bl C b).2.2
def loaT (bl : Nat) (C : Cs) (b : Int) : T4 := if b ≠ -1 ∧ isB bl b = false then T4.zero else tab C bl

/-- may a message be taken? -/
def can (m : Mg) : Bool := (decide (m.kind = 10) || decide (m.kind = 12)) && may m
def goes (n f : Nat) (d : M.Dv) (C : Cs) (m : Mg) : Bool := can m && decide (admE n f d C m.epoch = 0) && decide (m.kind = 10)
def takE (n f bl : Nat) (d : M.Dv) (C : Cs) (m : Mg) : Int :=
  if admE n f d C m.epoch ≠ 0 then admE n f d C m.epoch else if m.kind = 12 then loaE bl m.block else stoE n f bl (admD n f d C m.epoch) (admC n f d C m.epoch) m
def takD (n f bl : Nat) (d : M.Dv) (C : Cs) (m : Mg) : M.Dv :=
  if can m = false then d else if admE n f d C m.epoch ≠ 0 ∨ m.kind = 12 then admD n f d C m.epoch else stoD n f bl (admD n f d C m.epoch) (admC n f d C m.epoch) m
def takC (n f bl : Nat) (d : M.Dv) (C : Cs) (m : Mg) : Cs :=
  if can m = false then C else if admE n f d C m.epoch ≠ 0 ∨ m.kind = 12 then admC n f d C m.epoch else stoC n f bl (admD n f d C m.epoch) (admC n f d C m.epoch) m
def takI (n f bl : Nat) (d : M.Dv) (C : Cs) (m : Mg) : Bool := can m && decide (takE n f bl d C m ≠ 30)
/-- the answer -/
def takA (n f bl : Nat) (d : M.Dv) (C : Cs) (m : Mg) : Mg :=
  if takI n f bl d C m = false then Ml.nil else
    if m.kind = 12 ∧ admE n f d C m.epoch = 0 then
      ⟨13, m.epoch, m.seq, m.n, m.block, -1, takE n f bl d C m, (loaT bl (admC n f d C m.epoch) m.block).a, (loaT bl (admC n f d C m.epoch) m.block).b, (loaT bl (admC n f d C m.epoch) m.block).c, (loaT bl (admC n f d C m.epoch) m.block).d, loaS bl (admC n f d C m.epoch) m.block, ⟨#[]⟩⟩
    else ⟨m.kind + 1, m.epoch, m.seq, m.n, m.block, -1, takE n f bl d C m, 0, 0, 0, 0, ⟨#[]⟩, ⟨#[]⟩⟩
end Go.Proofs.YtofhijnfbilieaaGreat.Bk
namespace Go.Proofs.YtofhijnfbilieaaGreat.Bk
open Go.RowKit
open Ml (Mg may)
set_option linter.unusedVariables false
set_option linter.unusedSimpArgs false
set_option maxRecDepth 20000

variable {dB sB mB n : Nat} {d : M.Dv}

/-- a store's own block -/
structure StAt (w : World) (tB bl : Nat) (K : Nat → Nat) : Prop where
  q0 : w.cell? ⟨tB, 0, none⟩ = some (.pointer (some ⟨K 0, 0, none⟩))
  qb : ∀ i, i < bl → w.cell? ⟨tB, 1 + i, none⟩ = some (.pointer (some ⟨K (i + 1), 0, none⟩))
  qn : w.cell? ⟨tB, 33, none⟩ = some (.int .i64 (bl : Int))
theorem StAt.lt {w : World} {tB bl : Nat} {K : Nat → Nat} (h : StAt w tB bl K) : tB < w.heap.size := World.block_lt_of_cell? w _ h.q0
theorem StAt.of_block {w w' : World} {tB bl : Nat} {K : Nat → Nat} (h : StAt w tB bl K) (hb : w'.heap[tB]? = w.heap[tB]?) : StAt w' tB bl K where
  q0 := by rw [World.cell?_of_block (w := w) (a := ⟨tB, 0, none⟩) hb]; exact h.q0
  qb := fun i hi => by rw [World.cell?_of_block (w := w) (a := ⟨tB, 1 + i, none⟩) hb]; exact h.qb i hi
  qn := by rw [World.cell?_of_block (w := w) (a := ⟨tB, 33, none⟩) hb]; exact h.qn
theorem StAt.but {w w' : World} {tB bl : Nat} {K : Nat → Nat} (h : StAt w tB bl K) {l : List Nat} (hb : But l w w') (hn : tB ∉ l) : StAt w' tB bl K := h.of_block (hb.block _ h.lt hn)
theorem StAt.below {w w' : World} {tB bl B : Nat} {K : Nat → Nat} (h : StAt w tB bl K) (hb : Below B w w') (hB : tB < B) : StAt w' tB bl K := h.of_block (hb.block _ hB)

/-- the blocks that a message may change -/
def ours (dB sB mB bl : Nat) (K : Nat → Nat) : List Nat := dB :: sB :: mB :: (List.range (bl + 1)).map K
theorem mem_ours {dB sB mB bl : Nat} {K : Nat → Nat} {x : Nat} : x ∈ ours dB sB mB bl K ↔ x = dB ∨ x = sB ∨ x = mB ∨ ∃ k, k ≤ bl ∧ x = K k := by
  simp only [ours, List.mem_cons, List.mem_map, List.mem_range]
  constructor
  · rintro (h | h | h | ⟨k, hk, rfl⟩)
    · exact .inl h
    · exact .inr (.inl h)
    · exact .inr (.inr (.inl h))
    · exact .inr (.inr (.inr ⟨k, by omega, rfl⟩))
  · rintro (h | h | h | ⟨k, hk, rfl⟩)
    · exact .inl h
    · exact .inr (.inl h)
    · exact .inr (.inr (.inl h))
    · exact .inr (.inr (.inr ⟨k, by omega, rfl⟩))

/-- a store, its device and its cells, in memory -/
structure ST (w : World) (dB sB mB n : Nat) (d : M.Dv) (tB bl f : Nat) (K : Nat → Nat) (C : Cs) : Prop where
  dev : DevAt w dB sB mB n d
  at_ : StAt w tB bl K
  cel : ∀ k, k ≤ bl → CellAt w (K k) dB (f + 2 * k) (f + 2 * k + 1) (C k)
  kd : ∀ k, k ≤ bl → K k ≠ dB ∧ K k ≠ sB ∧ K k ≠ mB
  ka : ∀ j k, j ≤ bl → k ≤ bl → j ≠ k → K j ≠ K k
  td : tB ≠ dB ∧ tB ≠ sB ∧ tB ≠ mB
  tk : ∀ k, k ≤ bl → K k ≠ tB
  o1 : ∀ k, k ≤ bl → (C k).o ≤ 1
  gn : ∀ k, k ≤ bl → 0 ≤ (C k).gen ∧ (C k).gen ≤ 4611686018427387904
  tx : ∀ k, k ≤ bl → (C k).text.size ≤ 100
  bl1 : 1 ≤ bl ∧ bl ≤ 32
  fit : f + 2 * (1 + bl) ≤ n

theorem ST.but {w w' : World} {tB bl f : Nat} {K : Nat → Nat} {C : Cs} (h : ST w dB sB mB n d tB bl f K C) {l : List Nat} (hb : But l w w') (hn : ∀ x ∈ l, x ≠ tB ∧ x ∉ ours dB sB mB bl K) : ST w' dB sB mB n d tB bl f K C where
  dev := h.dev.but hb (fun hx => (hn _ hx).2 (mem_ours.2 (.inl rfl))) (fun hx => (hn _ hx).2 (mem_ours.2 (.inr (.inl rfl)))) (fun hx => (hn _ hx).2 (mem_ours.2 (.inr (.inr (.inl rfl)))))
  at_ := h.at_.but hb (fun hx => (hn _ hx).1 rfl)
  cel := fun k hk => (h.cel k hk).but hb (fun hx => (hn _ hx).2 (mem_ours.2 (.inr (.inr (.inr ⟨k, hk, rfl⟩)))))
  kd := h.kd
  ka := h.ka
  td := h.td
  tk := h.tk
  o1 := h.o1
  gn := h.gn
  tx := h.tx
  bl1 := h.bl1
  fit := h.fit
theorem ST.below {w w' : World} {tB bl f : Nat} {K : Nat → Nat} {C : Cs} (h : ST w dB sB mB n d tB bl f K C) (hb : Below w.heap.size w w') : ST w' dB sB mB n d tB bl f K C := h.but (But.of_below hb) (by simp)
/-- all of it lies within what is there -/
theorem ST.ours_lt {w : World} {tB bl f : Nat} {K : Nat → Nat} {C : Cs} (h : ST w dB sB mB n d tB bl f K C) : tB < w.heap.size ∧ ∀ x ∈ ours dB sB mB bl K, x < w.heap.size := by
  refine ⟨h.at_.lt, fun x hx => ?_⟩
  rcases mem_ours.1 hx with rfl | rfl | rfl | ⟨k, hk, rfl⟩
  · exact h.dev.ltD
  · exact h.dev.lt
  · exact h.dev.pend.lt
  · exact (h.cel k hk).lt

theorem putC_ok {n f bl : Nat} {d : M.Dv} {C : Cs} (o1 : ∀ k, k ≤ bl → (C k).o ≤ 1) (gn : ∀ k, k ≤ bl → 0 ≤ (C k).gen ∧ (C k).gen ≤ 4611686018427387904) (tx : ∀ k, k ≤ bl → (C k).text.size ≤ 100) (k : Nat) (hk : k ≤ bl) {t : ByteArray} (ht : t.size ≤ 100) :
    (∀ j, j ≤ bl → (putC n f d C k t j).o ≤ 1) ∧ (∀ j, j ≤ bl → 0 ≤ (putC n f d C k t j).gen ∧ (putC n f d C k t j).gen ≤ 4611686018427387904) ∧ ∀ j, j ≤ bl → (putC n f d C k t j).text.size ≤ 100 := by
  have hw := M.pu_ways n d (f + 2 * k) (f + 2 * k + 1) (C k) t (gn k hk).2
  unfold putC Cs.set
  refine ⟨fun j hj => ?_, fun j hj => ?_, fun j hj => ?_⟩ <;> split
  · rcases hw with ⟨_, h, _⟩ | ⟨_, h⟩ <;> rw [h]
    · simp only; omega
    · exact o1 k hk
  · exact o1 j hj
  · rcases hw with ⟨_, h, h2⟩ | ⟨_, h⟩ <;> rw [h]
    · have := gn k hk; simp only; omega
    · exact gn k hk
  · exact gn j hj
  · rcases hw with ⟨_, h, _⟩ | ⟨_, h⟩ <;> rw [h]
    · exact ht
    · exact tx k hk
  · exact tx j hj

/-- a put to one of its cells -/
theorem put_st (w : World) {tB bl f : Nat} {K : Nat → Nat} {C : Cs} (h : ST w dB sB mB n d tB bl f K C) (k : Nat) (hk : k ≤ bl) (t : ByteArray) (ht : t.size ≤ 100) :
    Calls Tryz.prog 54 #[.pointer (some ⟨K k, 0, none⟩), .string t] w fun e w' => e = .returned (.int .i64 (putE n f d C k t)) ∧ ST w' dB sB mB n (putD n f d C k t) tB bl f K (putC n f d C k t) ∧ But (ours dB sB mB bl K) w w' := by
  have hn := h.dev.n512
  have hf := h.fit
  refine (put_all w h.dev (K k) (f + 2 * k) (f + 2 * k + 1) (C k) (h.cel k hk) (h.kd k hk) (h.o1 k hk) (h.gn k hk) ⟨by omega, by omega⟩ t ht).mono ?_
  rintro e w' ⟨rfl, hd, hc, hb⟩
  have hb' : But (ours dB sB mB bl K) w w' := hb.mono fun x hx => by
    simp only [List.mem_cons, List.not_mem_nil, or_false] at hx
    rcases hx with rfl | rfl | rfl | rfl
    · exact mem_ours.2 (.inl rfl)
    · exact mem_ours.2 (.inr (.inl rfl))
    · exact mem_ours.2 (.inr (.inr (.inl rfl)))
    · exact mem_ours.2 (.inr (.inr (.inr ⟨k, hk, rfl⟩)))
  obtain ⟨g1, g2, g3⟩ := putC_ok (n := n) (f := f) (d := d) h.o1 h.gn h.tx k hk ht
  refine ⟨rfl, ⟨hd, h.at_.but hb (by have := h.td; have := h.tk k hk; simp; omega), fun j hj => ?_, h.kd, h.ka, h.td, h.tk, g1, g2, g3, h.bl1, h.fit⟩, hb'⟩
  by_cases hjk : j = k
  · subst hjk
    unfold putC
    rw [Cs.set_same]
    exact hc
  · unfold putC
    rw [Cs.set_other _ _ hjk]
    have := h.kd j hj
    have := h.ka j k hj hk hjk
    exact (h.cel j hj).but hb (by simp; omega)

/-- a cell that comes where another one was -/
def Ks.set (K : Nat → Nat) (k b : Nat) : Nat → Nat := fun i => if i = k then b else K i
theorem Ks.set_same (K : Nat → Nat) (k b : Nat) : Ks.set K k b k = b := by simp [Ks.set]
theorem Ks.set_other (K : Nat → Nat) {k i : Nat} (b : Nat) (h : i ≠ k) : Ks.set K k b i = K i := by simp [Ks.set, h]
end Go.Proofs.YtofhijnfbilieaaGreat.Bk
namespace Go.Proofs.YtofhijnfbilieaaGreat.Bk
open Go.RowKit
open Ml (Mg may)
open C (RecAt RecOwn zeroRec)
set_option linter.unusedVariables false
set_option linter.unusedSimpArgs false
set_option maxRecDepth 20000

theorem bx_fz {w : World} {cs : Array Value} {t : TypeId} {w' : World} (h : C.Bx w (.cells cs t) w') (o : Nat) : w'.frozen? ⟨w.heap.size, o, none⟩ = false := by
  have h2 : Below (w.heap.size + 1) (w.alloc (.cells cs t)) w' := h
  rw [h2.frozen (p := ⟨w.heap.size, o, none⟩) (by simp)]
  exact World.frozen?_alloc_at _ _ _ _ rfl
/-- the result's three cells -/
structure R3 (w : World) (g : Nat) (a b c : Value) : Prop where
  c0 : w.cell? ⟨g, 0, none⟩ = some a
  c1 : w.cell? ⟨g, 1, none⟩ = some b
  c2 : w.cell? ⟨g, 2, none⟩ = some c
  fz : ∀ o, w.frozen? ⟨g, o, none⟩ = false
theorem R3.of {w : World} {a b c : Value} {w' : World} (h : C.Bx w (.cells #[a, b, c] 99) w') : R3 w' w.heap.size a b c :=
  ⟨h.cells.1, h.cells.2.1, h.cells.2.2, bx_fz h⟩
theorem bytes_size (w : World) (s : ByteArray) : (Lib.bytesWorld w 5 s).heap.size = w.heap.size + 1 := Lib.bytesWorld_size w 5 s

/-- a decode behind a result's box -/
theorem box_dec {w : World} {cs : Array Value} {s : ByteArray} {w1 : World} (hb : Below (Lib.bytesWorld (w.alloc (.cells cs 99)) 5 s).heap.size (Lib.bytesWorld (w.alloc (.cells cs 99)) 5 s) w1) : C.Bx w (.cells cs 99) w1 := by
  have h1 := Ml.bytes_below (w.alloc (.cells cs 99)) s
  unfold C.Bx
  rw [show w.heap.size + 1 = (w.alloc (.cells cs 99)).heap.size by simp]
  exact h1.trans (hb.mono h1.size)

set_option maxHeartbeats 2000000 in
theorem brec_none (w : World) (s : ByteArray) (hs : s.size ≤ 65536) (kind : Int) (n m : Int) (hk : kind ≠ 0) (hd : C.M.dec s.data.toList = none) :
    Calls Tryz.prog 46 #[.string s, .int .i64 kind, .int .i64 n, .int .i64 m] w fun e w' => e = .returned (.tuple #[zeroRec, .bool false]) ∧ Below w.heap.size w w' := by
  have hD := C.decode_no (Lib.bytesWorld (w.alloc (.cells #[.int .i64 0, .slice none 0 0, .slice none 0 0] 99)) 5 s) _ _ _ _ (Ml.bytes_row (w.alloc (.cells #[.int .i64 0, .slice none 0 0, .slice none 0 0] 99)) s hs) hd
  rw [show (w.alloc (.cells #[.int .i64 0, .slice none 0 0, .slice none 0 0] 99)).heap.size = w.heap.size + 1 by simp] at hD
  have kc := Ml.conv_str (w.alloc (.cells #[.int .i64 0, .slice none 0 0, .slice none 0 0] 99)) s
  have hk1 : ((0 : Int) != kind) = true := by rw [bne_iff_ne]; exact fun h => hk h.symm
  have HD := Lib.hid hD
  clear hD hd hs hk
  go_enter Tryz.func46, Tryz.ntmps46
  go_wp2_with (first
    | (go_at_call 67; with_reducible refine HD.out.mono ?_; rintro e1 w1 ⟨rfl, hb⟩
       have HX := Lib.hid ((box_dec hb).alloc (.cells #[.int .i64 0, .slice none 0 0, .slice none 0 0] 99))
       obtain ⟨z0, z1, z2, zf⟩ := R3.of HX.out
       clear hb))
  refine bodyPost_ret (v := .tuple #[zeroRec, .bool false]) (by simp [results, Tryz.results46, go_sem, zeroRec, z0, z1, z2]) rfl ⟨rfl, ?_⟩
  exact ((HX.out.old.setCell (Nat.le_refl _) _).setCell (Nat.le_refl _) _).setCell (Nat.le_refl _) _

set_option maxHeartbeats 2000000 in
theorem brec_out (w : World) (s : ByteArray) (hs : s.size ≤ 65536) (kind : Int) (n m : Nat) (r : C.M.Rc) (hd : C.M.dec s.data.toList = some r) (hi : ¬ (r.kind = kind ∧ r.nums.length = n ∧ r.texts.length = m)) :
    Calls Tryz.prog 46 #[.string s, .int .i64 kind, .int .i64 (n : Int), .int .i64 (m : Int)] w fun e w' => e = .returned (.tuple #[zeroRec, .bool false]) ∧ Below w.heap.size w w' := by
  have hD := C.decode_ok (Lib.bytesWorld (w.alloc (.cells #[.int .i64 0, .slice none 0 0, .slice none 0 0] 99)) 5 s) _ _ _ _ r (Ml.bytes_row (w.alloc (.cells #[.int .i64 0, .slice none 0 0, .slice none 0 0] 99)) s hs) hd
  rw [show (w.alloc (.cells #[.int .i64 0, .slice none 0 0, .slice none 0 0] 99)).heap.size = w.heap.size + 1 by simp] at hD
  have kc := Ml.conv_str (w.alloc (.cells #[.int .i64 0, .slice none 0 0, .slice none 0 0] 99)) s
  have HLen : Hid (∀ w' B aN nN cN aT nT cT, RecOwn w' B r aN nN cN aT nT cT → nN = r.nums.length ∧ nT = r.texts.length) := Lib.hid fun _ _ _ _ _ _ _ _ h => ⟨h.at.lenN, h.at.lenT⟩
  have HD := Lib.hid hD
  clear hD hd hs
  generalize r.nums.length = p at *
  generalize r.texts.length = q at *
  generalize hkd : r.kind = kd at *
  have HK := Lib.hid hkd
  clear hkd
  have hc : (((kd : Int) != kind) = true) ∨ (((kd : Int) != kind) = false ∧ ((p : Int) != (n : Int)) = true) ∨ (((kd : Int) != kind) = false ∧ ((p : Int) != (n : Int)) = false ∧ ((q : Int) != (m : Int)) = true) := by
    by_cases h1 : kd = kind
    · have g1 : ((kd : Int) != kind) = false := by simp [h1]
      by_cases h2 : p = n
      · have h3 : ¬ q = m := fun h3 => hi ⟨h1, h2, h3⟩
        exact .inr (.inr ⟨g1, by rw [bne_eq_false_iff_eq]; omega, by rw [bne_iff_ne]; omega⟩)
      · exact .inr (.inl ⟨g1, by rw [bne_iff_ne]; omega⟩)
    · exact .inl (by rw [bne_iff_ne]; exact h1)
  clear hi
  rcases hc with g1 | ⟨g1, g2⟩ | ⟨g1, g2, g3⟩
  all_goals
    go_enter Tryz.func46, Tryz.ntmps46
    go_wp2_with (first
      | (go_at_call 67; with_reducible refine HD.out.mono ?_; rintro e1 w1 ⟨aN, nN, cN, aT, nT, cT, rfl, hr, hb⟩
         obtain ⟨rfl, rfl⟩ := HLen.out _ _ _ _ _ _ _ _ hr
         have HX := Lib.hid ((box_dec hb).alloc (.cells #[.int .i64 kd, .slice aN nN cN, .slice aT nT cT] 99))
         obtain ⟨z0, z1, z2, zf⟩ := R3.of HX.out
         clear hb hr))
    refine bodyPost_ret (v := .tuple #[zeroRec, .bool false]) (by simp [results, Tryz.results46, go_sem, zeroRec, z0, z1, z2]) rfl ⟨rfl, ?_⟩
    exact ((HX.out.old.setCell (Nat.le_refl _) _).setCell (Nat.le_refl _) _).setCell (Nat.le_refl _) _
end Go.Proofs.YtofhijnfbilieaaGreat.Bk
namespace Go.Proofs.YtofhijnfbilieaaGreat.Bk
open Go.RowKit
open Ml (Mg may)
open C (RecAt RecOwn zeroRec)
set_option linter.unusedVariables false
set_option linter.unusedSimpArgs false
set_option maxRecDepth 20000

theorem first_bad : ∀ {l : List Int}, (¬ ∀ x ∈ l, 0 ≤ x ∧ x ≤ big) → ∃ (k : Nat) (x : Int), l[k]? = some x ∧ ¬ (0 ≤ x ∧ x ≤ big) ∧ ∀ (j : Nat) (y : Int), j < k → l[j]? = some y → 0 ≤ y ∧ y ≤ big
  | [], h => absurd (by simp) h
  | z :: zs, h => by
    by_cases hz : 0 ≤ z ∧ z ≤ big
    · obtain ⟨k, x, h1, h2, h3⟩ := first_bad (l := zs) fun h' => h fun x hx => by
        rcases List.mem_cons.1 hx with rfl | hx
        · exact hz
        · exact h' x hx
      refine ⟨k + 1, x, h1, h2, fun j y hj hy => ?_⟩
      cases j with
      | zero => simp at hy; rw [← hy]; exact hz
      | succ j => exact h3 j y (by omega) hy
    · exact ⟨0, z, rfl, hz, fun j y hj => by omega⟩

set_option maxHeartbeats 4000000 in
theorem brec_bad (w : World) (s : ByteArray) (hs : s.size ≤ 65536) (kind : Int) (n m : Nat) (r : C.M.Rc) (hd : C.M.dec s.data.toList = some r) (h1 : r.kind = kind) (h2 : r.nums.length = n) (h3 : r.texts.length = m) (hb : ¬ ∀ x ∈ r.nums, 0 ≤ x ∧ x ≤ big) :
    Calls Tryz.prog 46 #[.string s, .int .i64 kind, .int .i64 (n : Int), .int .i64 (m : Int)] w fun e w' => e = .returned (.tuple #[zeroRec, .bool false]) ∧ Below w.heap.size w w' := by
  have hD := C.decode_ok (Lib.bytesWorld (w.alloc (.cells #[.int .i64 0, .slice none 0 0, .slice none 0 0] 99)) 5 s) _ _ _ _ r (Ml.bytes_row (w.alloc (.cells #[.int .i64 0, .slice none 0 0, .slice none 0 0] 99)) s hs) hd
  rw [show (w.alloc (.cells #[.int .i64 0, .slice none 0 0, .slice none 0 0] 99)).heap.size = w.heap.size + 1 by simp] at hD
  have kc := Ml.conv_str (w.alloc (.cells #[.int .i64 0, .slice none 0 0, .slice none 0 0] 99)) s
  have HLen : Hid (∀ w' B aN nN cN aT nT cT, RecOwn w' B r aN nN cN aT nT cT → nN = n ∧ nT = m) := Lib.hid fun _ _ _ _ _ _ _ _ h => ⟨h.at.lenN.trans h2, h.at.lenT.trans h3⟩
  obtain ⟨p, x, hp, hx, hall⟩ := first_bad hb
  have hpn : p < n := by rw [← h2]; exact (List.getElem?_eq_some_iff.1 hp).1
  have hnb : n ≤ 16 := by rw [← h2]; exact (C.M.enc_dec hd).1.2.2.1
  have HP := Lib.hid hp
  have HA := Lib.hid hall
  have hx' : x < 0 ∨ (¬ x < 0 ∧ 4611686018427387904 < x) := by simp only [big] at hx; omega
  have HR : Hid (∀ w' B aN nN cN aT nT cT, RecOwn w' B r aN nN cN aT nT cT → C.Row w' aN nN cN (C.i64s r.nums)) := Lib.hid fun _ _ _ _ _ _ _ _ h => h.at.1
  have HD := Lib.hid hD
  clear hD hd hs hb h2 h3 hp hall hx
  generalize r.kind = kd at *
  subst h1
  rcases hx' with hx1 | ⟨hx1, hx2⟩
  all_goals
    go_enter Tryz.func46, Tryz.ntmps46
    go_wp2_with (first
      | (go_at_call 67; with_reducible refine HD.out.mono ?_; rintro e1 w1 ⟨aN, nN, cN, aT, nT, cT, rfl, hr, hb⟩
         obtain ⟨rfl, rfl⟩ := HLen.out _ _ _ _ _ _ _ _ hr
         have HX := Lib.hid ((box_dec hb).alloc (.cells #[.int .i64 kd, .slice aN nN cN, .slice aT nT cT] 99))
         have HRw := Lib.hid (C.row_below (HR.out _ _ _ _ _ _ _ _ hr) ((Below.refl w1.heap.size w1).alloc (Nat.le_refl _) (.cells #[.int .i64 kd, .slice aN nN cN, .slice aT nT cT] 99)) (Nat.le_refl _))
         clear hb hr))
    generalize w1.alloc (.cells #[.int .i64 kd, .slice aN nN cN, .slice aT nT cT] 99) = W2 at *
    go_loopw [42] (fun i wr => ∃ k : Nat, k ≤ p ∧ i = .int .i64 (k : Int) ∧ wr = W2) (fun i _ => nN - (intOf i).toNat)
    case atStart => exact ⟨0, by omega, rfl, rfl⟩
    case round =>
      obtain ⟨k, hk, rfl, rfl⟩ := hrel
      obtain ⟨b, off, z, rfl, hbl, hz, hc⟩ := C.row_i64 HRw.out k (by omega)
      have hlt : (k : Int) < (nN : Int) := by omega
      by_cases hkp : k = p
      · subst hkp
        obtain rfl : z = x := by have := HP.out; rw [hz] at this; exact Option.some.inj this
        obtain ⟨z0, z1, z2, zf⟩ := R3.of HX.out
        go_wp2
        refine bodyPost_ret (v := .tuple #[zeroRec, .bool false]) (by simp [results, Tryz.results46, go_sem, zeroRec, z0, z1, z2]) rfl ⟨rfl, ?_⟩
        exact ((HX.out.old.setCell (Nat.le_refl _) _).setCell (Nat.le_refl _) _).setCell (Nat.le_refl _) _
      · have hzz := HA.out k z (by omega) hz
        simp only [big] at hzz
        have g1 : ¬ z < 0 := by omega
        have g2 : ¬ 4611686018427387904 < z := by omega
        go_wp2
        go_roundw
        case rel => exact ⟨k + 1, by omega, by go_num, by trivial⟩
        case measure => simp [intOf]; omega

set_option maxHeartbeats 4000000 in
theorem brec_yes (w : World) (s : ByteArray) (hs : s.size ≤ 65536) (kind : Int) (n m : Nat) (r : C.M.Rc) (hd : recOf s kind n m = some r) :
    Calls Tryz.prog 46 #[.string s, .int .i64 kind, .int .i64 (n : Int), .int .i64 (m : Int)] w fun e w' => ∃ aN cN aT cT, e = .returned (.tuple #[.agg #[.int .i64 kind, .slice aN n cN, .slice aT m cT], .bool true]) ∧ RecOwn w' (w.heap.size + 1) r aN n cN aT m cT ∧ Below w.heap.size w w' := by
  obtain ⟨hd, hok⟩ := recOf_some hd
  obtain ⟨h1, h2, h3, hall⟩ := (recOk_iff _ _ _ _).1 hok
  have hD := C.decode_ok (Lib.bytesWorld (w.alloc (.cells #[.int .i64 0, .slice none 0 0, .slice none 0 0] 99)) 5 s) _ _ _ _ r (Ml.bytes_row (w.alloc (.cells #[.int .i64 0, .slice none 0 0, .slice none 0 0] 99)) s hs) hd
  rw [show (w.alloc (.cells #[.int .i64 0, .slice none 0 0, .slice none 0 0] 99)).heap.size = w.heap.size + 1 by simp] at hD
  have kc := Ml.conv_str (w.alloc (.cells #[.int .i64 0, .slice none 0 0, .slice none 0 0] 99)) s
  have HLen : Hid (∀ w' B aN nN cN aT nT cT, RecOwn w' B r aN nN cN aT nT cT → nN = n ∧ nT = m) := Lib.hid fun _ _ _ _ _ _ _ _ h => ⟨h.at.lenN.trans h2, h.at.lenT.trans h3⟩
  have HA := Lib.hid hall
  have HR : Hid (∀ w' B aN nN cN aT nT cT, RecOwn w' B r aN nN cN aT nT cT → C.Row w' aN nN cN (C.i64s r.nums)) := Lib.hid fun _ _ _ _ _ _ _ _ h => h.at.1
  have HB : Hid ((Lib.bytesWorld (w.alloc (.cells #[.int .i64 0, .slice none 0 0, .slice none 0 0] 99)) 5 s).heap.size = w.heap.size + 2) := Lib.hid (by rw [bytes_size]; simp)
  have HO : Hid (∀ w' B B' aN nN cN aT nT cT, RecOwn w' B r aN nN cN aT nT cT → B' ≤ B → RecOwn w' B' r aN nN cN aT nT cT) := Lib.hid fun _ _ _ _ _ _ _ _ _ h hB => ⟨C.own_mono h.nums hB, C.own_mono h.texts hB⟩
  have HD := Lib.hid hD
  have HOk : Hid (C.M.May r) := Lib.hid (C.M.enc_dec hd).1
  have hnb : n ≤ 16 := by rw [← h2]; exact HOk.out.2.2.1
  clear hD hd hs hok h2 h3 hall
  generalize hkd : r.kind = kd at *
  subst h1
  clear hkd
  go_enter Tryz.func46, Tryz.ntmps46
  go_wp2_with (first
    | (go_at_call 67; with_reducible refine HD.out.mono ?_; rintro e1 w1 ⟨aN, nN, cN, aT, nT, cT, rfl, hr, hb⟩
       obtain ⟨rfl, rfl⟩ := HLen.out _ _ _ _ _ _ _ _ hr
       have HX := Lib.hid ((box_dec hb).alloc (.cells #[.int .i64 kd, .slice aN nN cN, .slice aT nT cT] 99))
       have HRo := Lib.hid (hr.below ((Below.refl w1.heap.size w1).alloc (Nat.le_refl _) (.cells #[.int .i64 kd, .slice aN nN cN, .slice aT nT cT] 99)) (Nat.le_refl _))
       obtain ⟨y0, y1, y2, yf⟩ := R3.of (C.Bx.refl w1 (.cells #[.int .i64 kd, .slice aN nN cN, .slice aT nT cT] 99))
       clear hb hr))
  generalize w1.alloc (.cells #[.int .i64 kd, .slice aN nN cN, .slice aT nT cT] 99) = W2 at *
  go_loopw [42] (fun i wr => ∃ k : Nat, k ≤ nN ∧ i = .int .i64 (k : Int) ∧ wr = W2) (fun i _ => nN - (intOf i).toNat)
  case atStart => exact ⟨0, by omega, rfl, rfl⟩
  case round =>
    obtain ⟨k, hk, rfl, rfl⟩ := hrel
    by_cases hkp : k = nN
    · subst hkp
      obtain ⟨z0, z1, z2, zf⟩ := R3.of HX.out
      go_wp2
      refine bodyPost_ret (v := .tuple #[.agg #[.int .i64 kd, .slice aN k cN, .slice aT nT cT], .bool true]) (by simp [results, Tryz.results46, go_sem, z0, z1, z2]) rfl ⟨aN, cN, aT, cT, rfl, ?_, ?_⟩
      · have hB := HB.out
        exact HO.out _ _ _ _ _ _ _ _ _ (((HRo.out.set _ (by simp only; omega)).set _ (by simp only; omega)).set _ (by simp only; omega)) (by omega)
      · exact ((HX.out.old.setCell (Nat.le_refl _) _).setCell (Nat.le_refl _) _).setCell (Nat.le_refl _) _
    · obtain ⟨b, off, z, rfl, hbl, hz, hc⟩ := C.row_i64 (HR.out _ _ _ _ _ _ _ _ HRo.out) k (by omega)
      have hlt : (k : Int) < (nN : Int) := by omega
      have hzz := HA.out z (List.mem_of_getElem? hz)
      simp only [big] at hzz
      have g1 : ¬ z < 0 := by omega
      have g2 : ¬ 4611686018427387904 < z := by omega
      go_wp2
      go_roundw
      case rel => exact ⟨k + 1, by omega, by go_num, by trivial⟩
      case measure => simp [intOf]; omega

/-- where the text is no such record -/
theorem brec_no (w : World) (s : ByteArray) (hs : s.size ≤ 65536) (kind : Int) (n m : Nat) (hk : kind ≠ 0) (h : recOf s kind n m = none) :
    Calls Tryz.prog 46 #[.string s, .int .i64 kind, .int .i64 (n : Int), .int .i64 (m : Int)] w fun e w' => e = .returned (.tuple #[zeroRec, .bool false]) ∧ Below w.heap.size w w' := by
  cases hd : C.M.dec s.data.toList with
  | none => exact brec_none w s hs kind n m hk hd
  | some r =>
    have hok : ¬ recOk r kind n m = true := fun hok => by unfold recOf at h; rw [hd] at h; simp [hok] at h
    by_cases ho : r.kind = kind ∧ r.nums.length = n ∧ r.texts.length = m
    · obtain ⟨h1, h2, h3⟩ := ho
      refine brec_bad w s hs kind n m r hd h1 h2 h3 fun hall => hok ((recOk_iff _ _ _ _).2 ⟨h1, h2, h3, hall⟩)
    · exact brec_out w s hs kind n m r hd ho
end Go.Proofs.YtofhijnfbilieaaGreat.Bk
namespace Go.Proofs.YtofhijnfbilieaaGreat.Bk
open Go.RowKit
open Ml (Mg may msgV)
set_option linter.unusedVariables false
set_option linter.unusedSimpArgs false
set_option maxRecDepth 20000

theorem has_any (w : World) {tB bl : Nat} {K : Nat → Nat} (h : StAt w tB bl K) (i : Int) :
    Calls Tryz.prog 44 #[.pointer (some ⟨tB, 0, none⟩), .int .i64 i] w fun e w' => e = .returned (.bool (isB bl i)) ∧ w = w' := by
  have q := h.qn
  clear h
  by_cases h1 : 0 ≤ i
  · have e : isB bl i = decide (i < (bl : Int)) := by unfold isB; rw [decide_eq_true h1, Bool.true_and]
    rw [e]
    go_enter Tryz.func44, Tryz.ntmps44
    go_wp2
    go_ret
    exact ⟨rfl, rfl⟩
  · have e : isB bl i = false := by unfold isB; rw [decide_eq_false h1, Bool.false_and]
    rw [e]
    go_enter Tryz.func44, Tryz.ntmps44
    go_wp2
    go_ret
    exact ⟨rfl, rfl⟩

theorem above_any (w : World) (a b c e : Int) :
    Calls Tryz.prog 56 #[.agg #[.int .i64 a, .int .i64 b], .agg #[.int .i64 c, .int .i64 e]] w fun e' w' => e' = .returned (.bool (above a b c e)) ∧ Below w.heap.size w w' := by
  have HB := Lib.hid (((Below.refl w.heap.size w).alloc (Nat.le_refl _) (.cells #[.int .i64 a, .int .i64 b] 52)).alloc (by simp) (.cells #[.int .i64 c, .int .i64 e] 52))
  by_cases h1 : c < a
  · have e0 : above a b c e = true := by unfold above; rw [decide_eq_true (show a > c from h1), Bool.true_or]
    rw [e0]
    go_enter Tryz.func56, Tryz.ntmps56
    go_wp2
    go_ret
    exact ⟨rfl, HB.out⟩
  · by_cases h2 : a = c
    · subst h2
      have e0 : above a b a e = decide (e < b) := by unfold above; simp
      rw [e0]
      go_enter Tryz.func56, Tryz.ntmps56
      go_wp2
      go_ret
      exact ⟨rfl, HB.out⟩
    · have e0 : above a b c e = false := by unfold above; rw [decide_eq_false (show ¬ a > c from h1), decide_eq_false h2]; rfl
      have h3 : (a == c) = false := by rw [beq_eq_false_iff_ne]; exact h2
      rw [e0]
      go_enter Tryz.func56, Tryz.ntmps56
      go_wp2
      go_ret
      exact ⟨rfl, HB.out⟩

/-- a table as a value -/
def t4V (x : T4) : Value := .agg #[.int .i64 x.a, .int .i64 x.b, .int .i64 x.c, .int .i64 x.d]
/-- four numbers in a block -/
structure N4 (w : World) (g o : Nat) (x : T4) : Prop where
  c0 : w.cell? ⟨g, o, none⟩ = some (.int .i64 x.a)
  c1 : w.cell? ⟨g, o + 1, none⟩ = some (.int .i64 x.b)
  c2 : w.cell? ⟨g, o + 2, none⟩ = some (.int .i64 x.c)
  c3 : w.cell? ⟨g, o + 3, none⟩ = some (.int .i64 x.d)
  fz : ∀ o, w.frozen? ⟨g, o, none⟩ = false
theorem n4_new (w : World) (x : T4) (t : TypeId) : N4 (w.alloc (.cells #[.int .i64 x.a, .int .i64 x.b, .int .i64 x.c, .int .i64 x.d] t)) w.heap.size 0 x where
  c0 := by rw [World.cell?_alloc_mark]; rfl
  c1 := by rw [World.cell?_alloc_mark]; rfl
  c2 := by rw [World.cell?_alloc_mark]; rfl
  c3 := by rw [World.cell?_alloc_mark]; rfl
  fz := fun o => World.frozen?_alloc_at _ _ _ _ rfl
theorem N4.lt {w : World} {g o : Nat} {x : T4} (h : N4 w g o x) : g < w.heap.size := World.block_lt_of_cell? w _ h.c0
theorem N4.of_block {w w' : World} {g o : Nat} {x : T4} (h : N4 w g o x) (hb : w'.heap[g]? = w.heap[g]?) : N4 w' g o x where
  c0 := by rw [World.cell?_of_block (w := w) (a := ⟨g, o, none⟩) hb]; exact h.c0
  c1 := by rw [World.cell?_of_block (w := w) (a := ⟨g, o + 1, none⟩) hb]; exact h.c1
  c2 := by rw [World.cell?_of_block (w := w) (a := ⟨g, o + 2, none⟩) hb]; exact h.c2
  c3 := by rw [World.cell?_of_block (w := w) (a := ⟨g, o + 3, none⟩) hb]; exact h.c3
  fz := fun o => by rw [World.frozen?_of_block (w := w) (a := ⟨g, o, none⟩) hb]; exact h.fz o
theorem N4.below {w w' : World} {g o B : Nat} {x : T4} (h : N4 w g o x) (hb : Below B w w') (hB : g < B) : N4 w' g o x := h.of_block (hb.block _ hB)

theorem N4.other {w : World} {g o : Nat} {x : T4} (h : N4 w g o x) {p : Addr} (hp : p.block ≠ g) (v : Value) : N4 (w.setCell p v) g o x := h.of_block (by
  have := (But.refl [p.block] w).set v (p := p) (.inl (by simp))
  exact this.block g h.lt (by simp; omega))
theorem N4.set0 {w : World} {g o : Nat} {x : T4} (h : N4 w g o x) (v : Int) : N4 (w.setCell ⟨g, o, none⟩ (.int .i64 v)) g o ⟨v, x.b, x.c, x.d⟩ where
  c0 := World.cell?_setCell_same _ _ _ h.c0
  c1 := by rw [World.cell?_setCell_other _ _ _ _ (by simp)]; exact h.c1
  c2 := by rw [World.cell?_setCell_other _ _ _ _ (by simp)]; exact h.c2
  c3 := by rw [World.cell?_setCell_other _ _ _ _ (by simp)]; exact h.c3
  fz := fun o => by rw [World.frozen?_setCell]; exact h.fz o
theorem N4.set1 {w : World} {g o : Nat} {x : T4} (h : N4 w g o x) (v : Int) : N4 (w.setCell ⟨g, o + 1, none⟩ (.int .i64 v)) g o ⟨x.a, v, x.c, x.d⟩ where
  c0 := by rw [World.cell?_setCell_other _ _ _ _ (by simp)]; exact h.c0
  c1 := World.cell?_setCell_same _ _ _ h.c1
  c2 := by rw [World.cell?_setCell_other _ _ _ _ (by simp)]; exact h.c2
  c3 := by rw [World.cell?_setCell_other _ _ _ _ (by simp)]; exact h.c3
  fz := fun o => by rw [World.frozen?_setCell]; exact h.fz o
theorem N4.set2 {w : World} {g o : Nat} {x : T4} (h : N4 w g o x) (v : Int) : N4 (w.setCell ⟨g, o + 2, none⟩ (.int .i64 v)) g o ⟨x.a, x.b, v, x.d⟩ where
  c0 := by rw [World.cell?_setCell_other _ _ _ _ (by simp)]; exact h.c0
  c1 := by rw [World.cell?_setCell_other _ _ _ _ (by simp)]; exact h.c1
  c2 := World.cell?_setCell_same _ _ _ h.c2
  c3 := by rw [World.cell?_setCell_other _ _ _ _ (by simp)]; exact h.c3
  fz := fun o => by rw [World.frozen?_setCell]; exact h.fz o
theorem N4.set3 {w : World} {g o : Nat} {x : T4} (h : N4 w g o x) (v : Int) : N4 (w.setCell ⟨g, o + 3, none⟩ (.int .i64 v)) g o ⟨x.a, x.b, x.c, v⟩ where
  c0 := by rw [World.cell?_setCell_other _ _ _ _ (by simp)]; exact h.c0
  c1 := by rw [World.cell?_setCell_other _ _ _ _ (by simp)]; exact h.c1
  c2 := by rw [World.cell?_setCell_other _ _ _ _ (by simp)]; exact h.c2
  c3 := World.cell?_setCell_same _ _ _ h.c3
  fz := fun o => by rw [World.frozen?_setCell]; exact h.fz o

theorem with_start (w : World) (x y z : T4) (t : TypeId) :
    N4 (((w.alloc (.cells #[.int .i64 x.a, .int .i64 x.b, .int .i64 x.c, .int .i64 x.d] t)).alloc (.cells #[.int .i64 y.a, .int .i64 y.b, .int .i64 y.c, .int .i64 y.d] t)).alloc (.cells #[.int .i64 z.a, .int .i64 z.b, .int .i64 z.c, .int .i64 z.d] t)) w.heap.size 0 x ∧
    N4 (((w.alloc (.cells #[.int .i64 x.a, .int .i64 x.b, .int .i64 x.c, .int .i64 x.d] t)).alloc (.cells #[.int .i64 y.a, .int .i64 y.b, .int .i64 y.c, .int .i64 y.d] t)).alloc (.cells #[.int .i64 z.a, .int .i64 z.b, .int .i64 z.c, .int .i64 z.d] t)) (w.heap.size + 1 + 1) 0 z ∧
    Below w.heap.size w (((w.alloc (.cells #[.int .i64 x.a, .int .i64 x.b, .int .i64 x.c, .int .i64 x.d] t)).alloc (.cells #[.int .i64 y.a, .int .i64 y.b, .int .i64 y.c, .int .i64 y.d] t)).alloc (.cells #[.int .i64 z.a, .int .i64 z.b, .int .i64 z.c, .int .i64 z.d] t)) := by
  refine ⟨((n4_new w x t).below ((Below.refl (w.heap.size + 1) _).alloc (by simp) _) (by omega)).below ((Below.refl (w.heap.size + 1) _).alloc (by simp) _) (by omega), ?_, (((Below.refl _ _).alloc (Nat.le_refl _) _).alloc (by simp) _).alloc (by simp; omega) _⟩
  have := n4_new ((w.alloc (.cells #[.int .i64 x.a, .int .i64 x.b, .int .i64 x.c, .int .i64 x.d] t)).alloc (.cells #[.int .i64 y.a, .int .i64 y.b, .int .i64 y.c, .int .i64 y.d] t)) z t
  rw [show ((w.alloc (.cells #[.int .i64 x.a, .int .i64 x.b, .int .i64 x.c, .int .i64 x.d] t)).alloc (.cells #[.int .i64 y.a, .int .i64 y.b, .int .i64 y.c, .int .i64 y.d] t)).heap.size = w.heap.size + 1 + 1 by simp] at this
  exact this

set_option maxHeartbeats 2000000 in
theorem with_any (w : World) (x y : T4) :
    Calls Tryz.prog 48 #[t4V x, t4V y] w fun e w' => e = .returned (t4V (x.up y)) ∧ Below w.heap.size w w' := by
  have HS := Lib.hid (with_start w x y T4.zero 92)
  obtain ⟨a, b, c, d⟩ := x
  obtain ⟨p, q, r, s⟩ := y
  simp only [t4V, T4.up, T4.zero] at HS ⊢
  have ix0 : ∀ w, (Instr.index 92 (.agg #[.int .i64 p, .int .i64 q, .int .i64 r, .int .i64 s]) (.int .i64 0)).run Tryz.prog w = .ok (.int .i64 p) w := fun _ => by kernel_rfl
  have ix1 : ∀ w, (Instr.index 92 (.agg #[.int .i64 p, .int .i64 q, .int .i64 r, .int .i64 s]) (.int .i64 1)).run Tryz.prog w = .ok (.int .i64 q) w := fun _ => by kernel_rfl
  have ix2 : ∀ w, (Instr.index 92 (.agg #[.int .i64 p, .int .i64 q, .int .i64 r, .int .i64 s]) (.int .i64 2)).run Tryz.prog w = .ok (.int .i64 r) w := fun _ => by kernel_rfl
  have ix3 : ∀ w, (Instr.index 92 (.agg #[.int .i64 p, .int .i64 q, .int .i64 r, .int .i64 s]) (.int .i64 3)).run Tryz.prog w = .ok (.int .i64 s) w := fun _ => by kernel_rfl
  go_enter Tryz.func48, Tryz.ntmps48
  go_wp2
  go_loopw [8] (fun i wr => ∃ X : T4, N4 wr w.heap.size 0 X ∧ N4 wr (w.heap.size + 1 + 1) 0 ⟨0, 0, 0, 0⟩ ∧ Below w.heap.size w wr ∧ ((i = .int .i64 0 ∧ X = ⟨a, b, c, d⟩) ∨ (i = .int .i64 1 ∧ X = ⟨max a p, b, c, d⟩) ∨ (i = .int .i64 2 ∧ X = ⟨max a p, max b q, c, d⟩) ∨ (i = .int .i64 3 ∧ X = ⟨max a p, max b q, max c r, d⟩) ∨ (i = .int .i64 4 ∧ X = ⟨max a p, max b q, max c r, max d s⟩))) (fun i _ => 4 - (intOf i).toNat)
  case atStart => exact ⟨_, HS.out.1, HS.out.2.1, HS.out.2.2, .inl ⟨rfl, rfl⟩⟩
  case round =>
    obtain ⟨X, hx, hz, hb, hi⟩ := hrel
    have HX := Lib.hid hx
    have HZ := Lib.hid hz
    have HB := Lib.hid hb
    obtain ⟨k0, k1, k2, k3, kf⟩ := hx
    obtain ⟨z0, z1, z2, z3, zf⟩ := hz
    have kf0 := kf 0
    have kf1 := kf 1
    have kf2 := kf 2
    have kf3 := kf 3
    have zf0 := zf 0
    have zf1 := zf 1
    have zf2 := zf 2
    have zf3 := zf 3
    clear hb HS
    simp only [Nat.zero_add] at k0 k1 k2 k3 z0 z1 z2 z3
    rcases hi with ⟨rfl, rfl⟩ | ⟨rfl, rfl⟩ | ⟨rfl, rfl⟩ | ⟨rfl, rfl⟩ | ⟨rfl, rfl⟩
    case inr.inr.inr.inr =>
      go_wp2
      refine bodyPost_ret (v := .agg #[.int .i64 (max a p), .int .i64 (max b q), .int .i64 (max c r), .int .i64 (max d s)]) (by simp [results, Tryz.results48, go_sem, z0, z1, z2, z3]) rfl ⟨rfl, ?_⟩
      exact (((HB.out.setCell (by simp; omega) _).setCell (by simp; omega) _).setCell (by simp; omega) _).setCell (by simp; omega) _
    all_goals
      go_wp2
      go_roundw
      case measure => simp [intOf]
      case rel =>
        first
          | exact ⟨⟨max a p, b, c, d⟩, HX.out.set0 _, HZ.out.other (by simp; try omega) _, HB.out.setCell (by simp) _, .inr (.inl ⟨rfl, rfl⟩)⟩
          | exact ⟨⟨max a p, max b q, c, d⟩, HX.out.set1 _, HZ.out.other (by simp; try omega) _, HB.out.setCell (by simp) _, .inr (.inr (.inl ⟨rfl, rfl⟩))⟩
          | exact ⟨⟨max a p, max b q, max c r, d⟩, HX.out.set2 _, HZ.out.other (by simp; try omega) _, HB.out.setCell (by simp) _, .inr (.inr (.inr (.inl ⟨rfl, rfl⟩)))⟩
          | exact ⟨⟨max a p, max b q, max c r, max d s⟩, HX.out.set3 _, HZ.out.other (by simp; try omega) _, HB.out.setCell (by simp) _, .inr (.inr (.inr (.inr ⟨rfl, rfl⟩)))⟩

/-- a table behind a message -/
def beh (x : T4) (m : Mg) : T4 := (x.up (Mg.t4 m)).bump m.client m.n

theorem beh_start (w : World) (x z : T4) (m : Mg) {w1 : World} (hb : Below (((w.alloc (.cells #[.int .i64 x.a, .int .i64 x.b, .int .i64 x.c, .int .i64 x.d] 92)).alloc (.cells m.cells 37)).alloc (.cells #[.int .i64 z.a, .int .i64 z.b, .int .i64 z.c, .int .i64 z.d] 92)).heap.size (((w.alloc (.cells #[.int .i64 x.a, .int .i64 x.b, .int .i64 x.c, .int .i64 x.d] 92)).alloc (.cells m.cells 37)).alloc (.cells #[.int .i64 z.a, .int .i64 z.b, .int .i64 z.c, .int .i64 z.d] 92)) w1) :
    N4 w1 w.heap.size 0 x ∧ Ml.MB w1 (w.heap.size + 1) m ∧ N4 w1 (w.heap.size + 1 + 1) 0 z ∧ Below w.heap.size w w1 := by
  have hsz : (((w.alloc (.cells #[.int .i64 x.a, .int .i64 x.b, .int .i64 x.c, .int .i64 x.d] 92)).alloc (.cells m.cells 37)).alloc (.cells #[.int .i64 z.a, .int .i64 z.b, .int .i64 z.c, .int .i64 z.d] 92)).heap.size = w.heap.size + 1 + 1 + 1 := by simp
  rw [hsz] at hb
  have hX := (((n4_new w x 92).below ((Below.refl (w.heap.size + 1) _).alloc (by simp) (.cells m.cells 37)) (by omega)).below ((Below.refl (w.heap.size + 1) _).alloc (by simp) (.cells #[.int .i64 z.a, .int .i64 z.b, .int .i64 z.c, .int .i64 z.d] 92)) (by omega)).below hb (by omega)
  have hM0 := Ml.MB.new (w.alloc (.cells #[.int .i64 x.a, .int .i64 x.b, .int .i64 x.c, .int .i64 x.d] 92)) m
  rw [show (w.alloc (.cells #[.int .i64 x.a, .int .i64 x.b, .int .i64 x.c, .int .i64 x.d] 92)).heap.size = w.heap.size + 1 by simp] at hM0
  have hM := (hM0.below ((Below.refl (w.heap.size + 2) _).alloc (by simp) (.cells #[.int .i64 z.a, .int .i64 z.b, .int .i64 z.c, .int .i64 z.d] 92)) (by omega)).below hb (by omega)
  have hZ0 := n4_new ((w.alloc (.cells #[.int .i64 x.a, .int .i64 x.b, .int .i64 x.c, .int .i64 x.d] 92)).alloc (.cells m.cells 37)) z 92
  rw [show ((w.alloc (.cells #[.int .i64 x.a, .int .i64 x.b, .int .i64 x.c, .int .i64 x.d] 92)).alloc (.cells m.cells 37)).heap.size = w.heap.size + 1 + 1 by simp] at hZ0
  exact ⟨hX, hM, hZ0.below hb (by omega), ((((Below.refl _ _).alloc (Nat.le_refl _) _).alloc (by simp) _).alloc (by simp; omega) _).trans (hb.mono (by omega))⟩

end Go.Proofs.YtofhijnfbilieaaGreat.Bk
namespace Go.Proofs.YtofhijnfbilieaaGreat.Bk
open Go.RowKit
open Ml (Mg may msgV)
open C (RecAt RecOwn zeroRec)
set_option linter.unusedVariables false
set_option linter.unusedSimpArgs false
set_option maxRecDepth 20000

theorem token_any (w : World) {tB bl a b dB : Nat} {K : Nat → Nat} {c : M.Cl} (h : StAt w tB bl K) (hc : CellAt w (K 0) dB a b c) (ht : c.text.size ≤ 100) :
    Calls Tryz.prog 21 #[.pointer (some ⟨tB, 0, none⟩)] w fun e w' => e = .returned (.int .i64 (tok c.text)) ∧ Below w.heap.size w w' := by
  have HG := Lib.hid (get_any w hc)
  have q := h.q0
  clear h hc
  generalize c.text = s at *
  cases hr : recOf s 31 1 0 with
  | none =>
    have e : tok s = 0 := by unfold tok; rw [hr]; rfl
    have HR := Lib.hid (brec_no w s (by omega) 31 1 0 (by decide) hr)
    rw [e]
    simp only [zeroRec] at HR
    clear e hr ht
    go_enter Tryz.func21, Tryz.ntmps21
    go_wp2_with (first
      | (go_at_call 47; with_reducible refine HG.out.mono ?_; rintro e w1 ⟨rfl, rfl⟩)
      | (go_at_call 46; refine HR.out.mono ?_; rintro e w1 ⟨rfl, hb1⟩
         have HB := Lib.hid (hb1.alloc hb1.size (.cells #[.int .i64 0, .slice none 0 0, .slice none 0 0] 99))
         clear hb1))
    go_ret
    exact ⟨rfl, HB.out⟩
  | some r =>
    obtain ⟨_, h2, h3, h4⟩ := (recOk_iff _ _ _ _).1 (recOf_some hr).2
    obtain ⟨x, hx⟩ : ∃ x, r.nums = [x] := by
      match hn : r.nums, h2 with
      | [x], _ => exact ⟨x, rfl⟩
    have e : tok s = x := by unfold tok; rw [hr]; simp [tokR, hx]
    have HR := Lib.hid (brec_yes w s (by omega) 31 1 0 r hr)
    have HX : Hid (∀ w' B aN cN aT cT, RecOwn w' B r aN 1 cN aT 0 cT → ∃ b off, aN = some ⟨b, off, none⟩ ∧ b < w'.heap.size ∧ w'.cell? ⟨b, off, none⟩ = some (.int .i64 x)) := Lib.hid fun w' B aN cN aT cT h => by
      obtain ⟨b, off, t, h1, h2, h3, h4⟩ := C.row_i64 h.at.1 0 (by omega)
      rw [hx] at h3
      simp at h3
      subst h3
      exact ⟨b, off, h1, h2, h4⟩
    rw [e]
    clear e hr ht h2 h3 h4 hx
    go_enter Tryz.func21, Tryz.ntmps21
    go_wp2_with (first
      | (go_at_call 47; with_reducible refine HG.out.mono ?_; rintro e w1 ⟨rfl, rfl⟩)
      | (go_at_call 46; refine HR.out.mono ?_; rintro e w1 ⟨aN, cN, aT, cT, rfl, hr1, hb1⟩
         obtain ⟨b, off, rfl, hlt, hcell⟩ := HX.out _ _ _ _ _ _ hr1
         have HB := Lib.hid (hb1.alloc hb1.size (.cells #[.int .i64 31, .slice (some ⟨b, off, none⟩) 1 cN, .slice aT 0 cT] 99))
         have hcell2 : (w1.alloc (.cells #[.int .i64 31, .slice (some ⟨b, off, none⟩) 1 cN, .slice aT 0 cT] 99)).cell? ⟨b, off, none⟩ = some (.int .i64 x) := by
           rw [((Below.refl w1.heap.size w1).alloc (Nat.le_refl _) _).cell (p := ⟨b, off, none⟩) hlt]; exact hcell
         clear hb1 hr1))
    go_ret
    exact ⟨rfl, HB.out⟩
end Go.Proofs.YtofhijnfbilieaaGreat.Bk
namespace Go.Proofs.YtofhijnfbilieaaGreat.Bk
open Go.RowKit
open Ml (Mg may msgV)
open C (RecAt RecOwn zeroRec)
set_option linter.unusedVariables false
set_option linter.unusedSimpArgs false
set_option maxRecDepth 20000

/-- a block of memory with these cells -/
def Bo (w : World) (g : Nat) (cs : Array Value) (t : TypeId) : Prop := w.heap[g]? = some (.cells cs t (0, 0))
theorem Bo.lt {w : World} {g : Nat} {cs : Array Value} {t : TypeId} (h : Bo w g cs t) : g < w.heap.size := Ml.lt_of_heap h
theorem Bo.new (w : World) (cs : Array Value) (t : TypeId) : Bo (w.alloc (.cells cs t)) w.heap.size cs t := heap_alloc_new w _
theorem Bo.new2 (w : World) (cs cs' : Array Value) (t t' : TypeId) : Bo ((w.alloc (.cells cs t)).alloc (.cells cs' t')) (w.heap.size + 1) cs' t' := by
  have := Bo.new (w.alloc (.cells cs t)) cs' t'
  rwa [show (w.alloc (.cells cs t)).heap.size = w.heap.size + 1 by simp] at this
theorem Bo.below {w w' : World} {g : Nat} {cs : Array Value} {t : TypeId} (h : Bo w g cs t) {B : Nat} (hb : Below B w w') (hB : g < B) : Bo w' g cs t := by
  unfold Bo; rw [hb.block g hB]; exact h
theorem Bo.but {w w' : World} {g : Nat} {cs : Array Value} {t : TypeId} (h : Bo w g cs t) {l : List Nat} (hb : But l w w') (hn : g ∉ l) : Bo w' g cs t := by
  unfold Bo; rw [hb.block g h.lt hn]; exact h
theorem Bo.other {w : World} {g : Nat} {cs : Array Value} {t : TypeId} (h : Bo w g cs t) {p : Addr} (hp : p.block ≠ g) (v : Value) : Bo (w.setCell p v) g cs t :=
  h.but ((But.refl [p.block] w).set v (p := p) (.inl (by simp))) (by simp; omega)
theorem Bo.cell {w : World} {g : Nat} {cs : Array Value} {t : TypeId} (h : Bo w g cs t) (o : Nat) : w.cell? ⟨g, o, none⟩ = cs[o]? := by unfold Bo at h; simp [World.cell?, h]
theorem Bo.fz {w : World} {g : Nat} {cs : Array Value} {t : TypeId} (h : Bo w g cs t) (o : Nat) : w.frozen? ⟨g, o, none⟩ = false := by unfold Bo at h; simp [World.frozen?, h]

/-- what is stored, as a value -/
def sdV (s : Sd) : Value := .agg #[.int .i64 s.ep, .int .i64 s.sq, .string s.data, .int .i64 s.t.a, .int .i64 s.t.b, .int .i64 s.t.c, .int .i64 s.t.d]

theorem st_box {w : World} {k : Nat} {w1 : World} (hb : Below ((w.alloc (.cells #[.pointer (some ⟨k, 0, none⟩)] 76)).alloc (.cells #[.int .i64 0, .int .i64 0, .string ⟨#[]⟩, .int .i64 0, .int .i64 0, .int .i64 0, .int .i64 0] 115)).heap.size
    ((w.alloc (.cells #[.pointer (some ⟨k, 0, none⟩)] 76)).alloc (.cells #[.int .i64 0, .int .i64 0, .string ⟨#[]⟩, .int .i64 0, .int .i64 0, .int .i64 0, .int .i64 0] 115)) w1) :
    Bo w1 (w.heap.size + 1) #[.int .i64 0, .int .i64 0, .string ⟨#[]⟩, .int .i64 0, .int .i64 0, .int .i64 0, .int .i64 0] 115 ∧ Below w.heap.size w w1 ∧ w.heap.size + 2 ≤ w1.heap.size := by
  have hs := hb.size
  rw [show ((w.alloc (.cells #[.pointer (some ⟨k, 0, none⟩)] 76)).alloc (.cells #[.int .i64 0, .int .i64 0, .string ⟨#[]⟩, .int .i64 0, .int .i64 0, .int .i64 0, .int .i64 0] 115)).heap.size = w.heap.size + 2 by simp] at hb hs
  exact ⟨(Bo.new2 w _ _ _ _).below hb (by omega), (((Below.refl _ _).alloc (Nat.le_refl _) _).alloc (by simp) _).trans (hb.mono (by omega)), hs⟩

def z8 : Array Value := #[.int .u8 0, .int .u8 0, .int .u8 0, .int .u8 0, .int .u8 0, .int .u8 0, .int .u8 0, .int .u8 0]
theorem make8 (w : World) : (Instr.makeSlice 50 (.int .i64 8) (.int .i64 8)).run Tryz.prog w = .ok (.slice (some ⟨w.heap.size, 0, none⟩) 8 8) (w.alloc (.cells #[.int .u8 0, .int .u8 0, .int .u8 0, .int .u8 0, .int .u8 0, .int .u8 0, .int .u8 0, .int .u8 0] 5)) := by
  obtain ⟨i0, hi0, hz0, hz1, hz2⟩ := info_parts u8_info
  have hm := run_makeSlice (P := Tryz.prog) w 50 5 i0 _ Tryz.underlying50 hi0 hz0 .i64 .i64 8 8 (by omega) (by omega) (by rw [hz1]; decide) (by rw [hz2]; decide) (by omega)
  rw [hm, hz1]
  have e : madeCells (Value.int .u8 0).cells (Int.toNat 8 * 1) = #[.int .u8 0, .int .u8 0, .int .u8 0, .int .u8 0, .int .u8 0, .int .u8 0, .int .u8 0, .int .u8 0] := by
    apply Array.ext_getElem?
    intro j
    by_cases hj : j < 8
    · rcases (by omega : j = 0 ∨ j = 1 ∨ j = 2 ∨ j = 3 ∨ j = 4 ∨ j = 5 ∨ j = 6 ∨ j = 7) with rfl | rfl | rfl | rfl | rfl | rfl | rfl | rfl <;> simp [madeCells, Value.cells]
    · rw [Array.getElem?_eq_none (by rw [size_madeCells]; simpa using hj), Array.getElem?_eq_none (by simpa using hj)]
  rw [e]
  rfl
theorem conv8 (w : World) : (convert 50 9 (.slice (some ⟨w.heap.size, 0, none⟩) 8 8)).run Tryz.prog (w.alloc (.cells #[.int .u8 0, .int .u8 0, .int .u8 0, .int .u8 0, .int .u8 0, .int .u8 0, .int .u8 0, .int .u8 0] 5)) = .ok (.string zero8) (w.alloc (.cells #[.int .u8 0, .int .u8 0, .int .u8 0, .int .u8 0, .int .u8 0, .int .u8 0, .int .u8 0, .int .u8 0] 5)) :=
  conv_row (row_lit w [0, 0, 0, 0, 0, 0, 0, 0] (0, 0) (by simp))

theorem below7 {B g : Nat} {w0 w : World} (h : Below B w0 w) (hg : B ≤ g) (v0 v1 v2 v3 v4 v5 v6 : Value) : Below B w0 (((((((w.setCell ⟨g, 0, none⟩ v0).setCell ⟨g, 1, none⟩ v1).setCell ⟨g, 2, none⟩ v2).setCell ⟨g, 3, none⟩ v3).setCell ⟨g, 4, none⟩ v4).setCell ⟨g, 5, none⟩ v5).setCell ⟨g, 6, none⟩ v6) :=
  ((((((h.setCell hg _).setCell hg _).setCell hg _).setCell hg _).setCell hg _).setCell hg _).setCell hg _

set_option maxHeartbeats 2000000 in
theorem stored_none (w : World) {a b dB k : Nat} {c : M.Cl} (hc : CellAt w k dB a b c) (ht : c.text.size ≤ 100) (hr : recOf c.text 30 6 1 = none) :
    Calls Tryz.prog 45 #[.agg #[.pointer (some ⟨k, 0, none⟩)]] w fun e w' => e = .returned (sdV Sd.zero) ∧ Below w.heap.size w w' := by
  have hlt := hc.lt
  have HG := Lib.hid (get_any _ (hc.below (((Below.refl w.heap.size w).alloc (Nat.le_refl _) (.cells #[.pointer (some ⟨k, 0, none⟩)] 76)).alloc (by simp) (.cells #[.int .i64 0, .int .i64 0, .string ⟨#[]⟩, .int .i64 0, .int .i64 0, .int .i64 0, .int .i64 0] 115)) hlt))
  clear hc
  generalize c.text = s at *
  have HR := Lib.hid (brec_no ((w.alloc (.cells #[.pointer (some ⟨k, 0, none⟩)] 76)).alloc (.cells #[.int .i64 0, .int .i64 0, .string ⟨#[]⟩, .int .i64 0, .int .i64 0, .int .i64 0, .int .i64 0] 115)) s (by omega) 30 6 1 (by decide) hr)
  simp only [zeroRec] at HR
  clear hr ht
  have mk8 := make8
  go_enter Tryz.func45, Tryz.ntmps45
  go_wp2_with (first
      | (go_at_call 47; with_reducible refine HG.out.mono ?_; rintro e w1 ⟨rfl, rfl⟩)
      | (go_at_call 46; refine HR.out.mono ?_; rintro e w1 ⟨rfl, hb1⟩
         obtain ⟨hbo, hbb, hsz⟩ := st_box hb1
         have hbo2 := (hbo.below ((Below.refl w1.heap.size w1).alloc (Nat.le_refl _) (.cells #[.int .i64 0, .slice none 0 0, .slice none 0 0] 99)) (by omega)).below ((Below.refl w1.heap.size (w1.alloc (.cells #[.int .i64 0, .slice none 0 0, .slice none 0 0] 99))).alloc (by simp) (.cells #[.int .u8 0, .int .u8 0, .int .u8 0, .int .u8 0, .int .u8 0, .int .u8 0, .int .u8 0, .int .u8 0] 5)) (by omega)
         have cv8 := conv8 (w1.alloc (.cells #[.int .i64 0, .slice none 0 0, .slice none 0 0] 99))
         rw [show (w1.alloc (.cells #[.int .i64 0, .slice none 0 0, .slice none 0 0] 99)).heap.size = w1.heap.size + 1 by simp] at cv8
         have HB := Lib.hid ((hbb.alloc hbb.size (.cells #[.int .i64 0, .slice none 0 0, .slice none 0 0] 99)).alloc (by simp; omega) (.cells #[.int .u8 0, .int .u8 0, .int .u8 0, .int .u8 0, .int .u8 0, .int .u8 0, .int .u8 0, .int .u8 0] 5))
         have z0 := hbo2.cell 0
         have z1 := hbo2.cell 1
         have z2 := hbo2.cell 2
         have z3 := hbo2.cell 3
         have z4 := hbo2.cell 4
         have z5 := hbo2.cell 5
         have z6 := hbo2.cell 6
         have zf := hbo2.fz
         clear hb1 hbo hbo2 hbb))
  refine bodyPost_ret (v := sdV Sd.zero) (by simp [results, Tryz.results45, go_sem, sdV, Sd.zero, T4.zero, z0, z1, z2, z3, z4, z5, z6]) rfl ⟨rfl, ?_⟩
  exact below7 HB.out (by omega) _ _ _ _ _ _ _

/-- the first text of a record that was read -/
theorem rec_text {r : C.M.Rc} {s : ByteArray} (hs : r.texts = [s]) {w : World} {B : Nat} {aN : Option Addr} {nN cN : Nat} {aT : Option Addr} {cT : Nat} (h : RecOwn w B r aN nN cN aT 1 cT) : ∃ b, aT = some ⟨b, 0, none⟩ ∧ b < w.heap.size ∧ w.cell? ⟨b, 0, none⟩ = some (.string s) := by
  obtain ⟨b, off, t, h1, h2, h3, h4⟩ := C.row_str h.at.2 0 (by omega)
  obtain rfl : off = 0 := ((C.own_row h.texts).2 b off h1).2
  rw [hs] at h3
  simp at h3
  subst h3
  exact ⟨b, h1, h2, h4⟩
theorem rec_nums {r : C.M.Rc} {x0 x1 x2 x3 x4 x5 : Int} (hs : r.nums = [x0, x1, x2, x3, x4, x5]) {w : World} {B : Nat} {aN : Option Addr} {cN : Nat} {aT : Option Addr} {nT cT : Nat} (h : RecOwn w B r aN 6 cN aT nT cT) :
    ∃ b, aN = some ⟨b, 0, none⟩ ∧ b < w.heap.size ∧ 6 ≤ cN ∧ cN ≤ maxLen ∧ w.cell? ⟨b, 0, none⟩ = some (.int .i64 x0) ∧ w.cell? ⟨b, 1, none⟩ = some (.int .i64 x1) ∧ w.cell? ⟨b, 2, none⟩ = some (.int .i64 x2) ∧ w.cell? ⟨b, 3, none⟩ = some (.int .i64 x3) ∧ w.cell? ⟨b, 4, none⟩ = some (.int .i64 x4) ∧ w.cell? ⟨b, 5, none⟩ = some (.int .i64 x5) := by
  obtain ⟨hr, ho⟩ := C.own_row h.nums
  obtain ⟨h1, h2, h3, h4⟩ := hr
  rw [hs] at h4
  rcases h4 with h4 | ⟨b, off, ha, hb, hc⟩
  · simp [C.i64s] at h4
  · obtain rfl : off = 0 := (ho b off ha).2
    simp only [Nat.zero_add] at hc
    exact ⟨b, ha, hb, h2, h3, hc 0 (by omega), hc 1 (by omega), hc 2 (by omega), hc 3 (by omega), hc 4 (by omega), hc 5 (by omega)⟩

set_option maxHeartbeats 2000000 in
theorem stored_bad (w : World) {a b dB k : Nat} {c : M.Cl} (hc : CellAt w k dB a b c) (ht : c.text.size ≤ 100) {r : C.M.Rc} (hr : recOf c.text 30 6 1 = some r) {x : ByteArray} (hx : r.texts = [x]) (h8 : x.size ≠ 8) :
    Calls Tryz.prog 45 #[.agg #[.pointer (some ⟨k, 0, none⟩)]] w fun e w' => e = .returned (sdV Sd.zero) ∧ Below w.heap.size w w' := by
  have hlt := hc.lt
  have HG := Lib.hid (get_any _ (hc.below (((Below.refl w.heap.size w).alloc (Nat.le_refl _) (.cells #[.pointer (some ⟨k, 0, none⟩)] 76)).alloc (by simp) (.cells #[.int .i64 0, .int .i64 0, .string ⟨#[]⟩, .int .i64 0, .int .i64 0, .int .i64 0, .int .i64 0] 115)) hlt))
  clear hc
  generalize c.text = s at *
  have HR := Lib.hid (brec_yes ((w.alloc (.cells #[.pointer (some ⟨k, 0, none⟩)] 76)).alloc (.cells #[.int .i64 0, .int .i64 0, .string ⟨#[]⟩, .int .i64 0, .int .i64 0, .int .i64 0, .int .i64 0] 115)) s (by omega) 30 6 1 r hr)
  have HX : Hid (∀ (w : World) (B : Nat) (aN : Option Addr) (nN cN : Nat) (aT : Option Addr) (cT : Nat), RecOwn w B r aN nN cN aT 1 cT → ∃ b, aT = some ⟨b, 0, none⟩ ∧ b < w.heap.size ∧ w.cell? ⟨b, 0, none⟩ = some (.string x)) := Lib.hid fun w B aN nN cN aT cT h => rec_text hx h
  have h8' : ((x.size : Int) != 8) = true := by rw [bne_iff_ne]; omega
  clear hr ht hx h8
  have mk8 := make8
  go_enter Tryz.func45, Tryz.ntmps45
  go_wp2_with (first
      | (go_at_call 47; with_reducible refine HG.out.mono ?_; rintro e w1 ⟨rfl, rfl⟩)
      | (go_at_call 46; refine HR.out.mono ?_; rintro e w1 ⟨aN, cN, aT, cT, rfl, hr1, hb1⟩
         obtain ⟨hbo, hbb, hsz⟩ := st_box hb1
         obtain ⟨bT, rfl, hbT, hcT⟩ := HX.out _ _ _ _ _ _ _ hr1
         have hcT2 : (w1.alloc (.cells #[.int .i64 30, .slice aN 6 cN, .slice (some ⟨bT, 0, none⟩) 1 cT] 99)).cell? ⟨bT, 0, none⟩ = some (.string x) := by
           rw [((Below.refl w1.heap.size w1).alloc (Nat.le_refl _) _).cell (p := ⟨bT, 0, none⟩) hbT]; exact hcT
         have hbo2 := (hbo.below ((Below.refl w1.heap.size w1).alloc (Nat.le_refl _) (.cells #[.int .i64 30, .slice aN 6 cN, .slice (some ⟨bT, 0, none⟩) 1 cT] 99)) (by omega)).below ((Below.refl w1.heap.size (w1.alloc (.cells #[.int .i64 30, .slice aN 6 cN, .slice (some ⟨bT, 0, none⟩) 1 cT] 99))).alloc (by simp) (.cells #[.int .u8 0, .int .u8 0, .int .u8 0, .int .u8 0, .int .u8 0, .int .u8 0, .int .u8 0, .int .u8 0] 5)) (by omega)
         have cv8 := conv8 (w1.alloc (.cells #[.int .i64 30, .slice aN 6 cN, .slice (some ⟨bT, 0, none⟩) 1 cT] 99))
         rw [show (w1.alloc (.cells #[.int .i64 30, .slice aN 6 cN, .slice (some ⟨bT, 0, none⟩) 1 cT] 99)).heap.size = w1.heap.size + 1 by simp] at cv8
         have HB := Lib.hid ((hbb.alloc hbb.size (.cells #[.int .i64 30, .slice aN 6 cN, .slice (some ⟨bT, 0, none⟩) 1 cT] 99)).alloc (by simp; omega) (.cells #[.int .u8 0, .int .u8 0, .int .u8 0, .int .u8 0, .int .u8 0, .int .u8 0, .int .u8 0, .int .u8 0] 5))
         have z0 := hbo2.cell 0
         have z1 := hbo2.cell 1
         have z2 := hbo2.cell 2
         have z3 := hbo2.cell 3
         have z4 := hbo2.cell 4
         have z5 := hbo2.cell 5
         have z6 := hbo2.cell 6
         have zf := hbo2.fz
         clear hb1 hbo hbo2 hbb hr1))
  refine bodyPost_ret (v := sdV Sd.zero) (by simp [results, Tryz.results45, go_sem, sdV, Sd.zero, T4.zero, z0, z1, z2, z3, z4, z5, z6]) rfl ⟨rfl, ?_⟩
  exact below7 HB.out (by omega) _ _ _ _ _ _ _

set_option maxHeartbeats 4000000 in
theorem stored_yes (w : World) {a b dB k : Nat} {c : M.Cl} (hc : CellAt w k dB a b c) (ht : c.text.size ≤ 100) {r : C.M.Rc} (hr : recOf c.text 30 6 1 = some r) {x : ByteArray} (hx : r.texts = [x]) (h8 : x.size = 8) {x0 x1 x2 x3 x4 x5 : Int} (hn : r.nums = [x0, x1, x2, x3, x4, x5]) :
    Calls Tryz.prog 45 #[.agg #[.pointer (some ⟨k, 0, none⟩)]] w fun e w' => e = .returned (sdV ⟨x0, x1, x, ⟨x2, x3, x4, x5⟩⟩) ∧ Below w.heap.size w w' := by
  have hlt := hc.lt
  have HG := Lib.hid (get_any _ (hc.below (((Below.refl w.heap.size w).alloc (Nat.le_refl _) (.cells #[.pointer (some ⟨k, 0, none⟩)] 76)).alloc (by simp) (.cells #[.int .i64 0, .int .i64 0, .string ⟨#[]⟩, .int .i64 0, .int .i64 0, .int .i64 0, .int .i64 0] 115)) hlt))
  clear hc
  generalize c.text = s at *
  have HR := Lib.hid (brec_yes ((w.alloc (.cells #[.pointer (some ⟨k, 0, none⟩)] 76)).alloc (.cells #[.int .i64 0, .int .i64 0, .string ⟨#[]⟩, .int .i64 0, .int .i64 0, .int .i64 0, .int .i64 0] 115)) s (by omega) 30 6 1 r hr)
  have HX : Hid (∀ (w : World) (B : Nat) (aN : Option Addr) (nN cN : Nat) (aT : Option Addr) (cT : Nat), RecOwn w B r aN nN cN aT 1 cT → ∃ b, aT = some ⟨b, 0, none⟩ ∧ b < w.heap.size ∧ w.cell? ⟨b, 0, none⟩ = some (.string x)) := Lib.hid fun w B aN nN cN aT cT h => rec_text hx h
  have HN : Hid (∀ (w : World) (B : Nat) (aN : Option Addr) (cN : Nat) (aT : Option Addr) (nT cT : Nat), RecOwn w B r aN 6 cN aT nT cT → ∃ b, aN = some ⟨b, 0, none⟩ ∧ b < w.heap.size ∧ 6 ≤ cN ∧ cN ≤ maxLen ∧ w.cell? ⟨b, 0, none⟩ = some (.int .i64 x0) ∧ w.cell? ⟨b, 1, none⟩ = some (.int .i64 x1) ∧ w.cell? ⟨b, 2, none⟩ = some (.int .i64 x2) ∧ w.cell? ⟨b, 3, none⟩ = some (.int .i64 x3) ∧ w.cell? ⟨b, 4, none⟩ = some (.int .i64 x4) ∧ w.cell? ⟨b, 5, none⟩ = some (.int .i64 x5)) := Lib.hid fun w B aN cN aT nT cT h => rec_nums hn h
  have h8' : ((x.size : Int) != 8) = false := by rw [bne_eq_false_iff_eq]; omega
  clear hr ht hx h8 hn
  go_enter Tryz.func45, Tryz.ntmps45
  go_upto_region 4 with (first
      | (go_at_call 47; with_reducible refine HG.out.mono ?_; rintro e w1 ⟨rfl, rfl⟩)
      | (go_at_call 46; refine HR.out.mono ?_; rintro e w1 ⟨aN, cN, aT, cT, rfl, hr1, hb1⟩
         obtain ⟨hbo, hbb, hsz⟩ := st_box hb1
         obtain ⟨bT, rfl, hbT, hcT⟩ := HX.out _ _ _ _ _ _ _ hr1
         obtain ⟨bN, rfl, hbN, hcap1, hcap2, n0, n1, n2, n3, n4, n5⟩ := HN.out _ _ _ _ _ _ _ hr1
         have HK := Lib.hid ((Below.refl w1.heap.size w1).alloc (Nat.le_refl _) (.cells #[.int .i64 30, .slice (some ⟨bN, 0, none⟩) 6 cN, .slice (some ⟨bT, 0, none⟩) 1 cT] 99))
         have HBo := Lib.hid (hbo.below HK.out (by omega))
         have HB := Lib.hid (hbb.alloc hbb.size (.cells #[.int .i64 30, .slice (some ⟨bN, 0, none⟩) 6 cN, .slice (some ⟨bT, 0, none⟩) 1 cT] 99))
         have HRb := Lib.hid (Bo.new w1 #[.int .i64 30, .slice (some ⟨bN, 0, none⟩) 6 cN, .slice (some ⟨bT, 0, none⟩) 1 cT] 99)
         have kT := (HK.out.cell (p := ⟨bT, 0, none⟩) hbT).trans hcT
         have k0 := (HK.out.cell (p := ⟨bN, 0, none⟩) hbN).trans n0
         have k1 := (HK.out.cell (p := ⟨bN, 1, none⟩) hbN).trans n1
         have k2 := (HK.out.cell (p := ⟨bN, 2, none⟩) hbN).trans n2
         have k3 := (HK.out.cell (p := ⟨bN, 3, none⟩) hbN).trans n3
         have k4 := (HK.out.cell (p := ⟨bN, 4, none⟩) hbN).trans n4
         have k5 := (HK.out.cell (p := ⟨bN, 5, none⟩) hbN).trans n5
         clear hb1 hbo hbb hr1 n0 n1 n2 n3 n4 n5 hcT HK))
  have hg := hsz
  clear HR HG HX HN
  generalize hW : w1.alloc (.cells #[.int .i64 30, .slice (some ⟨bN, 0, none⟩) 6 cN, .slice (some ⟨bT, 0, none⟩) 1 cT] 99) = W2 at *
  clear hW
  have r0 := HRb.out.cell 0
  have r1 := HRb.out.cell 1
  have r2 := HRb.out.cell 2
  simp only [maxLen] at hcap2
  have hne : ¬ cN = 2 := by omega
  have ar : ∀ w, (Instr.arrayAt 92 (.slice (some ⟨bN, 2, none⟩) 4 (cN - 2))).run Tryz.prog w = .ok (.pointer (some ⟨bN, 2, none⟩)) w := fun _ => by kernel_rfl
  go_still_tail 19, (by kernel_rfl)
  change wpList _ _ _ _ _ W2.drew
  have hbo2 : Bo W2.drew (w.heap.size + 1) #[.int .i64 0, .int .i64 0, .string ⟨#[]⟩, .int .i64 0, .int .i64 0, .int .i64 0, .int .i64 0] 115 := HBo.out
  have HB3 := Lib.hid HB.out.drew
  clear HBo HB
  generalize W2.drew = W3 at *
  have z0 := hbo2.cell 0
  have z1 := hbo2.cell 1
  have z2 := hbo2.cell 2
  have z3 := hbo2.cell 3
  have z4 := hbo2.cell 4
  have z5 := hbo2.cell 5
  have z6 := hbo2.cell 6
  have zf := hbo2.fz
  clear hbo2
  go_wp2
  refine bodyPost_ret (v := sdV ⟨x0, x1, x, ⟨x2, x3, x4, x5⟩⟩) (by simp [results, Tryz.results45, go_sem, sdV, z0, z1, z2, z3, z4, z5, z6]) rfl ⟨rfl, ?_⟩
  exact below7 HB3.out (by omega) _ _ _ _ _ _ _

/-- what a block's cell says -/
theorem stored_any (w : World) {a b dB k : Nat} {c : M.Cl} (hc : CellAt w k dB a b c) (ht : c.text.size ≤ 100) :
    Calls Tryz.prog 45 #[.agg #[.pointer (some ⟨k, 0, none⟩)]] w fun e w' => e = .returned (sdV (st c.text)) ∧ Below w.heap.size w w' := by
  cases hr : recOf c.text 30 6 1 with
  | none =>
    have e : st c.text = Sd.zero := by unfold st; rw [hr]; rfl
    rw [e]
    exact stored_none w hc ht hr
  | some r =>
    obtain ⟨_, h2, h3, h4⟩ := (recOk_iff _ _ _ _).1 (recOf_some hr).2
    obtain ⟨kind, nums, texts⟩ := r
    match nums, h2, texts, h3 with
    | [x0, x1, x2, x3, x4, x5], _, [x], _ =>
      by_cases h8 : x.size = 8
      · have e : st c.text = ⟨x0, x1, x, ⟨x2, x3, x4, x5⟩⟩ := by
          unfold st; rw [hr]
          show (if x.size = 8 then Sd.mk x0 x1 x ⟨x2, x3, x4, x5⟩ else Sd.zero) = _
          rw [if_pos h8]
        rw [e]
        exact stored_yes w hc ht hr rfl h8 rfl
      · have e : st c.text = Sd.zero := by
          unfold st; rw [hr]
          show (if x.size = 8 then Sd.mk x0 x1 x ⟨x2, x3, x4, x5⟩ else Sd.zero) = _
          rw [if_neg h8]
        rw [e]
        exact stored_bad w hc ht hr rfl h8
end Go.Proofs.YtofhijnfbilieaaGreat.Bk
namespace Go.Proofs.YtofhijnfbilieaaGreat.Bk
open Go.RowKit
open Ml (Mg may msgV)
set_option linter.unusedVariables false
set_option linter.unusedSimpArgs false
set_option maxRecDepth 20000

variable {dB sB mB n : Nat} {d : M.Dv}

def verV (a b : Int) : Value := .agg #[.int .i64 a, .int .i64 b]

theorem bx2 {w w1 : World} {a b : Value} {t : TypeId} (hb : Below (w.alloc (.cells #[a, b] t)).heap.size (w.alloc (.cells #[a, b] t)) w1) : Bo w1 w.heap.size #[a, b] t ∧ Below w.heap.size w w1 ∧ w.heap.size + 1 ≤ w1.heap.size := by
  have hs := hb.size
  rw [show (w.alloc (.cells #[a, b] t)).heap.size = w.heap.size + 1 by simp] at hb hs
  exact ⟨(Bo.new w _ _).below hb (by omega), ((Below.refl _ _).alloc (Nat.le_refl _) _).trans (hb.mono (by omega)), hs⟩

set_option maxHeartbeats 2000000 in
theorem get_no (w : World) {tB bl : Nat} {K : Nat → Nat} (h : StAt w tB bl K) (i : Int) (hi : isB bl i = false) :
    Calls Tryz.prog 19 #[.pointer (some ⟨tB, 0, none⟩), .int .i64 i] w fun e w' => e = .returned (.tuple #[verV 0 0, .string ⟨#[]⟩]) ∧ Below w.heap.size w w' := by
  have HH := Lib.hid (has_any _ (h.below ((Below.refl w.heap.size w).alloc (Nat.le_refl _) (.cells #[.int .i64 0, .int .i64 0] 52)) h.lt) i)
  rw [hi] at HH
  have HB := Lib.hid (bx2 (Below.refl (w.alloc (.cells #[.int .i64 0, .int .i64 0] 52)).heap.size (w.alloc (.cells #[.int .i64 0, .int .i64 0] 52))))
  have z0 := HB.out.1.cell 0
  have z1 := HB.out.1.cell 1
  have zf := HB.out.1.fz
  clear h hi
  go_enter Tryz.func19, Tryz.ntmps19
  go_wp2_with (go_at_call 44; with_reducible refine HH.out.mono ?_; rintro e w1 ⟨rfl, rfl⟩)
  refine bodyPost_ret (v := .tuple #[verV 0 0, .string ⟨#[]⟩]) (by simp [results, Tryz.results19, go_sem, verV, z0, z1]) rfl ⟨rfl, ?_⟩
  exact HB.out.2.1

set_option maxHeartbeats 2000000 in
theorem get_yes (w : World) {tB bl a b : Nat} {K : Nat → Nat} {c : M.Cl} (h : StAt w tB bl K) (k : Nat) (hk : k < bl) (hbl : bl ≤ 32) (hc : CellAt w (K (k + 1)) dB a b c) (ht : c.text.size ≤ 100) :
    Calls Tryz.prog 19 #[.pointer (some ⟨tB, 0, none⟩), .int .i64 (k : Int)] w fun e w' => e = .returned (.tuple #[verV (st c.text).ep (st c.text).sq, .string (st c.text).data]) ∧ Below w.heap.size w w' := by
  have hbx := (Below.refl w.heap.size w).alloc (Nat.le_refl _) (.cells #[.int .i64 0, .int .i64 0] 52)
  have HH := Lib.hid (has_any _ (h.below hbx h.lt) (k : Int))
  rw [show isB bl (k : Int) = true by unfold isB; simp; omega] at HH
  have q := (h.below hbx h.lt).qb k hk
  have HS := Lib.hid (stored_any _ (hc.below hbx hc.lt) ht)
  have h0 : (0 : Int) ≤ (k : Int) := by omega
  have h1 : (k : Int) < 32 := by omega
  generalize K (k + 1) = kb at *
  generalize st c.text = s at *
  obtain ⟨ep, sq, dt, ta, tb, tc, td⟩ := s
  simp only [sdV] at HS ⊢
  clear h hc ht hbx hk hbl
  go_enter Tryz.func19, Tryz.ntmps19
  go_upto_region 4 with (first
    | (go_at_call 44; with_reducible refine HH.out.mono ?_; rintro e w1 ⟨rfl, rfl⟩)
    | (go_at_call 45; refine HS.out.mono ?_; rintro e w2 ⟨rfl, hb2⟩
       obtain ⟨hbo, hbb, hsz⟩ := bx2 hb2
       have HB := Lib.hid (hbb.alloc hbb.size (.cells #[.int .i64 ep, .int .i64 sq, .string dt, .int .i64 ta, .int .i64 tb, .int .i64 tc, .int .i64 td] 115))
       have HO := Lib.hid (hbo.below ((Below.refl w2.heap.size w2).alloc (Nat.le_refl _) (.cells #[.int .i64 ep, .int .i64 sq, .string dt, .int .i64 ta, .int .i64 tb, .int .i64 tc, .int .i64 td] 115)) (by omega))
       have HN := Lib.hid (Bo.new w2 #[.int .i64 ep, .int .i64 sq, .string dt, .int .i64 ta, .int .i64 tb, .int .i64 tc, .int .i64 td] 115)
       clear hb2 hbo hbb))
  clear HS HH q
  generalize w2.alloc (.cells #[.int .i64 ep, .int .i64 sq, .string dt, .int .i64 ta, .int .i64 tb, .int .i64 tc, .int .i64 td] 115) = W at *
  have r0 := HN.out.cell 0
  have r1 := HN.out.cell 1
  have r2 := HN.out.cell 2
  have z0 := HO.out.cell 0
  have z1 := HO.out.cell 1
  have zf := HO.out.fz
  go_region
  all_goals
    go_wp2
    refine bodyPost_ret (v := .tuple #[verV ep sq, .string dt]) (by simp [results, Tryz.results19, go_sem, verV, z0, z1]) rfl ⟨rfl, ?_⟩
    first
      | exact ((HB.out.drew).setCell (by simp) _).setCell (by simp) _
      | exact ((HB.out).setCell (by simp) _).setCell (by simp) _

theorem bget_any (w : World) {tB bl f : Nat} {K : Nat → Nat} {C : Cs} (h : ST w dB sB mB n d tB bl f K C) (i : Int) :
    Calls Tryz.prog 19 #[.pointer (some ⟨tB, 0, none⟩), .int .i64 i] w fun e w' => e = .returned (.tuple #[verV (getV bl C i).1 (getV bl C i).2.1, .string (getV bl C i).2.2]) ∧ Below w.heap.size w w' := by
  cases hi : isB bl i with
  | false =>
    have e : getV bl C i = (0, 0, ⟨#[]⟩) := by unfold getV; rw [hi]; rfl
    rw [e]
    exact get_no w h.at_ i hi
  | true =>
    have hi' := hi
    unfold isB at hi'
    simp at hi'
    obtain ⟨k, rfl⟩ := Int.eq_ofNat_of_zero_le hi'.1
    have hk : k < bl := by omega
    have e : getV bl C (k : Int) = ((blk C k).ep, (blk C k).sq, (blk C k).data) := by unfold getV; rw [hi]; simp
    rw [e]
    exact get_yes w h.at_ k hk h.bl1.2 (h.cel (k + 1) (by omega)) (h.tx (k + 1) (by omega))
end Go.Proofs.YtofhijnfbilieaaGreat.Bk
