/-
  Plain mathematics of a sender: items in a row; what is added, acked; what is done with an item.
-/
namespace Go.Proofs.Ytcnmkojlledipaa.Mr

structure It where
  seq : Int
  blk : Int
  data : ByteArray
  cl : Int
  n : Int

theorem It.ext' {a b : It} (h1 : a.seq = b.seq) (h2 : a.blk = b.blk) (h3 : a.data = b.data) (h4 : a.cl = b.cl) (h5 : a.n = b.n) : a = b := by
  cases a; cases b; simp_all
instance : DecidableEq It := fun a b => decidable_of_iff (a.seq = b.seq ∧ a.blk = b.blk ∧ a.data = b.data ∧ a.cl = b.cl ∧ a.n = b.n) ⟨fun h => It.ext' h.1 h.2.1 h.2.2.1 h.2.2.2.1 h.2.2.2.2, fun h => h ▸ ⟨rfl, rfl, rfl, rfl, rfl⟩⟩
instance : Inhabited It := ⟨⟨0, 0, ⟨#[]⟩, 0, 0⟩⟩
def It.no (x : It) (s : Int) : It := { x with seq := s }
def It.dt (x : It) (d : ByteArray) : It := { x with data := d }

/-- the base that a sender has -/
def base (b : Int) : Int := if b < 0 then 0 else if 4611686018427387904 < b then 4611686018427387904 else b
theorem base_in (b : Int) : 0 ≤ base b ∧ base b ≤ 4611686018427387904 := by unfold base; split; omega; split <;> omega
theorem base_same {b : Int} (h : 0 ≤ b) (h2 : b ≤ 4611686018427387904) : base b = b := by unfold base; rw [if_neg (by omega), if_neg (by omega)]

/-- what Add tells and makes: a is up to which all were taken -/
def last (a : Int) (l : List It) : Int := a + l.length
def addB (a : Int) (l : List It) : Bool := decide (last a l < 4611686018427387904)
def addN (a : Int) (l : List It) : Int := if last a l < 4611686018427387904 then last a l + 1 else 0
def addE (a : Int) (l : List It) : Int := if last a l < 4611686018427387904 then 0 else 23
def addL (a : Int) (l : List It) (x : It) : List It := if last a l < 4611686018427387904 then l ++ [x.no (last a l + 1)] else l
/-- what Ack tells and makes -/
def ackB (a : Int) (l : List It) (q : Int) : Bool := decide (a < q) && decide (q ≤ last a l)
def ackA (a : Int) (l : List It) (q : Int) : Int := if ackB a l q = true then q else a
def ackL (a : Int) (l : List It) (q : Int) : List It := if ackB a l q = true then l.drop (q - a).toNat else l
theorem ackB_yes {a : Int} {l : List It} {q : Int} (h : ackB a l q = true) : a < q ∧ q ≤ last a l := by simpa [ackB] using h
theorem ackB_no {a : Int} {l : List It} {q : Int} (h : ackB a l q = false) : q ≤ a ∨ last a l < q := by
  simp [ackB] at h
  omega
theorem ack_last {a : Int} {l : List It} (q : Int) : last (ackA a l q) (ackL a l q) = last a l := by
  unfold ackA ackL
  by_cases h : ackB a l q = true
  · rw [if_pos h, if_pos h]
    obtain ⟨h1, h2⟩ := ackB_yes h
    unfold last at *
    rw [List.length_drop]
    omega
  · rw [if_neg h, if_neg h]
theorem add_last {a : Int} {l : List It} (x : It) (h : last a l < 4611686018427387904) : last a (addL a l x) = last a l + 1 := by
  unfold addL
  rw [if_pos h]
  unfold last
  rw [List.length_append, List.length_singleton]
  omega

/-- what is done with an item: 0 nothing, 1 it is taken, 2 it was had -/
def next (le ls e s : Int) : Int := if e = le ∧ s ≤ ls then 2 else if (e = le ∧ s = ls + 1) ∨ (le < e ∧ s = 1) then 1 else 0
end Go.Proofs.Ytcnmkojlledipaa.Mr
