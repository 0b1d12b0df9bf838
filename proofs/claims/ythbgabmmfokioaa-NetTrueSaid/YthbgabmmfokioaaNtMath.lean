/-
  Plain mathematics of a net: letters in a row; what is sent, taken, doubled.
-/
namespace Go.Proofs.Ythbgabmmfokioaa.Nt

structure Lt where
  fr : Int
  to : Int
  body : ByteArray

theorem Lt.ext' {a b : Lt} (h1 : a.fr = b.fr) (h2 : a.to = b.to) (h3 : a.body = b.body) : a = b := by
  cases a; cases b; simp_all
instance : DecidableEq Lt := fun a b => decidable_of_iff (a.fr = b.fr ∧ a.to = b.to ∧ a.body = b.body) ⟨fun h => Lt.ext' h.1 h.2.1 h.2.2, fun h => h ▸ ⟨rfl, rfl, rfl⟩⟩
instance : Inhabited Lt := ⟨⟨0, 0, ⟨#[]⟩⟩⟩

/-- is there such a place? -/
def place (x : Int) : Bool := decide (0 ≤ x) && decide (x < 8)
theorem place_yes {x : Int} (h : place x = true) : 0 ≤ x ∧ x < 8 := by simpa [place] using h
theorem place_no {x : Int} (h : place x = false) : x < 0 ∨ 8 ≤ x := by
  simp [place] at h
  omega

/-- what Send tells, what it makes -/
def sendE (l : List Lt) (x : Lt) : Int :=
  if place x.fr = false then 1 else if place x.to = false then 1 else if x.fr = x.to then 1 else if 200 < x.body.size then 3 else if 300 ≤ l.length then 5 else 0
def sendL (l : List Lt) (x : Lt) : List Lt := if sendE l x = 0 then l ++ [x] else l
theorem sendL_no {l : List Lt} {x : Lt} (h : sendE l x ≠ 0) : sendL l x = l := if_neg h
theorem sendL_ok {l : List Lt} {x : Lt} (h : sendE l x = 0) : sendL l x = l ++ [x] := if_pos h
theorem sendE_ok {l : List Lt} {x : Lt} (h : sendE l x = 0) : place x.fr = true ∧ place x.to = true ∧ x.fr ≠ x.to ∧ x.body.size ≤ 200 ∧ l.length < 300 := by
  unfold sendE at h
  by_cases h1 : place x.fr = false
  · simp [h1] at h
  · by_cases h2 : place x.to = false
    · simp [h1, h2] at h
    · by_cases h3 : x.fr = x.to
      · simp [h2, h3] at h
      · by_cases h4 : 200 < x.body.size
        · simp [h1, h2, h3, h4] at h
        · by_cases h5 : 300 ≤ l.length
          · simp [h1, h2, h3, h4, h5] at h
          · exact ⟨by simpa using h1, by simpa using h2, h3, by omega, by omega⟩
theorem sendE_of {l : List Lt} {x : Lt} (h1 : place x.fr = true) (h2 : place x.to = true) (h3 : x.fr ≠ x.to) (h4 : x.body.size ≤ 200) (h5 : l.length < 300) : sendE l x = 0 := by
  unfold sendE
  rw [if_neg (by simp [h1]), if_neg (by simp [h2]), if_neg h3, if_neg (by omega), if_neg (by omega)]
theorem sendE_full {l m : List Lt} {x : Lt} (h : sendE l x = 0) (hm : 300 ≤ m.length) : sendE m x = 5 := by
  obtain ⟨h1, h2, h3, h4, _⟩ := sendE_ok h
  unfold sendE
  rw [if_neg (by simp [h1]), if_neg (by simp [h2]), if_neg h3, if_neg (by omega), if_pos hm]
theorem sendE_room {l m : List Lt} {x : Lt} (h : sendE l x = 0) (hm : m.length < 300) : sendE m x = 0 := by
  obtain ⟨h1, h2, h3, h4, _⟩ := sendE_ok h
  exact sendE_of h1 h2 h3 h4 hm
theorem sendL_le {l : List Lt} (h : l.length ≤ 300) (x : Lt) : (sendL l x).length ≤ 300 := by
  by_cases h0 : sendE l x = 0
  · rw [sendL_ok h0]
    have := (sendE_ok h0).2.2.2.2
    simp; omega
  · rw [sendL_no h0]; exact h
theorem sendE_in (l : List Lt) (x : Lt) : sendE l x = 0 ∨ sendE l x = 1 ∨ sendE l x = 3 ∨ sendE l x = 5 := by
  unfold sendE
  repeat' split
  all_goals simp

/-- which place any number means -/
def ix (i : Int) (n : Nat) : Nat := (i % (n : Int)).toNat
theorem ix_lt (i : Int) {n : Nat} (h : 0 < n) : ix i n < n := by
  have h1 := Int.emod_lt_of_pos i (show (0 : Int) < (n : Int) by omega)
  have h0 := Int.emod_nonneg i (show ((n : Int)) ≠ 0 by omega)
  unfold ix; omega
theorem ix_int (i : Int) {n : Nat} (h : 0 < n) : ((ix i n : Nat) : Int) = i % (n : Int) := by
  have h0 := Int.emod_nonneg i (show ((n : Int)) ≠ 0 by omega)
  unfold ix; omega
theorem ix_zero (n : Nat) : ix 0 n = 0 := by simp [ix]
theorem ix_add (i k : Int) (n : Nat) : ix (i + k * n) n = ix i n := by
  unfold ix
  rw [Int.add_mul_emod_self_right]
/-- Go's own reckoning -/
theorem ix_go (i : Int) {n : Nat} (h : 0 < n) : (i.tmod (n : Int) + (n : Int)).tmod (n : Int) = ((ix i n : Nat) : Int) := by
  rw [ix_int i h]
  have hn : (0 : Int) < (n : Int) := by omega
  have h1 : i.tmod (n : Int) = if 0 ≤ i ∨ (n : Int) ∣ i then i % (n : Int) else i % (n : Int) - (n : Int).natAbs := by
    rw [Int.tmod_eq_emod]
    split <;> simp_all
  have h2 := Int.emod_lt_of_pos i hn
  have h3 := Int.emod_nonneg i (show ((n : Int)) ≠ 0 by omega)
  rw [h1]
  by_cases h4 : 0 ≤ i ∨ (n : Int) ∣ i
  · rw [if_pos h4, Int.tmod_eq_emod_of_nonneg (by omega), Int.add_emod_right, Int.emod_emod]
  · rw [if_neg h4]
    have : ((n : Int).natAbs : Int) = (n : Int) := by omega
    rw [this, show i % (n : Int) - (n : Int) + (n : Int) = i % (n : Int) by omega, Int.tmod_eq_emod_of_nonneg (by omega), Int.emod_emod]
/-- the document's own reckoning: the rest, and as many more if it is below 0 -/
theorem ix_ref (i : Int) {n : Nat} (h : 0 < n) : (if i.tmod (n : Int) < 0 then i.tmod (n : Int) + (n : Int) else i.tmod (n : Int)) = ((ix i n : Nat) : Int) := by
  rw [ix_int i h]
  have hn : (0 : Int) < (n : Int) := by omega
  have h2 := Int.emod_lt_of_pos i hn
  have h3 := Int.emod_nonneg i (show ((n : Int)) ≠ 0 by omega)
  rw [Int.tmod_eq_emod]
  split
  · rw [if_neg (by simp; omega)]; simp
  · have : ((n : Int).natAbs : Int) = (n : Int) := by omega
    rw [if_pos (by omega)]; omega
theorem tmod_in (i : Int) {n : Nat} (h : 0 < n) (hn : n ≤ 300) : -300 < i.tmod (n : Int) ∧ i.tmod (n : Int) < 300 := by
  have h1 := Int.natAbs_tmod i (n : Int)
  have h2 : i.natAbs % (n : Int).natAbs < (n : Int).natAbs := Nat.mod_lt _ (by omega)
  omega

/-- what is left when the letter at k goes -/
def cutL (l : List Lt) (k : Nat) : List Lt := l.take k ++ l.drop (k + 1)
theorem cutL_length {l : List Lt} {k : Nat} (h : k < l.length) : (cutL l k).length = l.length - 1 := by
  simp [cutL]; omega
theorem cutL_le (l : List Lt) (k : Nat) : (cutL l k).length ≤ l.length := by
  simp [cutL]; omega
/-- what Take tells, what it makes -/
def takeV (l : List Lt) (i : Int) : Lt := l.getD (ix i l.length) default
def takeB (l : List Lt) : Bool := !l.isEmpty
def takeL (l : List Lt) (i : Int) : List Lt := cutL l (ix i l.length)
theorem takeL_nil (i : Int) : takeL [] i = [] := by simp [takeL, cutL]
theorem takeL_le (l : List Lt) (i : Int) : (takeL l i).length ≤ l.length := cutL_le _ _
theorem takeL_length {l : List Lt} (i : Int) (h : l ≠ []) : (takeL l i).length = l.length - 1 := cutL_length (ix_lt i (by cases l; contradiction; simp))
/-- what Copy tells, what it makes -/
def copyB (l : List Lt) : Bool := !l.isEmpty && decide (l.length < 300)
def copyL (l : List Lt) (i : Int) : List Lt := if copyB l = true then l ++ [takeV l i] else l
theorem copyL_no {l : List Lt} {i : Int} (h : copyB l = false) : copyL l i = l := by simp [copyL, h]
theorem copyL_ok {l : List Lt} {i : Int} (h : copyB l = true) : copyL l i = l ++ [takeV l i] := if_pos h
theorem copyL_le {l : List Lt} (h : l.length ≤ 300) (i : Int) : (copyL l i).length ≤ 300 := by
  unfold copyL
  split
  · rename_i h1
    simp [copyB] at h1
    simp; omega
  · exact h
theorem takeV_at {l : List Lt} {i : Int} {x : Lt} (h : l[ix i l.length]? = some x) : takeV l i = x := by
  simp [takeV, List.getD_eq_getElem?_getD, h]
theorem takeV_get {l : List Lt} (i : Int) (h : l ≠ []) : l[ix i l.length]? = some (takeV l i) := by
  have hl : 0 < l.length := by cases l; contradiction; simp
  have hi := ix_lt i hl
  simp [takeV, List.getD_eq_getElem?_getD, hi]
/-- the first letter to a place -/
def toK (l : List Lt) (p : Int) : Option Nat := l.findIdx? fun x => x.to == p
end Go.Proofs.Ythbgabmmfokioaa.Nt
