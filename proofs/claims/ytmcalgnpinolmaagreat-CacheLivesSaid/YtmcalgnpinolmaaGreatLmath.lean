/-
  Plain mathematics of a log: its records' sectors and its cell's text; what Open finds; what stays true.
-/
import Derived.Test.YtmcalgnpinolmaaGreatSlots
set_option linter.unusedVariables false
namespace Go.Proofs.YtmcalgnpinolmaaGreat
namespace M

/-- a record: when it was written, and its payload -/
structure Rl where
  time : Int
  s : ByteArray

structure Lg where
  head : Int
  time : Int
  least : Int
  rs : List Rl

def recL (k : Int) (r : Rl) : C.M.Rc := ⟨2, [k, r.time], [r.s]⟩
def recT (h t l : Int) : C.M.Rc := ⟨3, [h, t, l], []⟩
def MayL (k : Int) (r : Rl) : Prop := C.M.fits k ∧ C.M.fits r.time ∧ r.s.size ≤ 110
def secL (k : Int) (r : Rl) : List UInt8 := framed (C.M.enc (recL k r))
def txtL (h t l : Int) : ByteArray := ⟨(C.M.enc (recT h t l)).toArray⟩

theorem recL_may {k : Int} {r : Rl} (h : MayL k r) : C.M.May (recL k r) ∧ C.M.Fits (recL k r) := by
  obtain ⟨h1, h2, h3⟩ := h
  refine ⟨⟨by simp [recL], by simp [recL], by simp [recL], by simp [recL], fun x hx => ?_⟩, fun x hx => ?_⟩
  · simp [recL] at hx; subst hx; omega
  · simp [recL] at hx
    rcases hx with rfl | rfl
    · exact h1
    · exact h2
theorem encL_len {k : Int} {r : Rl} : (C.M.enc (recL k r)).length = 2 + ((C.M.num k).length + (C.M.num r.time).length) + (1 + r.s.size) := by
  rw [C.M.enc_len]; simp [recL]
theorem encL_small {k : Int} {r : Rl} (h : MayL k r) : (C.M.enc (recL k r)).length ≤ 133 ∧ 5 ≤ (C.M.enc (recL k r)).length := by
  have := C.M.num_len k
  have := C.M.num_len r.time
  rw [encL_len]
  obtain ⟨_, _, h3⟩ := h
  omega
theorem framed_len (l : List UInt8) : (framed l).length = 5 + l.length := by
  simp [framed, word, summed]; omega
theorem secL_small {k : Int} {r : Rl} (h : MayL k r) : (secL k r).length ≤ 138 := by
  have := encL_small h
  unfold secL
  rw [framed_len]; omega

def asL (r : C.M.Rc) : Option (Int × Rl) :=
  match r with
  | ⟨k, [a, t], [s]⟩ => if k = 2 then (if s.size ≤ 110 then some (a, ⟨t, s⟩) else none) else none
  | _ => none

/-- what bytes say as a record's sector -/
def rdL (l : List UInt8) : Option (Int × Rl) := (unframe l).bind asL

theorem rdL_sec {k : Int} {r : Rl} (h : MayL k r) (x : List UInt8) : rdL (secL k r ++ x) = some (k, r) := by
  obtain ⟨h1, h2⟩ := recL_may h
  unfold rdL secL
  rw [unframe_framed h1 h2 (by have := encL_small h; omega)]
  simp only [Option.bind_some, recL, asL]
  rw [if_pos trivial, if_pos h.2.2]
theorem rdL_pad {k : Int} {r : Rl} (h : MayL k r) : rdL (pad (secL k r)) = some (k, r) := rdL_sec h _

theorem asL_some {c : C.M.Rc} {k : Int} {r : Rl} (h : asL c = some (k, r)) : c = recL k r ∧ r.s.size ≤ 110 := by
  obtain ⟨kd, ns, ts⟩ := c
  match ns, ts, h with
  | [a, t], [s], h =>
    simp only [asL] at h
    split at h
    · rename_i hk
      split at h
      · rename_i hm
        simp only [Option.some.injEq, Prod.mk.injEq] at h
        obtain ⟨rfl, rfl⟩ := h
        subst hk
        exact ⟨rfl, hm⟩
      · cases h
    · cases h
  | [], _, h => simp [asL] at h
  | [_], _, h => simp [asL] at h
  | [_, _], [], h => simp [asL] at h
  | [_, _], _ :: _ :: _, h => simp [asL] at h
  | _ :: _ :: _ :: _, _, h => simp [asL] at h

theorem rdL_may {l : List UInt8} {k : Int} {r : Rl} (h : rdL l = some (k, r)) : MayL k r := by
  unfold rdL at h
  cases hu : unframe l with
  | none => rw [hu] at h; cases h
  | some c =>
    rw [hu] at h
    simp only [Option.bind_some] at h
    obtain ⟨rfl, hm⟩ := asL_some h
    obtain ⟨_, hf, _⟩ := framed_unframe hu
    exact ⟨hf k (by simp [recL]), hf r.time (by simp [recL]), hm⟩

theorem rdL_five {l : List UInt8} (h : l[4]? = some 0) : rdL l = none := by
  match l, h with
  | a :: b :: c :: d :: n :: r, h =>
    simp only [List.getElem?_cons_succ, List.getElem?_cons_zero, Option.some.injEq] at h
    subst h
    unfold rdL unframe
    have e : C.M.dec ([] : List UInt8) = none := by rfl
    simp [e]
theorem rdL_zero : rdL zero = none := rdL_five (by rfl)

/-! the cell's text -/
def InT (h t l : Int) : Prop := (1 ≤ h ∧ h ≤ 4611686018427387904) ∧ (0 ≤ t ∧ t ≤ 4611686018427387904) ∧ (0 ≤ l ∧ l ≤ 4611686018427387904)
instance (h t l : Int) : Decidable (InT h t l) := by unfold InT; infer_instance
def asT (r : C.M.Rc) : Option (Int × Int × Int) :=
  match r with
  | ⟨k, [h, t, l], []⟩ => if k = 3 then (if InT h t l then some (h, t, l) else none) else none
  | _ => none
def rdX (t : List UInt8) : Int × Int × Int := ((C.M.dec t).bind asT).getD (1, 0, 0)

theorem recT_may {h t l : Int} (hi : InT h t l) : C.M.May (recT h t l) ∧ C.M.Fits (recT h t l) := by
  obtain ⟨h1, h2, h3⟩ := hi
  refine ⟨⟨by simp [recT], by simp [recT], by simp [recT], by simp [recT], fun x hx => ?_⟩, fun x hx => ?_⟩
  · simp [recT] at hx
  · simp [recT] at hx
    unfold C.M.fits
    rcases hx with rfl | rfl | rfl <;> omega
theorem rdX_txt {h t l : Int} (hi : InT h t l) : rdX (txtL h t l).data.toList = (h, t, l) := by
  obtain ⟨h1, h2⟩ := recT_may hi
  unfold rdX txtL
  simp only
  rw [C.M.dec_enc h1 h2]
  simp only [Option.bind_some, recT, asT]
  rw [if_pos trivial, if_pos hi]
  rfl
theorem in0 : InT 1 0 0 := by decide
theorem rdX_in (t : List UInt8) : InT (rdX t).1 (rdX t).2.1 (rdX t).2.2 := by
  unfold rdX
  cases hd : C.M.dec t with
  | none => exact in0
  | some r =>
    simp only [Option.bind_some]
    obtain ⟨k, ns, ts⟩ := r
    match ns, ts with
    | [h, t, l], [] =>
      simp only [asT]
      split
      · split
        · rename_i hi; exact hi
        · exact in0
      · exact in0
    | [], _ => exact in0
    | [_], _ => exact in0
    | [_, _], _ => exact in0
    | [_, _, _], _ :: _ => exact in0
    | _ :: _ :: _ :: _ :: _, _ => exact in0
theorem rdX_empty : rdX ByteArray.empty.data.toList = (1, 0, 0) := by rfl
theorem txtL_size (h t l : Int) : (txtL h t l).size ≤ 32 := by
  have e : (txtL h t l).size = (C.M.enc (recT h t l)).length := by
    rw [← C.M.size_list]; rfl
  have := C.M.num_len h
  have := C.M.num_len t
  have := C.M.num_len l
  rw [e, C.M.enc_len]
  simp [recT]
  omega

/-! where a record stands -/
def place (first n : Nat) (k : Int) : Nat := first + (k % (n : Int)).toNat

theorem place_lt {first n : Nat} (hn : 0 < n) (k : Int) : ∃ p, p < n ∧ place first n k = first + p := by
  refine ⟨(k % (n : Int)).toNat, ?_, rfl⟩
  have h1 := Int.emod_lt_of_pos k (show (0 : Int) < (n : Int) by omega)
  have h2 := Int.emod_nonneg k (show (n : Int) ≠ 0 by omega)
  omega
theorem place_ne {first n : Nat} (hn : 0 < n) {k j : Int} (h1 : k < j) (h2 : j - k < (n : Int)) : place first n k ≠ place first n j := by
  intro e
  unfold place at e
  have a1 := Int.emod_nonneg k (show (n : Int) ≠ 0 by omega)
  have a2 := Int.emod_nonneg j (show (n : Int) ≠ 0 by omega)
  have e2 : k % (n : Int) = j % (n : Int) := by omega
  have e3 := Int.emod_eq_emod_iff_emod_sub_eq_zero.1 e2.symm
  have d := Int.dvd_of_emod_eq_zero e3
  have := Int.le_of_dvd (by omega) d
  omega

/-! times that never go down -/
def Chn : Int → List Rl → Int → Prop
  | _, [], _ => True
  | l, r :: rs, T => l ≤ r.time ∧ r.time ≤ T ∧ Chn r.time rs T
def lastT : Int → List Rl → Int
  | l, [] => l
  | _, r :: rs => lastT r.time rs

theorem Chn.mono {l T U : Int} {rs : List Rl} (h : Chn l rs T) (hT : T ≤ U) : Chn l rs U := by
  induction rs generalizing l with
  | nil => trivial
  | cons r rs ih => exact ⟨h.1, by have := h.2.1; omega, ih h.2.2⟩
theorem Chn.drop {l T : Int} {rs : List Rl} (h : Chn l rs T) (g : Nat) : Chn (lastT l (rs.take g)) (rs.drop g) T := by
  induction rs generalizing l g with
  | nil => cases g <;> exact trivial
  | cons r rs ih =>
    cases g with
    | zero => exact h
    | succ g => exact ih h.2.2 g
theorem lastT_le {l T : Int} {rs : List Rl} (h : Chn l rs T) (hl : l ≤ T) : lastT l rs ≤ T := by
  induction rs generalizing l with
  | nil => exact hl
  | cons r rs ih => exact ih h.2.2 h.2.1
theorem lastT_ge {l T : Int} {rs : List Rl} (h : Chn l rs T) : l ≤ lastT l rs := by
  induction rs generalizing l with
  | nil => exact Int.le_refl _
  | cons r rs ih => have := ih h.2.2; have := h.1; unfold lastT; omega
theorem Chn.take {l T : Int} {rs : List Rl} (h : Chn l rs T) (g : Nat) : Chn l (rs.take g) T := by
  induction rs generalizing l g with
  | nil => cases g <;> exact trivial
  | cons r rs ih =>
    cases g with
    | zero => exact trivial
    | succ g => exact ⟨h.1, h.2.1, ih h.2.2 g⟩
theorem Chn.snoc {l T : Int} {rs : List Rl} (h : Chn l rs T) (hl : l ≤ T) (s : ByteArray) : Chn l (rs ++ [⟨T, s⟩]) T := by
  induction rs generalizing l with
  | nil => exact ⟨hl, Int.le_refl _, trivial⟩
  | cons r rs ih => exact ⟨h.1, h.2.1, ih h.2.2 h.2.1⟩
theorem lastT_take {l : Int} {rs : List Rl} : ∀ {g : Nat} {r : Rl}, rs[g]? = some r → lastT l (rs.take (g + 1)) = r.time := by
  induction rs generalizing l with
  | nil => intro g r h; simp at h
  | cons q rs ih =>
    intro g r h
    cases g with
    | zero => simp at h; subst h; rfl
    | succ g => exact ih (g := g) (r := r) (by simpa using h)

/-- what Open finds from record k on -/
def findL (S : Nat → List UInt8) (first n : Nat) (T : Int) : Nat → Int → Int → List Rl
  | 0, _, _ => []
  | f + 1, k, least =>
    match rdL (S (place first n k)) with
    | some (k', r) => if k' = k ∧ least ≤ r.time ∧ r.time ≤ T then r :: findL S first n T f (k + 1) r.time else []
    | none => []

theorem lastT_snoc (l : Int) (rs : List Rl) (r : Rl) : lastT l (rs ++ [r]) = r.time := by
  induction rs generalizing l with
  | nil => rfl
  | cons q rs ih => exact ih q.time
theorem lastT_split (l : Int) (rs : List Rl) (g : Nat) : lastT (lastT l (rs.take g)) (rs.drop g) = lastT l rs := by
  induction rs generalizing l g with
  | nil => cases g <;> rfl
  | cons q rs ih =>
    cases g with
    | zero => rfl
    | succ g => exact ih q.time g
theorem find_is {S : Nat → List UInt8} {first n : Nat} {T : Int} {rs : List Rl} : ∀ {f : Nat} {k least : Int}, (∀ (i : Nat) r, rs[i]? = some r → rdL (S (place first n (k + i))) = some (k + i, r)) → Chn least rs T → rs.length ≤ f →
    (rs.length < f → ∀ k' r, rdL (S (place first n (k + rs.length))) = some (k', r) → k' = k + rs.length → r.time < lastT least rs) → findL S first n T f k least = rs := by
  induction rs with
  | nil =>
    intro f k least h1 h2 h3 h4
    cases f with
    | zero => rfl
    | succ f =>
      have h5 := h4 (by simp)
      simp only [List.length_nil, Int.natCast_zero, Int.add_zero] at h5
      unfold findL
      cases hr : rdL (S (place first n k)) with
      | none => rfl
      | some x =>
        obtain ⟨k', r⟩ := x
        have := h5 k' r hr
        simp only
        rw [if_neg (fun h => by have h6 := this h.1; simp only [lastT] at h6; have := h.2.1; omega)]
  | cons q rs ih =>
    intro f k least h1 h2 h3 h4
    cases f with
    | zero => simp at h3
    | succ f =>
      have h0 := h1 0 q (by simp)
      simp only [Int.natCast_zero, Int.add_zero] at h0
      unfold findL
      rw [h0]
      simp only
      rw [if_pos ⟨trivial, h2.1, h2.2.1⟩]
      congr 1
      refine ih (fun i r hr => ?_) h2.2.2 (by simpa using h3) (fun hl k' r hr => ?_)
      · have := h1 (i + 1) r (by simpa using hr)
        have e : k + ((i + 1 : Nat) : Int) = k + 1 + (i : Int) := by omega
        rw [e] at this
        exact this
      · have e : k + 1 + (rs.length : Int) = k + ((q :: rs).length : Int) := by simp; omega
        rw [e] at hr ⊢
        exact h4 (by simpa using hl) k' r hr

/-- what the ring holds, whatever a crash has left behind the last record -/
structure RingO (S : Nat → List UInt8) (first n : Nat) (L : Lg) : Prop where
  n1 : 1 ≤ n
  h1 : 1 ≤ L.head
  len : L.rs.length ≤ n
  has : ∀ (i : Nat) r, L.rs[i]? = some r → rdL (S (place first n (L.head + i))) = some (L.head + i, r)
  stop : L.rs.length < n → ∀ k r, rdL (S (place first n (L.head + L.rs.length))) = some (k, r) → k = L.head + L.rs.length → r.time < lastT L.least L.rs
  le : ∀ p, p < n → ∀ k r, rdL (S (first + p)) = some (k, r) → r.time ≤ L.time
  chn : Chn L.least L.rs L.time
  l0 : 0 ≤ L.least
  lt : L.least ≤ L.time
/-- the same while it is open: what is ahead of the tail was written in an elder time -/
structure Ring (S : Nat → List UInt8) (first n : Nat) (L : Lg) : Prop where
  n1 : 1 ≤ n
  h1 : 1 ≤ L.head
  len : L.rs.length ≤ n
  has : ∀ (i : Nat) r, L.rs[i]? = some r → rdL (S (place first n (L.head + i))) = some (L.head + i, r)
  stop : L.rs.length < n → ∀ k r, rdL (S (place first n (L.head + L.rs.length))) = some (k, r) → k = L.head + L.rs.length → r.time < lastT L.least L.rs
  le : ∀ p, p < n → ∀ k r, rdL (S (first + p)) = some (k, r) → r.time ≤ L.time
  old : ∀ p, p < n → ∀ k r, rdL (S (first + p)) = some (k, r) → k < L.head + L.rs.length ∨ r.time < L.time
  chn : Chn L.least L.rs L.time
  l0 : 0 ≤ L.least
  lt : L.least ≤ L.time
theorem Ring.toO {S : Nat → List UInt8} {first n : Nat} {L : Lg} (h : Ring S first n L) : RingO S first n L := ⟨h.n1, h.h1, h.len, h.has, h.stop, h.le, h.chn, h.l0, h.lt⟩

theorem RingO.congr {S S' : Nat → List UInt8} {first n : Nat} {L : Lg} (h : RingO S first n L) (e : ∀ p, p < n → S' (first + p) = S (first + p)) : RingO S' first n L where
  n1 := h.n1
  h1 := h.h1
  len := h.len
  has := fun i r hr => by
    obtain ⟨p, hp, e1⟩ := place_lt (first := first) (Nat.lt_of_lt_of_le Nat.zero_lt_one h.n1) (L.head + i)
    have := h.has i r hr
    rw [e1] at this ⊢
    rw [e p hp]
    exact this
  stop := fun hl k r hr => by
    obtain ⟨p, hp, e1⟩ := place_lt (first := first) (Nat.lt_of_lt_of_le Nat.zero_lt_one h.n1) (L.head + L.rs.length)
    refine h.stop hl k r ?_
    rw [e1] at hr ⊢
    rw [← e p hp]
    exact hr
  le := fun p hp k r hr => h.le p hp k r (by rw [← e p hp]; exact hr)
  chn := h.chn
  l0 := h.l0
  lt := h.lt
theorem Ring.congr {S S' : Nat → List UInt8} {first n : Nat} {L : Lg} (h : Ring S first n L) (e : ∀ p, p < n → S' (first + p) = S (first + p)) : Ring S' first n L :=
  have o := h.toO.congr e
  ⟨o.n1, o.h1, o.len, o.has, o.stop, o.le, fun p hp k r hr => h.old p hp k r (by rw [← e p hp]; exact hr), o.chn, o.l0, o.lt⟩

theorem RingO.find {S : Nat → List UInt8} {first n : Nat} {L : Lg} (h : RingO S first n L) : findL S first n L.time n L.head L.least = L.rs :=
  find_is h.has h.chn h.len h.stop

def Lg.add (L : Lg) (s : ByteArray) : Lg := { L with rs := L.rs ++ [⟨L.time, s⟩] }
def Lg.cut (L : Lg) (g : Nat) : Lg := ⟨L.head + g, L.time, lastT L.least (L.rs.take g), L.rs.drop g⟩
def Lg.anew (L : Lg) : Lg := { L with time := L.time + 1 }
def Lg.tail (L : Lg) : Int := L.head + L.rs.length

theorem Ring.add {S S' : Nat → List UInt8} {first n : Nat} {L : Lg} (h : Ring S first n L) (hl : L.rs.length < n) (s : ByteArray) (hm : MayL L.tail ⟨L.time, s⟩)
    (e : ∀ j, S' j = if j = place first n L.tail then pad (secL L.tail ⟨L.time, s⟩) else S j) : Ring S' first n (L.add s) where
  n1 := h.n1
  h1 := h.h1
  len := by simp [Lg.add]; omega
  has := fun i r hr => by
    simp only [Lg.add] at hr ⊢
    by_cases hi : i < L.rs.length
    · rw [List.getElem?_append_left hi] at hr
      rw [e, if_neg (place_ne (Nat.lt_of_lt_of_le Nat.zero_lt_one h.n1) (by unfold Lg.tail; omega) (by unfold Lg.tail; omega))]
      exact h.has i r hr
    · rw [List.getElem?_append_right (by omega)] at hr
      have hi2 : i = L.rs.length := by
        have := (List.getElem?_eq_some_iff.1 hr).1
        simp at this; omega
      subst hi2
      simp at hr
      subst hr
      rw [e, if_pos (by rfl)]
      exact rdL_pad hm
  stop := fun hl2 k r hr hk => by
    simp only [Lg.add, List.length_append, List.length_singleton] at hl2 hr hk ⊢
    rw [lastT_snoc]
    have hne : place first n (L.head + ((L.rs.length + 1 : Nat) : Int)) ≠ place first n L.tail := fun z => place_ne (first := first) (n := n) (k := L.tail) (j := L.head + ((L.rs.length + 1 : Nat) : Int)) (by omega) (by unfold Lg.tail; omega) (by unfold Lg.tail; omega) z.symm
    rw [e, if_neg hne] at hr
    obtain ⟨p, hp, e1⟩ := place_lt (first := first) (Nat.lt_of_lt_of_le Nat.zero_lt_one h.n1) (L.head + ((L.rs.length + 1 : Nat) : Int))
    rw [e1] at hr
    rcases h.old p hp k r hr with z | z
    · omega
    · exact z
  le := fun p hp k r hr => by
    rw [e] at hr
    split at hr
    · rw [rdL_pad hm] at hr
      simp only [Option.some.injEq, Prod.mk.injEq] at hr
      rw [← hr.2]
      exact Int.le_refl _
    · exact h.le p hp k r hr
  old := fun p hp k r hr => by
    simp only [Lg.add, List.length_append, List.length_singleton]
    rw [e] at hr
    split at hr
    · rw [rdL_pad hm] at hr
      simp only [Option.some.injEq, Prod.mk.injEq] at hr
      unfold Lg.tail at hr
      omega
    · have := h.old p hp k r hr
      omega
  chn := h.chn.snoc h.lt s
  l0 := h.l0
  lt := h.lt

theorem place_turn (first n : Nat) (k : Int) : place first n (k + (n : Int)) = place first n k := by
  unfold place
  rw [Int.add_emod_right]

theorem Ring.cut {S : Nat → List UInt8} {first n : Nat} {L : Lg} (h : Ring S first n L) {g : Nat} (hg : g ≤ L.rs.length) : Ring S first n (L.cut g) where
  n1 := h.n1
  h1 := by have := h.h1; simp [Lg.cut]; omega
  len := by have := h.len; simp [Lg.cut]; omega
  has := fun i r hr => by
    simp only [Lg.cut, List.getElem?_drop] at hr ⊢
    have := h.has (g + i) r hr
    have e : L.head + ((g + i : Nat) : Int) = L.head + (g : Int) + (i : Int) := by omega
    rw [e] at this
    exact this
  stop := fun hl k r hr hk => by
    simp only [Lg.cut, List.length_drop] at hl hr hk ⊢
    rw [lastT_split]
    have e : L.head + (g : Int) + ((L.rs.length - g : Nat) : Int) = L.head + (L.rs.length : Int) := by omega
    rw [e] at hr hk
    by_cases hn : L.rs.length < n
    · exact h.stop hn k r hr hk
    · exfalso
      have hlen := h.len
      have hle : L.rs.length = n := by omega
      have h0 : 0 < L.rs.length := by have := h.n1; omega
      have hs := h.has 0 (L.rs[0]'h0) (List.getElem?_eq_getElem h0)
      rw [hle, place_turn] at hr
      simp only [Int.natCast_zero, Int.add_zero] at hs
      rw [hs] at hr
      simp only [Option.some.injEq, Prod.mk.injEq] at hr
      omega
  le := h.le
  old := fun p hp k r hr => by
    have := h.old p hp k r hr
    simp only [Lg.cut, List.length_drop]
    omega
  chn := h.chn.drop g
  l0 := by have := lastT_ge (h.chn.take g); have := h.l0; simp only [Lg.cut]; omega
  lt := lastT_le (h.chn.take g) h.lt

theorem RingO.anew {S : Nat → List UInt8} {first n : Nat} {L : Lg} (h : RingO S first n L) : Ring S first n L.anew where
  n1 := h.n1
  h1 := h.h1
  len := h.len
  has := h.has
  stop := h.stop
  le := fun p hp k r hr => by have := h.le p hp k r hr; show r.time ≤ L.time + 1; omega
  old := fun p hp k r hr => .inr (by have := h.le p hp k r hr; show r.time < L.time + 1; omega)
  chn := h.chn.mono (by simp [Lg.anew]; omega)
  l0 := h.l0
  lt := by have := h.lt; simp [Lg.anew]; omega

theorem cut_tail (L : Lg) {g : Nat} (hg : g ≤ L.rs.length) : (L.cut g).tail = L.tail := by
  simp only [Lg.cut, Lg.tail, List.length_drop]; omega
theorem add_tail (L : Lg) (s : ByteArray) : (L.add s).tail = L.tail + 1 := by
  simp only [Lg.add, Lg.tail, List.length_append, List.length_singleton]; omega

/-- a new log -/
def fresh0 : Lg := ⟨1, 0, 0, []⟩
theorem Ring.fresh {S : Nat → List UInt8} {first n : Nat} (hn : 1 ≤ n) (h : ∀ p, p < n → rdL (S (first + p)) = none) : RingO S first n fresh0 where
  n1 := hn
  h1 := by decide
  len := by simp [fresh0]
  has := fun i r hr => by simp [fresh0] at hr
  stop := fun _ k r hr => by
    obtain ⟨p, hp, e1⟩ := place_lt (first := first) (Nat.lt_of_lt_of_le Nat.zero_lt_one hn) (fresh0.head + fresh0.rs.length)
    rw [e1, h p hp] at hr
    cases hr
  le := fun p hp k r hr => by rw [h p hp] at hr; cases hr
  chn := trivial
  l0 := by decide
  lt := by decide

/-- all that holds of a log, its cell, and what the device's sectors say; N: more than each of its numbers -/
structure Good (S : Nat → List UInt8) (N : Int) (first n a b : Nat) (c : Cl) (L : Lg) : Prop where
  ring : Ring S first n L
  cell : c = found (rdS (S a)) (rdS (S b))
  text : c.text = txtL L.head L.time L.least
  gen : c.gen ≤ N
  tail : L.tail ≤ N
  time : L.time ≤ N

theorem Good.inT {S : Nat → List UInt8} {N : Int} {first n a b : Nat} {c : Cl} {L : Lg} (h : Good S N first n a b c L) (hN : N ≤ 4611686018427387904) : InT L.head L.time L.least := by
  have h1 := h.ring.h1
  have h2 := h.ring.l0
  have h3 := h.ring.lt
  have h4 := h.tail
  have h5 := h.time
  unfold Lg.tail at h4
  exact ⟨⟨by omega, by omega⟩, ⟨by omega, by omega⟩, by omega, by omega⟩
theorem Good.rdX {S : Nat → List UInt8} {N : Int} {first n a b : Nat} {c : Cl} {L : Lg} (h : Good S N first n a b c L) (hN : N ≤ 4611686018427387904) : M.rdX c.text.data.toList = (L.head, L.time, L.least) := by
  rw [h.text]; exact rdX_txt (h.inT hN)
end M
end Go.Proofs.YtmcalgnpinolmaaGreat
