/-
  Plain mathematics of a device: sectors' bytes, what is pending, dead or not, its fuse; what each act makes of it.
-/
set_option linter.unusedVariables false
namespace Go.Proofs.YtpoolpckabpnfaaGreat
namespace M

abbrev Sec := List UInt8
def zero : Sec := List.replicate 144 0
def pad (b : List UInt8) : Sec := b ++ List.replicate (144 - b.length) 0

structure Dv where
  S : Nat → Sec
  P : Int → Option Sec
  dead : Bool
  fuse : Int

structure Wf (n : Nat) (d : Dv) : Prop where
  len : ∀ i, (d.S i).length = 144
  pend : ∀ k s, d.P k = some s → 0 ≤ k ∧ k < (n : Int) ∧ s.length = 144
  lo : -9223372036854775808 ≤ d.fuse
  hi : d.fuse ≤ 9223372036854775807

theorem zero_len : zero.length = 144 := List.length_replicate
theorem pad_len {b : List UInt8} (h : b.length ≤ 144) : (pad b).length = 144 := by
  unfold pad; rw [List.length_append, List.length_replicate]; omega

def fresh : Dv := ⟨fun _ => zero, fun _ => none, false, -1⟩
theorem fresh_wf (n : Nat) : Wf n fresh := ⟨fun _ => zero_len, fun _ _ h => by simp [fresh] at h, by simp [fresh], by simp [fresh]⟩

def reach (n : Nat) (d : Dv) (i : Int) : Int := if d.dead then 30 else if i < 0 ∨ (n : Int) ≤ i then 2 else 0

/-- an act: what it tells, what becomes of the device -/
def actE (d : Dv) : Int := if d.fuse = 0 then 30 else 0
def actD (d : Dv) : Dv := if d.fuse = 0 then { d with dead := true } else if 0 < d.fuse then { d with fuse := d.fuse - 1 } else d

def upd (P : Int → Option Sec) (i : Int) (s : Sec) : Int → Option Sec := fun k => if k = i then some s else P k

def writeE (n : Nat) (d : Dv) (i : Int) (b : List UInt8) : Int := if reach n d i = 0 then (if 144 < b.length then 3 else actE d) else reach n d i
def writeD (n : Nat) (d : Dv) (i : Int) (b : List UInt8) : Dv :=
  if reach n d i = 0 then (if 144 < b.length then d else if d.fuse = 0 then actD d else { actD d with P := upd d.P i (pad b) }) else d

def barrierE (d : Dv) : Int := if d.dead then 30 else actE d
def sure (d : Dv) : Nat → Sec := fun i => (d.P i).getD (d.S i)
def barrierD (d : Dv) : Dv := if d.dead then d else if d.fuse = 0 then actD d else { actD d with S := sure d, P := fun _ => none }

def keptN (how k : Int) : Nat := if how = 1 then 144 else if how = 2 then (min (max k 0) 144).toNat else 0
theorem keptN_le (how k : Int) : keptN how k ≤ 144 := by
  unfold keptN; repeat' split
  all_goals omega

def mix (s b : Sec) (k : Nat) : Sec := s.take k ++ b.drop k
theorem mix_len {s b : Sec} {k : Nat} (hs : s.length = 144) (hb : b.length = 144) (hk : k ≤ 144) : (mix s b k).length = 144 := by
  unfold mix; rw [List.length_append, List.length_take, List.length_drop]; omega
theorem mix_zero (s b : Sec) : mix s b 0 = b := by simp [mix]
theorem mix_get {s b : Sec} {k : Nat} (hs : s.length = 144) (hb : b.length = 144) (hk : k ≤ 144) (j : Nat) : (mix s b k)[j]? = if j < k then s[j]? else b[j]? := by
  unfold mix
  by_cases h : j < k
  · rw [if_pos h, List.getElem?_append_left (by rw [List.length_take]; omega), List.getElem?_take_of_lt h]
  · rw [if_neg h, List.getElem?_append_right (by rw [List.length_take]; omega), List.length_take, List.getElem?_drop, show k + (j - min k s.length) = j by omega]

/-- which sectors have something pending, rising -/
def pendL (n : Nat) (P : Int → Option Sec) : List Int := ((List.range n).map Int.ofNat).filter fun k => (P k).isSome

theorem mem_pendL {n : Nat} {P : Int → Option Sec} (h : ∀ k s, P k = some s → 0 ≤ k ∧ k < (n : Int)) (k : Int) : k ∈ pendL n P ↔ (P k).isSome = true := by
  unfold pendL
  rw [List.mem_filter, List.mem_map]
  constructor
  · exact fun h => h.2
  · intro hk
    refine ⟨?_, hk⟩
    obtain ⟨s, hs⟩ := Option.isSome_iff_exists.1 hk
    have := h k s hs
    exact ⟨k.toNat, List.mem_range.2 (by omega), by show ((k.toNat : Nat) : Int) = k; omega⟩

theorem range_rising : ∀ n : Nat, ((List.range n).map Int.ofNat).Pairwise (· < ·) := by
  intro n
  rw [List.pairwise_map]
  exact List.pairwise_lt_range.imp fun h => Int.ofNat_lt.2 h

theorem pendL_rising (n : Nat) (P : Int → Option Sec) : (pendL n P).Pairwise (· < ·) := (range_rising n).filter _

theorem pendL_len (n : Nat) (P : Int → Option Sec) : (pendL n P).length ≤ n := by
  unfold pendL
  refine Nat.le_trans (List.length_filter_le _ _) ?_
  simp

/-- two rising lists of the same members are one -/
theorem rising_eq : ∀ {l m : List Int}, l.Pairwise (· < ·) → m.Pairwise (· < ·) → (∀ x, x ∈ l ↔ x ∈ m) → l = m
  | [], [], _, _, _ => rfl
  | [], y :: m, _, _, h => by have := (h y).2 (by simp); simp at this
  | x :: l, [], _, _, h => by have := (h x).1 (by simp); simp at this
  | x :: l, y :: m, hl, hm, h => by
    obtain ⟨h1, h2⟩ := List.pairwise_cons.1 hl
    obtain ⟨h3, h4⟩ := List.pairwise_cons.1 hm
    have hx := (h x).1 (by simp)
    have hy := (h y).2 (by simp)
    have e : x = y := by
      rcases List.mem_cons.1 hx with e | hx
      · exact e
      · rcases List.mem_cons.1 hy with e | hy
        · exact e.symm
        · have := h3 x hx; have := h1 y hy; omega
    subst e
    rw [rising_eq h2 h4 fun z => ?_]
    constructor
    · intro hz
      rcases List.mem_cons.1 ((h z).1 (List.mem_cons_of_mem _ hz)) with e | hz'
      · have := h1 z hz; omega
      · exact hz'
    · intro hz
      rcases List.mem_cons.1 ((h z).2 (List.mem_cons_of_mem _ hz)) with e | hz'
      · have := h3 z hz; omega
      · exact hz'

/-- what a crash leaves in the sectors: l's first says it of the first pending one, and so on -/
def crashS (P : Int → Option Sec) : (Nat → Sec) → List Int → List (Int × Int) → Nat → Sec
  | S, i :: r, k :: l => crashS P (fun j => if (j : Int) = i then mix ((P i).getD (S j)) (S j) (keptN k.1 k.2) else S j) r l
  | S, _, _ => S

def crashD (n : Nat) (d : Dv) (l : List (Int × Int)) : Dv := ⟨crashS d.P d.S (pendL n d.P) l, fun _ => none, false, -1⟩
def loseD : Dv := fresh
def fuseD (d : Dv) (k : Int) : Dv := { d with fuse := k }

theorem crashS_out (P : Int → Option Sec) : ∀ (r : List Int) (l : List (Int × Int)) (S : Nat → Sec) (j : Nat), (j : Int) ∉ r → crashS P S r l j = S j
  | [], _, _, _, _ => by simp [crashS]
  | i :: r, [], _, _, _ => by simp [crashS]
  | i :: r, k :: l, S, j, h => by
    simp only [crashS]
    rw [crashS_out P r l _ j fun h' => h (List.mem_cons_of_mem _ h'), if_neg (fun e => h (by rw [e]; exact List.mem_cons_self))]

theorem crashS_in (P : Int → Option Sec) : ∀ (r : List Int) (l : List (Int × Int)) (S : Nat → Sec) (j : Nat), r.Pairwise (· < ·) → ∃ k, k ≤ 144 ∧ crashS P S r l j = mix ((P j).getD (S j)) (S j) k
  | [], _, S, _, _ => ⟨0, by omega, by simp [crashS, mix_zero]⟩
  | i :: r, [], S, _, _ => ⟨0, by omega, by simp [crashS, mix_zero]⟩
  | i :: r, k :: l, S, j, h => by
    obtain ⟨h1, h2⟩ := List.pairwise_cons.1 h
    simp only [crashS]
    by_cases e : (j : Int) = i
    · rw [crashS_out P r l _ j fun h' => by have := h1 _ h'; omega, if_pos e]
      exact ⟨keptN k.1 k.2, keptN_le _ _, by rw [e]⟩
    · obtain ⟨m, hm, hq⟩ := crashS_in P r l (fun j => if (j : Int) = i then mix ((P i).getD (S j)) (S j) (keptN k.1 k.2) else S j) j h2
      exact ⟨m, hm, by rw [hq, if_neg e]⟩

theorem act_wf {n : Nat} {d : Dv} (h : Wf n d) : Wf n (actD d) := by
  obtain ⟨h1, h2, h3, h4⟩ := h
  unfold actD
  split
  · exact ⟨h1, h2, h3, h4⟩
  · split
    · exact ⟨h1, h2, by show -9223372036854775808 ≤ d.fuse - 1; omega, by show d.fuse - 1 ≤ 9223372036854775807; omega⟩
    · exact ⟨h1, h2, h3, h4⟩

theorem act_S (d : Dv) : (actD d).S = d.S := by
  unfold actD; repeat' split
  all_goals rfl
theorem act_P (d : Dv) : (actD d).P = d.P := by
  unfold actD; repeat' split
  all_goals rfl

theorem write_wf {n : Nat} {d : Dv} (h : Wf n d) (i : Int) (b : List UInt8) : Wf n (writeD n d i b) := by
  unfold writeD
  split
  · rename_i hr
    split
    · exact h
    · split
      · exact act_wf h
      · obtain ⟨h1, h2, h3, h4⟩ := act_wf h
        refine ⟨h1, fun k s hk => ?_, h3, h4⟩
        simp only [upd] at hk
        split at hk
        · rename_i e
          subst e
          injection hk with hk
          subst hk
          unfold reach at hr
          split at hr
          · omega
          · split at hr
            · omega
            · exact ⟨by omega, by omega, pad_len (by omega)⟩
        · exact h.pend k s hk
  · exact h

theorem sure_len {n : Nat} {d : Dv} (h : Wf n d) (i : Nat) : (sure d i).length = 144 := by
  unfold sure
  cases hp : d.P i with
  | none => exact h.len i
  | some s => exact (h.pend _ _ hp).2.2

theorem barrier_wf {n : Nat} {d : Dv} (h : Wf n d) : Wf n (barrierD d) := by
  unfold barrierD
  split
  · exact h
  · split
    · exact act_wf h
    · obtain ⟨h1, h2, h3, h4⟩ := act_wf h
      exact ⟨fun i => sure_len h i, fun k s hk => by simp at hk, h3, h4⟩

theorem crash_len {n : Nat} {d : Dv} (h : Wf n d) (l : List (Int × Int)) (i : Nat) : (crashS d.P d.S (pendL n d.P) l i).length = 144 := by
  obtain ⟨k, hk, hq⟩ := crashS_in d.P (pendL n d.P) l d.S i (pendL_rising n d.P)
  rw [hq]
  exact mix_len (sure_len h i) (h.len i) hk

theorem crash_wf {n : Nat} {d : Dv} (h : Wf n d) (l : List (Int × Int)) : Wf n (crashD n d l) :=
  ⟨fun i => crash_len h l i, fun k s hk => by simp [crashD] at hk, by simp [crashD], by simp [crashD]⟩

theorem fuse_wf {n : Nat} {d : Dv} (h : Wf n d) {k : Int} (h1 : -9223372036854775808 ≤ k) (h2 : k ≤ 9223372036854775807) : Wf n (fuseD d k) := ⟨h.len, h.pend, h1, h2⟩

end M
end Go.Proofs.YtpoolpckabpnfaaGreat
