/-
  What a crash leaves of a log, whatever stays of what was pending.
  A cache's log on a device whose power may go: what is sure, what a crash leaves.
  A record comes, where the power may go.
  Room is made, where the power may go.
  Room is made, records are brought, where the power may go.
-/
import Derived.Test.YtmcalgnpinolmaaGreatQC
namespace Go.Proofs.YtmcalgnpinolmaaGreat
set_option linter.unusedVariables false
set_option linter.unusedSimpArgs false
namespace M
/-- the first records of a log -/
def Lg.pre (L : Lg) (m : Nat) : Lg := { L with rs := L.rs.take m }
theorem pre_all (L : Lg) : L.pre L.rs.length = L := by unfold Lg.pre; rw [List.take_length]
theorem pre_len {L : Lg} {m : Nat} (h : m ≤ L.rs.length) : (L.pre m).rs.length = m := by simp [Lg.pre]; omega
theorem pre_add {L : Lg} {m : Nat} (h : m ≤ L.rs.length) (s : ByteArray) : (L.add s).pre m = L.pre m := by
  unfold Lg.pre Lg.add
  simp only
  rw [List.take_append_of_le_length h]

/-- up to m the records are sure -/
structure Tip (S0 : Nat → List UInt8) (first n : Nat) (L : Lg) (m : Nat) : Prop where
  le : m ≤ L.rs.length
  base : Ring S0 first n (L.pre m)
  tm : ∀ i r, m ≤ i → L.rs[i]? = some r → r.time = L.time

theorem Tip.all {S : Nat → List UInt8} {first n : Nat} {L : Lg} (h : Ring S first n L) : Tip S first n L L.rs.length :=
  ⟨Nat.le_refl _, by rw [pre_all]; exact h, fun i r h1 h2 => by have := (List.getElem?_eq_some_iff.1 h2).1; omega⟩
theorem Tip.add {S0 : Nat → List UInt8} {first n : Nat} {L : Lg} {m : Nat} (h : Tip S0 first n L m) (s : ByteArray) : Tip S0 first n (L.add s) m := by
  refine ⟨by have := h.le; simp [Lg.add]; omega, by rw [pre_add h.le]; exact h.base, fun i r h1 h2 => ?_⟩
  simp only [Lg.add] at h2 ⊢
  by_cases hi : i < L.rs.length
  · rw [List.getElem?_append_left hi] at h2
    exact h.tm i r h1 h2
  · rw [List.getElem?_append_right (by omega)] at h2
    have hi2 : i - L.rs.length = 0 := by
      have := (List.getElem?_eq_some_iff.1 h2).1
      simp at this; omega
    rw [hi2] at h2
    simp at h2
    rw [← h2]

theorem first_not {A B : Nat → Prop} (h : ∀ i, A i ∨ B i) {m l : Nat} (hm : m ≤ l) : ∃ q, m ≤ q ∧ q ≤ l ∧ (∀ i, m ≤ i → i < q → A i) ∧ (q = l ∨ B q) := by
  induction hl : l - m generalizing m with
  | zero => exact ⟨m, Nat.le_refl _, hm, fun i h1 h2 => by omega, .inl (by omega)⟩
  | succ k ih =>
    rcases h m with ha | hb
    · obtain ⟨q, h1, h2, h3, h4⟩ := ih (m := m + 1) (by omega) (by omega)
      refine ⟨q, by omega, h2, fun i h5 h6 => ?_, h4⟩
      by_cases e : i = m
      · rw [e]; exact ha
      · exact h3 i (by omega) h6
    · exact ⟨m, Nat.le_refl _, hm, fun i h1 h2 => by omega, .inr hb⟩

theorem Tip.crash {S0 S S2 : Nat → List UInt8} {first n : Nat} {L : Lg} {m : Nat} (h : Tip S0 first n L m) (hr : Ring S first n L) (h2 : ∀ j, S2 j = S0 j ∨ S2 j = S j) :
    ∃ q, m ≤ q ∧ q ≤ L.rs.length ∧ RingO S2 first n (L.pre q) := by
  obtain ⟨q, q1, q2, q3, q4⟩ := first_not (A := fun i : Nat => S2 (place first n (L.head + (i : Int))) = S (place first n (L.head + (i : Int)))) (B := fun i : Nat => S2 (place first n (L.head + (i : Int))) = S0 (place first n (L.head + (i : Int)))) (fun i => (h2 _).symm) h.le
  have hlast : ∀ g, m < g → g ≤ L.rs.length → lastT L.least (L.rs.take g) = L.time := fun g h1 h2 => by
    obtain ⟨r, hr⟩ : ∃ r, L.rs[g - 1]? = some r := ⟨_, List.getElem?_eq_getElem (by omega)⟩
    have := lastT_take (l := L.least) hr
    rw [show g - 1 + 1 = g by omega] at this
    rw [this, h.tm _ r (by omega) hr]
  have hlen := hr.len
  have hb := h.base
  have hm := h.le
  have key : q < n → ∀ k r, rdL (S0 (place first n (L.head + (q : Int)))) = some (k, r) → k = L.head + (q : Int) → r.time < lastT L.least (L.rs.take q) := fun hq k r hk he => by
    by_cases e : q = m
    · subst e
      have := hb.stop (by rw [pre_len hm]; exact hq) k r
      rw [pre_len hm] at this
      exact this hk he
    · obtain ⟨p, hp, e1⟩ := place_lt (first := first) (Nat.lt_of_lt_of_le Nat.zero_lt_one hr.n1) (L.head + (q : Int))
      rw [e1] at hk
      have h3 := hb.old p hp k r hk
      rw [pre_len hm] at h3
      rw [hlast q (by omega) q2]
      rcases h3 with h3 | h3
      · have : (L.pre m).head = L.head := rfl
        omega
      · exact h3
  refine ⟨q, q1, q2, hr.n1, hr.h1, by rw [pre_len q2]; omega, fun i r hi => ?_, fun hl k r hk he => ?_, fun p hp k r hk => ?_, hr.chn.take q, hr.l0, hr.lt⟩
  · have hiq : i < q := by have := (List.getElem?_eq_some_iff.1 hi).1; rw [pre_len q2] at this; exact this
    have hi2 : L.rs[i]? = some r := by
      have h5 : (L.rs.take q)[i]? = some r := hi
      rw [List.getElem?_take_of_lt hiq] at h5
      exact h5
    show rdL (S2 (place first n (L.head + (i : Int)))) = some (L.head + (i : Int), r)
    by_cases him : i < m
    · have h5 := hb.has i r (by show (L.rs.take m)[i]? = some r; rw [List.getElem?_take_of_lt him]; exact hi2)
      rcases h2 (place first n (L.head + (i : Int))) with e | e
      · rw [e]; exact h5
      · rw [e]; exact hr.has i r hi2
    · rw [q3 i (by omega) hiq]; exact hr.has i r hi2
  · rw [pre_len q2] at hl hk he
    show r.time < lastT L.least (L.rs.take q)
    have hk2 : rdL (S2 (place first n (L.head + (q : Int)))) = some (k, r) := hk
    rcases q4 with q4 | q4
    · rcases h2 (place first n (L.head + (q : Int))) with e | e
      · rw [e] at hk2; exact key hl k r hk2 he
      · rw [e] at hk2
        subst q4
        rw [List.take_length]
        exact hr.stop hl k r hk2 he
    · rw [q4] at hk2; exact key hl k r hk2 he
  · rcases h2 (first + p) with e | e
    · rw [e] at hk; exact hb.le p hp k r hk
    · rw [e] at hk; exact hr.le p hp k r hk

/-! what a device with a fuse does -/
theorem write_ways {d : Dv} {n i : Nat} {l : List UInt8} (hi : i < n) (hl : l.length ≤ 144) :
    (d.dead = false ∧ writeE n d i l = 0 ∧ (writeD n d i l).dead = false ∧ (writeD n d i l).S = d.S ∧ (writeD n d i l).P = upd d.P i (pad l)) ∨
    (writeE n d i l = 30 ∧ (writeD n d i l).dead = true ∧ (writeD n d i l).S = d.S ∧ (writeD n d i l).P = d.P) := by
  unfold writeE writeD
  cases hd : d.dead with
  | true =>
    have hr : reach n d (i : Int) = 30 := by unfold reach; rw [hd, if_pos rfl]
    right
    rw [hr, if_neg (by decide), if_neg (by decide)]
    exact ⟨rfl, hd, rfl, rfl⟩
  | false =>
    have hr : reach n d (i : Int) = 0 := by unfold reach; rw [hd, if_neg (by simp), if_neg (by omega)]
    rw [hr, if_pos rfl, if_pos rfl, if_neg (by omega), if_neg (by omega)]
    unfold actE
    by_cases hf : d.fuse = 0
    · right
      rw [if_pos hf, if_pos hf]
      refine ⟨rfl, ?_, act_S d, act_P d⟩
      unfold actD; rw [if_pos hf]
    · left
      rw [if_neg hf, if_neg hf]
      refine ⟨rfl, rfl, ?_, ?_, rfl⟩
      · show (actD d).dead = false
        unfold actD; rw [if_neg hf]; split <;> exact hd
      · exact act_S d
theorem barrier_ways (d : Dv) :
    (d.dead = false ∧ barrierE d = 0 ∧ (barrierD d).dead = false ∧ (∀ j, (barrierD d).S j = seen d j) ∧ (∀ k, (barrierD d).P k = none)) ∨
    (barrierE d = 30 ∧ (barrierD d).dead = true ∧ (barrierD d).S = d.S ∧ (barrierD d).P = d.P) := by
  by_cases hd : d.dead = true
  · have e1 : barrierE d = 30 := by unfold barrierE; rw [if_pos hd]
    have e2 : barrierD d = d := by unfold barrierD; rw [if_pos hd]
    right
    rw [e1, e2]
    exact ⟨rfl, hd, rfl, rfl⟩
  · by_cases hf : d.fuse = 0
    · have e1 : barrierE d = 30 := by unfold barrierE actE; rw [if_neg hd, if_pos hf]
      have e2 : barrierD d = actD d := by unfold barrierD; rw [if_neg hd, if_pos hf]
      right
      rw [e1, e2]
      exact ⟨rfl, by unfold actD; rw [if_pos hf], act_S d, act_P d⟩
    · have e1 : barrierE d = 0 := by unfold barrierE actE; rw [if_neg hd, if_neg hf]
      have e2 : barrierD d = { actD d with S := sure d, P := fun _ => none } := by unfold barrierD; rw [if_neg hd, if_neg hf]
      left
      rw [e1, e2]
      refine ⟨by simpa using hd, rfl, ?_, fun j => rfl, fun k => rfl⟩
      show (actD d).dead = false
      unfold actD; rw [if_neg hf]; split <;> simpa using hd

/-- how the sectors may be when the power comes again -/
def Two (d : Dv) (S2 : Nat → List UInt8) : Prop := ∀ j : Nat, S2 j = d.S j ∨ S2 j = seen d j
theorem crash_two (P : Int → Option Sec) : ∀ (r : List Int) (l : List (Int × Int)) (S : Nat → Sec) (j : Nat), r.Pairwise (· < ·) → (∀ x ∈ l, x.1 = 0 ∨ x.1 = 1) → (∀ i s, P i = some s → s.length = 144) → (S j).length = 144 → crashS P S r l j = S j ∨ crashS P S r l j = (P j).getD (S j)
  | [], _, S, _, _, _, _, _ => .inl rfl
  | i :: r, [], S, _, _, _, _, _ => .inl rfl
  | i :: r, k :: l, S, j, h, hl, hP, hS => by
    obtain ⟨h1, h2⟩ := List.pairwise_cons.1 h
    simp only [crashS]
    by_cases e : (j : Int) = i
    · rw [crashS_out P r l _ j fun h' => by have := h1 _ h'; omega, if_pos e]
      have hg : ((P i).getD (S j)).length = 144 := by
        cases hp : P i with
        | none => simpa using hS
        | some s => simpa using hP i s hp
      rcases hl k (by simp) with h0 | h0
      · left
        rw [show keptN k.1 k.2 = 0 by unfold keptN; rw [h0]; rfl]
        exact mix_zero _ _
      · right
        rw [show keptN k.1 k.2 = 144 by unfold keptN; rw [h0]; rfl, e]
        unfold mix
        rw [List.take_of_length_le (by omega), List.drop_of_length_le (by omega), List.append_nil]
    · have := crash_two P r l (fun j => if (j : Int) = i then mix ((P i).getD (S j)) (S j) (keptN k.1 k.2) else S j) j h2 (fun x hx => hl x (List.mem_cons_of_mem _ hx)) hP (by rw [if_neg e]; exact hS)
      rwa [if_neg e] at this
theorem Two.crash {n : Nat} {d : Dv} (h : Wf n d) {l : List (Int × Int)} (hl : ∀ x ∈ l, x.1 = 0 ∨ x.1 = 1) : Two d (crashD n d l).S := fun j =>
  crash_two d.P (pendL n d.P) l d.S j (pendL_rising _ _) hl (fun i s hs => (h.pend i s hs).2.2) (h.len j)
theorem crash_seen (n : Nat) (d : Dv) (l : List (Int × Int)) (j : Nat) : seen (crashD n d l) j = (crashD n d l).S j := rfl
end M
end Go.Proofs.YtmcalgnpinolmaaGreat
namespace Go.Proofs.YtmcalgnpinolmaaGreat
open Go.RowKit Go.Maps
set_option linter.unusedVariables false
set_option linter.unusedSimpArgs false
set_option maxRecDepth 20000
namespace Q
variable {B : Bk} {G : Gm} {s : St} {P P' : Vi → Prop} {K : Int} {d d' : M.Dv} {L : M.Lg} {c : M.Cl}

/-- how long a log may be when an act is over: one more record only where the first one may go -/
def LenOk (N : Nat) (L : M.Lg) (E : Mp) : Prop := L.rs.length ≤ N - 2 ∨ (L.rs.length = N - 1 ∧ ∀ b x, E b = some x → x.pos ≠ L.head)
def Pre (G : Gm) (P : Vi → Prop) (L : M.Lg) : Prop := ∃ E k, Hold G.nb G.N L E k ∧ LenOk G.N L E ∧ P ⟨vis E, k⟩
theorem Pre.mono (h : Pre G P L) (hp : ∀ v, P v → P' v) : Pre G P' L := by
  obtain ⟨E, k, h1, h2, h3⟩ := h
  exact ⟨E, k, h1, h2, hp _ h3⟩

/-- what is left when the power comes again -/
structure Left (G : Gm) (P : Vi → Prop) (K : Int) (S2 : Nat → List UInt8) (c : M.Cl) (L : M.Lg) : Prop where
  ring : M.RingO S2 G.first G.N L
  cell : c = M.found (M.rdS (S2 G.a)) (M.rdS (S2 G.b))
  text : c.text = M.txtL L.head L.time L.least
  gen : c.gen ≤ K
  tail : L.tail ≤ K
  time : L.time ≤ K
  pre : Pre G P L
def Cr (G : Gm) (P : Vi → Prop) (K : Int) (d : M.Dv) : Prop := ∀ S2, M.Two d S2 → ∃ c L, Left G P K S2 c L
theorem Cr.mono (h : Cr G P K d) {K' : Int} (hk : K ≤ K') (hp : ∀ v, P v → P' v) : Cr G P' K' d := fun S2 h2 => by
  obtain ⟨c, L, g⟩ := h S2 h2
  exact ⟨c, L, g.ring, g.cell, g.text, by have := g.gen; omega, by have := g.tail; omega, by have := g.time; omega, g.pre.mono hp⟩
theorem Cr.dev (h : Cr G P K d) (hS : d'.S = d.S) (hP : d'.P = d.P) : Cr G P K d' := fun S2 h2 => h S2 fun j => by
  have := h2 j
  unfold M.seen at this ⊢
  rw [hS, hP] at this
  exact this

/-- a device with the power on -/
structure Al (G : Gm) (P : Vi → Prop) (d : M.Dv) (L : M.Lg) : Prop where
  dead : d.dead = false
  cl : ∀ j : Nat, j = G.a ∨ j = G.b → d.S j = M.seen d j
  tip : ∃ m, M.Tip d.S G.first G.N L m ∧ ∀ q, m ≤ q → q ≤ L.rs.length → Pre G P (L.pre q)
theorem Al.mono (h : Al G P d L) (hp : ∀ v, P v → P' v) : Al G P' d L := by
  obtain ⟨h1, h2, m, h3, h4⟩ := h
  exact ⟨h1, h2, m, h3, fun q q1 q2 => (h4 q q1 q2).mono hp⟩
theorem Al.cr (h : Al G P d L) (hg : M.Good (M.seen d) K G.first G.N G.a G.b c L) : Cr G P K d := fun S2 h2 => by
  obtain ⟨m, ht, hp⟩ := h.tip
  obtain ⟨q, q1, q2, hr⟩ := ht.crash hg.ring h2
  have hab : ∀ j : Nat, j = G.a ∨ j = G.b → S2 j = M.seen d j := fun j hj => by
    rcases h2 j with e | e
    · rw [e, h.cl j hj]
    · exact e
  refine ⟨c, L.pre q, hr, by rw [hab _ (.inl rfl), hab _ (.inr rfl)]; exact hg.cell, hg.text, hg.gen, ?_, hg.time, hp q q1 q2⟩
  have := hg.tail
  unfold M.Lg.tail at *
  rw [M.pre_len q2]
  show L.head + _ ≤ K
  omega
theorem Al.sure (h1 : d'.dead = false) (h2 : ∀ j : Nat, d'.S j = M.seen d j) (h3 : ∀ k, d'.P k = none) (hr : M.Ring (M.seen d) G.first G.N L) (hp : Pre G P L) : Al G P d' L := by
  have e : d'.S = M.seen d := funext h2
  refine ⟨h1, fun j _ => by unfold M.seen; rw [h3]; rfl, L.rs.length, by rw [e]; exact M.Tip.all hr, fun q q1 q2 => ?_⟩
  obtain rfl : q = L.rs.length := Nat.le_antisymm q2 q1
  rw [M.pre_all]; exact hp
theorem seen_none (h3 : ∀ k, d.P k = none) (j : Nat) : M.seen d j = d.S j := by unfold M.seen; rw [h3]; rfl
theorem seen_upd {i : Nat} {l : List UInt8} (hS : d'.S = d.S) (hP : d'.P = M.upd d.P i l) (j : Nat) : M.seen d' j = if j = i then l else M.seen d j := by
  unfold M.seen
  rw [hS, hP]
  unfold M.upd
  by_cases e : j = i
  · subst e; rw [if_pos rfl, if_pos rfl]; rfl
  · rw [if_neg e, if_neg (by omega)]
theorem Al.add (h : Al G P d L) {i : Nat} {l : List UInt8} {tx : ByteArray} (h1 : d'.dead = false) (hS : d'.S = d.S) (hP : d'.P = M.upd d.P i l) (ha : G.a ≠ i) (hb : G.b ≠ i) (hp : ∀ v, P v → P' v) (hn : Pre G P' (L.add tx)) : Al G P' d' (L.add tx) := by
  obtain ⟨_, h2, m, h3, h4⟩ := h
  refine ⟨h1, fun j hj => ?_, m, by rw [hS]; exact h3.add tx, fun q q1 q2 => ?_⟩
  · rw [seen_upd hS hP, if_neg (by rcases hj with rfl | rfl <;> assumption), hS]; exact h2 j hj
  · by_cases e : q ≤ L.rs.length
    · rw [M.pre_add e]; exact (h4 q q1 e).mono hp
    · have e2 : q = (L.add tx).rs.length := by simp [M.Lg.add] at q2 ⊢; omega
      rw [e2, M.pre_all]; exact hn

/-- a cache, its device with whatever fuse, or dead -/
structure CX (w : World) (B : Bk) (G : Gm) (P : Vi → Prop) (s : St) (d : M.Dv) : Prop where
  dv : DevAt w B.dB B.sB B.mB G.n d
  lg : LG w B.dB B.sB B.mB G.n s.d B.lB B.rb B.cB G.first G.N G.a G.b s.c s.L s.K
  qc : CacheC w B.qB B.lB G.N G.nb B.mE s.k
  mp : MapQ w B.mE s.E
  sp : Sep B
  hd : Hold G.nb G.N s.L s.E s.k
  st : (d = s.d ∧ Al G P s.d s.L) ∨ (d.dead = true ∧ Cr G P s.K d)

theorem CX.lt {w : World} (h : CX w B G P s d) : ∀ x ∈ B.l, x < w.heap.size := by
  have h1 := h.dv.ltD
  have h2 := h.dv.lt
  have h3 := h.dv.pend.lt
  have h4 := h.lg.la.lt
  have h5 := h.lg.ca.lt
  have h6 := h.qc.lt
  have h7 := h.mp.lt
  intro x hx
  simp only [Bk.l, List.mem_cons, List.not_mem_nil, or_false] at hx
  rcases hx with rfl | rfl | rfl | rfl | rfl | rfl | rfl | rfl <;> omega
theorem CX.but {w w' : World} (h : CX w B G P s d) {q : List Nat} (hb : But q w w') (hq : ∀ x ∈ B.l, x ∉ q) : CX w' B G P s d := by
  have m : ∀ {x}, x ∈ B.l → x ∉ q := fun {x} hx => hq x hx
  exact ⟨h.dv.but hb (m (by simp [Bk.l])) (m (by simp [Bk.l])) (m (by simp [Bk.l])), h.lg.but hb (m (by simp [Bk.l])) (m (by simp [Bk.l])) (m (by simp [Bk.l])), h.qc.but hb (m (by simp [Bk.l])), h.mp.but hb (m (by simp [Bk.l])), h.sp, h.hd, h.st⟩
theorem CX.below {w w' : World} (h : CX w B G P s d) (hb : Below w.heap.size w w') : CX w' B G P s d := h.but (But.of_below hb) (by simp)
theorem CX.cr {w : World} (h : CX w B G P s d) : Cr G P s.K d := by
  rcases h.st with ⟨e, h1⟩ | ⟨_, h1⟩
  · rw [e]; exact h1.cr h.lg.gd
  · exact h1
theorem CX.mono {w : World} (h : CX w B G P s d) (hp : ∀ v, P v → P' v) : CX w B G P' s d :=
  ⟨h.dv, h.lg, h.qc, h.mp, h.sp, h.hd, h.st.imp (fun z => ⟨z.1, z.2.mono hp⟩) (fun z => ⟨z.1, z.2.mono (Int.le_refl _) hp⟩)⟩
theorem CX.alive {w : World} (h : CX w B G P s d) (hd : d.dead = false) : d = s.d ∧ Al G P s.d s.L := by
  rcases h.st with z | ⟨z, _⟩
  · exact z
  · rw [hd] at z; cases z

theorem append_x (w : World) (h : CX w B G P s d) (hK : s.K ≤ 1000000000) (tx : ByteArray) (hsz : tx.size ≤ 110) (hroom : s.L.rs.length < G.N) (hp : ∀ v, P v → P' v) (hn : Pre G P' (s.L.add tx)) :
    Calls Tryz.prog 101 #[.pointer (some ⟨B.lB, 0, none⟩), .string tx] w fun e w' => ∃ (x : Int) (r : Nat) (d' : M.Dv), e = .returned (.int .i64 x) ∧ DevAt w' B.dB B.sB B.mB G.n d' ∧ (r = B.rb ∨ w.heap.size ≤ r) ∧ But [B.dB, B.mB, B.lB, B.rb] w w' ∧
      ((x = 0 ∧ LG w' B.dB B.sB B.mB G.n d' B.lB r B.cB G.first G.N G.a G.b s.c (s.L.add tx) (s.K + 1) ∧ Al G P' d' (s.L.add tx)) ∨
       (x ≠ 0 ∧ LG w' B.dB B.sB B.mB G.n s.d B.lB r B.cB G.first G.N G.a G.b s.c s.L s.K ∧ d'.dead = true ∧ Cr G P s.K d')) := by
  have hg := h.lg
  have hin := hg.gd.inT (by omega)
  have hn5 := h.dv.n512
  have g1 := hg.geo.n2
  have g2 := hg.geo.fn
  have htl := hg.gd.tail
  obtain ⟨p, hpN, hpl⟩ := M.place_lt (first := G.first) (show 0 < G.N by omega) s.L.tail
  have hpn : M.place G.first G.N s.L.tail < G.n := by omega
  have hsp := hg.sp
  refine (append_any w h.dv s.L hg.la ⟨hsp.l1.1, hsp.l1.2.1, hsp.l1.2.2.1⟩ ⟨hsp.r1.1, hsp.r1.2.1, hsp.r1.2.2.1⟩ (by omega) (by omega) (by omega) hin hg.gd.ring.len (by omega) tx).mono ?_
  rintro e w' ⟨rfl, hd', rb', hla', hrb, hb⟩
  have hsp' : Apart B.dB B.sB B.mB B.lB rb' B.cB := ⟨hsp.c1, hsp.l1, by
    rcases hrb with z | z
    · rw [z]; exact hsp.r1
    · have := h.dv.ltD; have := h.dv.lt; have := h.dv.pend.lt; have := hg.ca.lt; omega⟩
  have hca' : CellAt w' B.cB B.dB G.a G.b s.c := hg.ca.but hb (by have := hsp.c1; have := hsp.l1; have := hsp.r1; simp; omega)
  have hm : M.MayL s.L.tail ⟨s.L.time, tx⟩ := ⟨by unfold C.M.fits; have := hin.1; unfold M.Lg.tail at *; omega, by unfold C.M.fits; have := hin.2.1; simp only; omega, hsz⟩
  have e1 : M.appE G.n d G.first G.N s.L tx = M.writeE G.n d (M.place G.first G.N s.L.tail) (M.secL s.L.tail ⟨s.L.time, tx⟩) := by unfold M.appE; rw [if_neg (by omega), if_neg (by omega)]
  have e2 : M.appD G.n d G.first G.N s.L tx = M.writeD G.n d (M.place G.first G.N s.L.tail) (M.secL s.L.tail ⟨s.L.time, tx⟩) := by unfold M.appD; rw [if_neg (by omega), if_neg (by omega)]
  rw [e1] at hla'
  rw [e2] at hd'
  rw [e1]
  rcases M.write_ways (d := d) (n := G.n) (l := M.secL s.L.tail ⟨s.L.time, tx⟩) hpn (by have := M.secL_small hm; omega) with ⟨z1, z2, z3, z4, z5⟩ | ⟨z2, z3, z4, z5⟩
  · obtain ⟨hds, hal⟩ := h.alive z1
    rw [z2, M.appL_ok] at hla'
    rw [z2]
    rw [hds] at hd' z3 z4 z5
    have hga : G.a ≠ M.place G.first G.N s.L.tail := by have := hg.geo.ar; omega
    have hgb : G.b ≠ M.place G.first G.N s.L.tail := by have := hg.geo.br; omega
    have hseen := seen_upd z4 z5
    refine ⟨0, rb', _, rfl, hd', hrb, hb, .inl ⟨rfl, ⟨hca', hla', hsp', ⟨hg.gd.ring.add hroom tx hm hseen, ?_, hg.gd.text, by have := hg.gd.gen; omega, by rw [M.add_tail]; omega, by have := hg.gd.time; show s.L.time ≤ s.K + 1; omega⟩, hg.geo⟩, hal.add z3 z4 z5 hga hgb hp hn⟩⟩
    rw [hseen, hseen, if_neg hga, if_neg hgb]
    exact hg.gd.cell
  · rw [z2, M.appL_no (by decide)] at hla'
    rw [z2]
    exact ⟨30, rb', _, rfl, hd', hrb, hb, .inr ⟨by decide, ⟨hca', hla', hsp', hg.gd, hg.geo⟩, z3, h.cr.dev z4 z5⟩⟩

set_option maxHeartbeats 1000000 in
theorem sync_x (w : World) (h : CX w B G P s d) (hn : Pre G P' s.L) :
    Calls Tryz.prog 54 #[.pointer (some ⟨B.lB, 0, none⟩)] w fun e w' => ∃ (x : Int) (d1 : M.Dv), e = .returned (.int .i64 x) ∧ But [B.dB, B.sB, B.mB] w w' ∧ ((x = 0 ∧ CX w' B G P' ⟨d1, s.c, s.L, s.E, s.k, s.K⟩ d1) ∨ (x ≠ 0 ∧ d1.dead = true ∧ CX w' B G P s d1)) := by
  obtain ⟨ra, cap, g, o, e, hra⟩ := h.lg.la
  refine (sync_any w h.dv g).mono ?_
  rintro e w' ⟨rfl, hd', hb⟩
  have h1 := h.lg.sp.c1
  have h2 := h.lg.sp.l1
  have h3 := h.lg.sp.r1
  have s1 := h.sp.q
  have s2 := h.sp.m
  have hlg := h.lg.but hb (by simp; omega) (by simp; omega) (by simp; omega)
  have hqc := h.qc.but hb (by simp; omega)
  have hmp := h.mp.but hb (by simp; omega)
  rcases M.barrier_ways d with ⟨z1, z2, z3, z4, z5⟩ | ⟨z2, z3, z4, z5⟩
  · obtain ⟨hds, hal⟩ := h.alive z1
    rw [z2]
    have hsn : ∀ j : Nat, M.seen (M.barrierD d) j = M.seen s.d j := fun j => by rw [seen_none z5, z4, hds]
    exact ⟨0, M.barrierD d, rfl, hb, .inl ⟨rfl, ⟨hd', hlg.dev (fun j _ => hsn j), hqc, hmp, h.sp, h.hd, .inl ⟨rfl, Al.sure z3 (fun j => by rw [z4, hds]) z5 h.lg.gd.ring hn⟩⟩⟩⟩
  · rw [z2]
    exact ⟨30, M.barrierD d, rfl, hb, .inr ⟨by decide, z3, ⟨hd', hlg, hqc, hmp, h.sp, h.hd, .inr ⟨z3, h.cr.dev z4 z5⟩⟩⟩⟩

/-- the cell's other slot, written -/
theorem found_slot {S : Nat → List UInt8} (hlen : ∀ j, (S j).length = 144) {n a b : Nat} (hab : a ≠ b) (ha : a < n) (hb : b < n) {t : ByteArray} (ht : t.size ≤ 100) (hc : c = M.found (M.rdS (S a)) (M.rdS (S b))) (hg : c.gen < 4611686018427387904)
    {S' : Nat → List UInt8} (hS : ∀ j, S' j = if j = M.pos c.o a b then M.pad (M.slot (c.gen + 1) t) else S j) : M.found (M.rdS (S' a)) (M.rdS (S' b)) = ⟨1 - c.o, c.gen + 1, t⟩ := by
  have ho := M.found_o (S a) (S b)
  have hg2 := M.found_gen (S a) (S b)
  rw [← hc] at ho hg2
  have hm : M.MayS (c.gen + 1) t := ⟨by omega, by omega, ht⟩
  have hf : Free (⟨S, fun _ => none, false, -1⟩ : M.Dv) := ⟨rfl, rfl⟩
  have hwf : M.Wf n (⟨S, fun _ => none, false, -1⟩ : M.Dv) := ⟨hlen, fun k s h => (by cases h), (by show (-9223372036854775808 : Int) ≤ -1; decide), (by show (-1 : Int) ≤ 9223372036854775807; decide)⟩
  have hp : M.pos c.o a b < n := by unfold M.pos; split <;> assumption
  have h1 := found_after hf hwf hab ha hb (t := t) ht (c := c) hc hg
  have h2 := (put_free hf hwf hp (l := M.slot (c.gen + 1) t) (by have := M.slot_small hm; omega)).2.2.2
  have e : ∀ j : Nat, M.seen (M.putD n (⟨S, fun _ => none, false, -1⟩ : M.Dv) (M.pos c.o a b) (M.slot (c.gen + 1) t)) j = S' j := fun j => by rw [h2 j, hS j]; rfl
  rwa [e, e] at h1

set_option maxHeartbeats 1000000 in
theorem trim_x (w : World) (h : CX w B G P s d) (hK : s.K ≤ 1000000000) (hg1 : 1 ≤ s.L.rs.length) (hcur : Pre G P s.L) (hn : Pre G P (s.L.cut 1)) (hh : Hold G.nb G.N (s.L.cut 1) s.E s.k) (x : Int) (hx : x = s.L.head + 1) :
    Calls Tryz.prog 126 #[.pointer (some ⟨B.lB, 0, none⟩), .int .i64 x] w fun e w' => ∃ (y : Int) (d1 : M.Dv) (c1 : M.Cl), e = .returned (.int .i64 y) ∧ But B.l w w' ∧ ((y = 0 ∧ CX w' B G P ⟨d1, c1, s.L.cut 1, s.E, s.k, s.K + 1⟩ d1) ∨ (y ≠ 0 ∧ d1.dead = true ∧ CX w' B G P ⟨s.d, s.c, s.L, s.E, s.k, s.K + 1⟩ d1)) := by
  subst hx
  have hg := h.lg
  have hin := hg.gd.inT (by omega)
  have hn5 := h.dv.n512
  have hgi := gen_in hg.gd
  have hgen := hg.gd.gen
  have hcut := hg.gd.ring.cut hg1
  have htl : (s.L.cut 1).tail = s.L.tail := M.cut_tail s.L hg1
  have htl2 := hg.gd.tail
  have hin2 : M.InT (s.L.cut 1).head (s.L.cut 1).time (s.L.cut 1).least := by
    have e1 := hcut.h1
    have e2 := hcut.l0
    have e3 := hcut.lt
    have e4 : (s.L.cut 1).head ≤ (s.L.cut 1).tail := by unfold M.Lg.tail; omega
    have e5 : (s.L.cut 1).time = s.L.time := rfl
    have e6 := hg.gd.time
    exact ⟨⟨by omega, by omega⟩, ⟨by omega, by omega⟩, by omega, by omega⟩
  have htx := M.txtL_size (s.L.cut 1).head (s.L.cut 1).time (s.L.cut 1).least
  have hpos : M.pos s.c.o G.a G.b < G.n := by have := hg.geo.an; have := hg.geo.bn; unfold M.pos; split <;> omega
  have hmay : M.MayS (s.c.gen + 1) (M.txtL (s.L.cut 1).head (s.L.cut 1).time (s.L.cut 1).least) := ⟨by omega, by omega, by omega⟩
  have hsl := M.slot_small hmay
  have s1 := h.sp.q
  have s2 := h.sp.m
  obtain ⟨i, hi⟩ : ∃ i, M.pos s.c.o G.a G.b = i := ⟨_, rfl⟩
  obtain ⟨sl, hsl2⟩ : ∃ sl, M.slot (s.c.gen + 1) (M.txtL (s.L.cut 1).head (s.L.cut 1).time (s.L.cut 1).least) = sl := ⟨_, rfl⟩
  refine (trim_any w h.dv B.cB G.a G.b s.c hg.ca s.L hg.la hg.sp.c1 hg.sp.l1 hg.sp.r1 hgi.2 ⟨hgi.1, by omega⟩ ⟨by have := hg.geo.an; omega, by have := hg.geo.bn; omega⟩ hin 1 hg1 hin2 i hi sl hsl2 _ rfl).mono ?_
  rintro e w' ⟨rfl, hd', hc', hl', hb⟩
  have hqc := h.qc.but hb (by simp; omega)
  have hmp := h.mp.but hb (by simp; omega)
  have hbB : But B.l w w' := hb.mono (by simp [Bk.l])
  rw [hi] at hpos
  rw [hsl2] at hsl
  have hK1 : s.K ≤ s.K + 1 := by omega
  -- where it fails
  have hfail : M.trimE G.n d i sl ≠ 0 → (M.trimD G.n d i sl).dead = true → Cr G P (s.K + 1) (M.trimD G.n d i sl) → ∃ (y : Int) (d1 : M.Dv) (c1 : M.Cl), Ending.returned (.int .i64 (M.trimE G.n d i sl)) = .returned (.int .i64 y) ∧ But B.l w w' ∧ ((y = 0 ∧ CX w' B G P ⟨d1, c1, s.L.cut 1, s.E, s.k, s.K + 1⟩ d1) ∨ (y ≠ 0 ∧ d1.dead = true ∧ CX w' B G P ⟨s.d, s.c, s.L, s.E, s.k, s.K + 1⟩ d1)) := fun f1 f2 f3 => by
    rw [M.putC_no f1] at hc'
    rw [M.trimL_no f1] at hl'
    exact ⟨_, _, s.c, rfl, hbB, .inr ⟨f1, f2, ⟨hd', ⟨hc', hl', hg.sp, Good_mono hg.gd hK1, hg.geo⟩, hqc, hmp, h.sp, h.hd, .inr ⟨f2, f3⟩⟩⟩⟩
  rcases M.barrier_ways d with ⟨z1, z2, z3, z4, z5⟩ | ⟨z2, z3, z4, z5⟩
  · obtain ⟨hds, hal⟩ := h.alive z1
    have hS1 : ∀ j : Nat, (M.barrierD d).S j = M.seen s.d j := fun j => by rw [z4, hds]
    have hsn1 : ∀ j : Nat, M.seen (M.barrierD d) j = M.seen s.d j := fun j => by rw [seen_none z5, hS1]
    have hal1 : Al G P (M.barrierD d) s.L := Al.sure z3 hS1 z5 hg.gd.ring hcur
    have hgd1 : M.Good (M.seen (M.barrierD d)) s.K G.first G.N G.a G.b s.c s.L := by rw [show M.seen (M.barrierD d) = M.seen s.d from funext hsn1]; exact hg.gd
    have et : M.trimE G.n d i sl = M.putE G.n (M.barrierD d) i sl := by unfold M.trimE; rw [if_pos z2]
    have ed : M.trimD G.n d i sl = M.putD G.n (M.barrierD d) i sl := by unfold M.trimD; rw [if_pos z2]
    rcases M.write_ways (d := M.barrierD d) (n := G.n) (i := i) (l := sl) hpos (by omega) with ⟨y1, y2, y3, y4, y5⟩ | ⟨y2, y3, y4, y5⟩
    · have et2 : M.trimE G.n d i sl = M.barrierE (M.writeD G.n (M.barrierD d) i sl) := by rw [et]; unfold M.putE; rw [if_pos y2]
      have ed2 : M.trimD G.n d i sl = M.barrierD (M.writeD G.n (M.barrierD d) i sl) := by rw [ed]; unfold M.putD; rw [if_pos y2]
      have hsn2 : ∀ j : Nat, M.seen (M.writeD G.n (M.barrierD d) i sl) j = if j = i then M.pad sl else M.seen s.d j := fun j => by rw [seen_upd y4 y5, hsn1]
      have hlen : ∀ j : Nat, (M.seen s.d j).length = 144 := fun j => by rw [← hds]; exact seen_len h.dv.wf j
      have hrg2 : ∀ S' : Nat → List UInt8, (∀ j, S' j = if j = i then M.pad sl else M.seen s.d j) → M.Ring S' G.first G.N (s.L.cut 1) := fun S' hS' => hcut.congr (fun p hp => by
        rw [hS', if_neg (by rw [← hi]; unfold M.pos; have := hg.geo.ar; have := hg.geo.br; split <;> omega)])
      have hfd : ∀ S' : Nat → List UInt8, (∀ j, S' j = if j = i then M.pad sl else M.seen s.d j) → M.found (M.rdS (S' G.a)) (M.rdS (S' G.b)) = ⟨1 - s.c.o, s.c.gen + 1, M.txtL (s.L.cut 1).head (s.L.cut 1).time (s.L.cut 1).least⟩ := fun S' hS' =>
        found_slot hlen hg.geo.ab hg.geo.an hg.geo.bn (by omega) hg.gd.cell (by omega) (fun j => by rw [hS' j, hi, hsl2])
      rcases M.barrier_ways (M.writeD G.n (M.barrierD d) i sl) with ⟨x1, x2, x3, x4, x5⟩ | ⟨x2, x3, x4, x5⟩
      · have e0 : M.trimE G.n d i sl = 0 := by rw [et2, x2]
        rw [e0, M.putC_ok] at hc'
        rw [e0, M.trimL_ok] at hl'
        rw [ed2] at hd'
        rw [e0]
        have hsn3 : ∀ j : Nat, M.seen (M.barrierD (M.writeD G.n (M.barrierD d) i sl)) j = if j = i then M.pad sl else M.seen s.d j := fun j => by rw [seen_none x5, x4, hsn2]
        refine ⟨0, _, _, rfl, hbB, .inl ⟨rfl, ⟨hd', ⟨hc', hl', hg.sp, ⟨hrg2 _ hsn3, (hfd _ hsn3).symm, rfl, by show s.c.gen + 1 ≤ s.K + 1; omega, by show (s.L.cut 1).tail ≤ s.K + 1; rw [htl]; omega, by have := hg.gd.time; show s.L.time ≤ s.K + 1; omega⟩, hg.geo⟩, hqc, hmp, h.sp, hh, .inl ⟨rfl, Al.sure x3 (d := M.writeD G.n (M.barrierD d) i sl) x4 x5 (hrg2 _ hsn2) hn⟩⟩⟩⟩
      · refine hfail (by rw [et2, x2]; decide) (by rw [ed2]; exact x3) ?_
        rw [ed2]
        intro S2 h2
        have h3 : ∀ j : Nat, S2 j = M.seen s.d j ∨ S2 j = if j = i then M.pad sl else M.seen s.d j := fun j => by
          rcases h2 j with e | e
          · left; rw [e, x4, y4, hS1]
          · right
            rw [e, ← hsn2 j]
            unfold M.seen
            rw [x4, x5]
        by_cases hz : S2 i = M.seen s.d i
        · refine (hal1.cr hgd1).mono hK1 (fun v hv => hv) S2 fun j => .inl ?_
          rw [hS1]
          by_cases hj : j = i
          · rw [hj]; exact hz
          · rcases h3 j with e | e
            · exact e
            · rw [e, if_neg hj]
        · have hall : ∀ j, S2 j = if j = i then M.pad sl else M.seen s.d j := fun j => by
            rcases h3 j with e | e
            · by_cases hj : j = i
              · subst hj; exact absurd e hz
              · rw [e, if_neg hj]
            · exact e
          exact ⟨_, s.L.cut 1, (hrg2 S2 hall).toO, (hfd S2 hall).symm, rfl, by show s.c.gen + 1 ≤ s.K + 1; omega, by rw [htl]; omega, by have := hg.gd.time; show s.L.time ≤ s.K + 1; omega, hn⟩
    · have e0 : M.trimE G.n d i sl = 30 := by rw [et]; unfold M.putE; rw [y2, if_neg (by decide)]
      have ed2 : M.trimD G.n d i sl = M.writeD G.n (M.barrierD d) i sl := by rw [ed]; unfold M.putD; rw [y2, if_neg (by decide)]
      refine hfail (by rw [e0]; decide) (by rw [ed2]; exact y3) ?_
      rw [ed2]
      exact ((hal1.cr hgd1).mono hK1 (fun v hv => hv)).dev y4 y5
  · have e0 : M.trimE G.n d i sl = 30 := by unfold M.trimE; rw [z2, if_neg (by decide)]
    have ed : M.trimD G.n d i sl = M.barrierD d := by unfold M.trimD; rw [z2, if_neg (by decide)]
    refine hfail (by rw [e0]; decide) (by rw [ed]; exact z3) ?_
    rw [ed]
    exact (h.cr.mono hK1 (fun v hv => hv)).dev z4 z5
end Q
end Go.Proofs.YtmcalgnpinolmaaGreat
namespace Go.Proofs.YtmcalgnpinolmaaGreat
open Go.RowKit Go.Maps
set_option linter.unusedVariables false
set_option linter.unusedSimpArgs false
set_option maxRecDepth 20000
namespace Q
variable {B : Bk} {G : Gm} {s : St} {P P' : Vi → Prop} {d : M.Dv}

set_option maxHeartbeats 4000000 in
theorem come_x (w : World) (h : CX w B G P s d) (hK : s.K ≤ 1000000000) (hroom : s.L.rs.length < G.N) (de : Deed) (hd : MayD G.nb de) (k' : Kp) (hk : MayK k') (hcn : num G.nb (vis (step s.E de s.L.tail)) ≤ G.N - 6)
    (hp : ∀ v, P v → P' v) (hn : P' ⟨vis (step s.E de s.L.tail), k'⟩) (hle : LenOk G.N (s.L.add (txQ de k')) (step s.E de s.L.tail)) :
    Calls Tryz.prog 78 #[.pointer (some ⟨B.qB, 0, none⟩), recV de k'] w fun e w' => ∃ (x : Int) (r : Nat) (d' : M.Dv), e = .returned (.int .i64 x) ∧ (r = B.rb ∨ w.heap.size ≤ r) ∧ But B.l w w' ∧
      ((x = 0 ∧ CX w' (B.row r) G P' ⟨d', s.c, s.L.add (txQ de k'), step s.E de s.L.tail, k', s.K + 1⟩ d') ∨ (x ≠ 0 ∧ d'.dead = true ∧ CX w' (B.row r) G P s d')) := by
  obtain ⟨td, vd, hv⟩ := de.val_iface
  have HT : Hid (∀ w', Calls Tryz.prog 102 #[.agg #[.iface td vd, .int .i64 k'.ep, .int .i64 k'.sq, .int .i64 k'.t0, .int .i64 k'.t1, .int .i64 k'.t2, .int .i64 k'.t3]] w' fun e w'' => e = .returned (.string (txQ de k')) ∧ Below w'.heap.size w' w'') := Lib.hid (fun w' => by rw [← hv]; exact text_q w' de k' G.nb h.hd.nb hd hk)
  have HD : Hid (∀ w' (g : CacheC w' B.qB B.lB G.N G.nb B.mE s.k) (hm : MapQ w' B.mE s.E), Calls Tryz.prog 44 #[.pointer (some ⟨B.qB, 0, none⟩), .agg #[.iface td vd, .int .i64 k'.ep, .int .i64 k'.sq, .int .i64 k'.t0, .int .i64 k'.t1, .int .i64 k'.t2, .int .i64 k'.t3], .int .i64 s.L.tail] w' fun e w'' => e = .returned (.tuple #[]) ∧ CacheC w'' B.qB B.lB G.N G.nb B.mE k' ∧ MapQ w'' B.mE (step s.E de s.L.tail) ∧ But [B.qB, B.mE] w' w'') := Lib.hid (fun w' g hm => by rw [← hv]; exact do_any w' g hm h.sp.q.2.2.2.2.2.2 h.hd.keys h.hd.nb de hd k' s.L.tail)
  have HW : Hid (∀ w', Below w.heap.size w w' → CX w' B G P s d) := Lib.hid (fun w' hb => h.below hb)
  have Hlt := Lib.hid h.lt
  have Hsp := Lib.hid h.sp
  have Hhd := Lib.hid h.hd
  have hsz := txQ_size (k := k') hd h.hd.nb
  have hhd2 : Hold G.nb G.N (s.L.add (txQ de k')) (step s.E de s.L.tail) k' := ⟨h.hd.says.come hd hk, hcn, h.hd.n8, h.hd.nb, hk⟩
  have HN := Lib.hid hhd2
  have HAp := Lib.hid (fun (w' : World) (hb : Below w.heap.size w w') => append_x w' (h.below hb) hK (txQ de k') hsz hroom hp ⟨_, _, hhd2, hle, hn⟩)
  have HK := Lib.hid hK
  have Hk := Lib.hid hk
  have Hcn := Lib.hid hcn
  have p0 := (h.qc.of_block (w' := w.alloc (.cells #[.iface td vd, .int .i64 k'.ep, .int .i64 k'.sq, .int .i64 k'.t0, .int .i64 k'.t1, .int .i64 k'.t2, .int .i64 k'.t3] 98)) (Below.heap_alloc _ _ _ h.qc.lt)).p0
  have HB0 : Hid (Below w.heap.size w (w.alloc (.cells #[.iface td vd, .int .i64 k'.ep, .int .i64 k'.sq, .int .i64 k'.t0, .int .i64 k'.t1, .int .i64 k'.t2, .int .i64 k'.t3] 98))) := Lib.hid ((Below.refl _ _).alloc (Nat.le_refl _) _)
  have HX : Hid (∀ w', (∃ q, But q (w.alloc (.cells #[.iface td vd, .int .i64 k'.ep, .int .i64 k'.sq, .int .i64 k'.t0, .int .i64 k'.t1, .int .i64 k'.t2, .int .i64 k'.t3] 98)) w' ∧ w.heap.size ∉ q ∧ B.qB ∉ q) → w'.cell? ⟨B.qB, 0, none⟩ = some (.pointer (some ⟨B.lB, 0, none⟩)) ∧ w'.cell? ⟨w.heap.size, 0, none⟩ = some (.iface td vd) ∧ w'.cell? ⟨w.heap.size, 1, none⟩ = some (.int .i64 k'.ep) ∧ w'.cell? ⟨w.heap.size, 2, none⟩ = some (.int .i64 k'.sq) ∧ w'.cell? ⟨w.heap.size, 3, none⟩ = some (.int .i64 k'.t0) ∧ w'.cell? ⟨w.heap.size, 4, none⟩ = some (.int .i64 k'.t1) ∧ w'.cell? ⟨w.heap.size, 5, none⟩ = some (.int .i64 k'.t2) ∧ w'.cell? ⟨w.heap.size, 6, none⟩ = some (.int .i64 k'.t3)) := Lib.hid (fun w' hq => by
    obtain ⟨q, hb, hn, hq⟩ := hq
    have hl := h.qc.lt
    refine ⟨?_, ?_, ?_, ?_, ?_, ?_, ?_, ?_⟩
    · rw [hb.cell (by simp; omega) hq]; exact p0
    all_goals (rw [hb.cell (by simp) hn, World.cell?_alloc_mark]; rfl)
  )
  unfold recV
  rw [hv]
  clear h hK hroom hd hk hcn hv hsz
  go_enter Tryz.func78, Tryz.ntmps78
  go_wp2_with (go_at_call 86; refine (tail_lg _ (HW.out _ HB0.out).lg HK.out).mono ?_; rintro e w1 ⟨rfl, j1, hj1⟩
               have HJ1 := Lib.hid hj1
               clear hj1)
  have HQ1 : Hid (But [] (w.alloc (.cells #[.iface td vd, .int .i64 k'.ep, .int .i64 k'.sq, .int .i64 k'.t0, .int .i64 k'.t1, .int .i64 k'.t2, .int .i64 k'.t3] 98)) w1.drew) := Lib.hid (by rw [HJ1.out]; exact (But.of_below (below_drewN _ _ _)).drew)
  have HB1 : Hid (Below w.heap.size w w1.drew) := Lib.hid (HB0.out.trans (HQ1.out.to_below (by simp) HB0.out.size))
  have HX1 := Lib.hid (HX.out _ ⟨[], HQ1.out, by simp, by simp⟩)
  go_region_held3 (fun w' => w'.cell? ⟨B.qB, 0, none⟩ = some (.pointer (some ⟨B.lB, 0, none⟩)) ∧ w'.cell? ⟨w.heap.size, 0, none⟩ = some (.iface td vd) ∧ w'.cell? ⟨w.heap.size, 1, none⟩ = some (.int .i64 k'.ep) ∧ w'.cell? ⟨w.heap.size, 2, none⟩ = some (.int .i64 k'.sq) ∧ w'.cell? ⟨w.heap.size, 3, none⟩ = some (.int .i64 k'.t0) ∧ w'.cell? ⟨w.heap.size, 4, none⟩ = some (.int .i64 k'.t1) ∧ w'.cell? ⟨w.heap.size, 5, none⟩ = some (.int .i64 k'.t2) ∧ w'.cell? ⟨w.heap.size, 6, none⟩ = some (.int .i64 k'.t3))
    (first
      | exact HX1.out
      | exact HX2.out
      | exact HX3.out)
    (first
      | (go_at_call 102; with_reducible refine (HT.out _).mono ?_; rintro e w2 ⟨rfl, hb2⟩
         have HB2 : Hid (Below w.heap.size w w2) := Lib.hid (HB1.out.trans (hb2.mono HB1.out.size))
         have HQ2 : Hid (But [] (w.alloc (.cells #[.iface td vd, .int .i64 k'.ep, .int .i64 k'.sq, .int .i64 k'.t0, .int .i64 k'.t1, .int .i64 k'.t2, .int .i64 k'.t3] 98)) w2) := Lib.hid (HQ1.out.trans (But.of_below hb2))
         have HX2 := Lib.hid (HX.out _ ⟨[], HQ2.out, by simp, by simp⟩)
         clear hb2)
      | (go_at_call 101; refine (HAp.out w2 HB2.out).mono ?_
         rintro e w3 ⟨y3, r3, d3, rfl, hd3, hr3, hb3, hor⟩
         have HX3 := Lib.hid (HX.out w3 ⟨[B.dB, B.mB, B.lB, B.rb], (HQ2.out.mono (by simp)).trans hb3, by have := Hlt.out; simp [Bk.l] at this; simp; omega, by have := Hsp.out.q; simp; omega⟩)
         have HG3 := Lib.hid (And.intro hd3 (And.intro hr3 (And.intro hb3 hor)))
         clear hd3 hr3 hb3 hor))
  obtain ⟨x0, x1, x2, x3, x4, x5, x6, x7⟩ := HX3.out
  have HG2 := Lib.hid (HW.out _ HB2.out)
  have hne := Hsp.out
  have HC3 := Lib.hid (HG2.out.qc.but HG3.out.2.2.1 (by have := Hsp.out.q; simp; omega))
  have HM3 := Lib.hid (HG2.out.mp.but HG3.out.2.2.1 (by have := Hsp.out.m; simp; omega))
  have HBu3 : Hid (But B.l w w3) := Lib.hid (((But.refl B.l w).below HB2.out (Nat.le_refl _)).trans (HG3.out.2.2.1.mono (by simp [Bk.l])))
  have HRr : Hid (r3 = B.rb ∨ w.heap.size ≤ r3) := Lib.hid (HG3.out.2.1.imp id (fun z => Nat.le_trans HB2.out.size z))
  clear HX1 HX2 HX3 HX HQ1 HQ2 hne HAp
  rcases HG3.out.2.2.2 with ⟨rfl, hl3, ha3⟩ | ⟨hy3, hl3, hdd, hcr⟩
  · have HL3 := Lib.hid (And.intro hl3 ha3)
    clear hl3 ha3
    go_wp2_with (go_at_call 44; with_reducible refine (HD.out _ HC3.out HM3.out).mono ?_; rintro e w4 ⟨rfl, hq4, hm4, hb4⟩
                 have H4 := Lib.hid (And.intro hq4 (And.intro hm4 hb4))
                 clear hq4 hm4 hb4)
    go_ret
    obtain ⟨hd3, hr3, hb3, _⟩ := HG3.out
    obtain ⟨hl3, ha3⟩ := HL3.out
    obtain ⟨hq4, hm4, hb4⟩ := H4.out
    have hlt := Hlt.out
    simp only [Bk.l, List.mem_cons, List.not_mem_nil, or_false, forall_eq_or_imp, forall_eq] at hlt
    obtain ⟨l1, l2, l3, l4, l5, l6, l7, l8⟩ := hlt
    have hsz2 := HB2.out.size
    have s1 := Hsp.out.q
    have s2 := Hsp.out.m
    refine ⟨0, r3, d3, rfl, HRr.out, HBu3.out.trans (hb4.mono (by simp [Bk.l])), .inl ⟨rfl, ⟨hd3.but hb4 (by simp; omega) (by simp; omega) (by simp; omega), hl3.but hb4 (by simp; omega) (by simp [Bk.row]; omega) (by simp; omega), hq4, hm4, ⟨by simp only [Bk.row]; omega, by simp only [Bk.row]; omega⟩, HN.out, .inl ⟨rfl, ha3⟩⟩⟩⟩
  · have hy3' : ¬ y3 = 0 := hy3
    have HL3 := Lib.hid (And.intro hy3 (And.intro hl3 (And.intro hdd hcr)))
    clear hl3 hdd hcr hy3
    go_wp2_with fail
    go_ret
    obtain ⟨hd3, hr3, hb3, _⟩ := HG3.out
    obtain ⟨hy3, hl3, hdd, hcr⟩ := HL3.out
    have hlt := Hlt.out
    simp only [Bk.l, List.mem_cons, List.not_mem_nil, or_false, forall_eq_or_imp, forall_eq] at hlt
    obtain ⟨l1, l2, l3, l4, l5, l6, l7, l8⟩ := hlt
    have s1 := Hsp.out.q
    have s2 := Hsp.out.m
    have hsz2 := HB2.out.size
    exact ⟨y3, r3, d3, rfl, HRr.out, HBu3.out, .inr ⟨hy3, hdd, ⟨hd3, hl3, HC3.out, HM3.out, ⟨by simp only [Bk.row]; omega, by simp only [Bk.row]; omega⟩, Hhd.out, .inr ⟨hdd, hcr⟩⟩⟩⟩

end Q
end Go.Proofs.YtmcalgnpinolmaaGreat
namespace Go.Proofs.YtmcalgnpinolmaaGreat
open Go.RowKit Go.Maps
set_option linter.unusedVariables false
set_option linter.unusedSimpArgs false
set_option maxRecDepth 20000
namespace Q
variable {B : Bk} {G : Gm} {s : St} {P P' : Vi → Prop} {d : M.Dv}

theorem head_inx {w : World} (h : CX w B G P s d) (hK : s.K ≤ 1000000000) : 1 ≤ s.L.head ∧ s.L.head ≤ 1000000000 := by
  have h1 := h.lg.gd.ring.h1
  have h2 := h.lg.gd.tail
  unfold M.Lg.tail at h2
  omega
/-- room that is being made (Under, with one more record where the first one may go) -/
structure UX (nb N : Nat) (L0 : M.Lg) (V : Vm) (k : Kp) (i : Nat) (L : M.Lg) (E : Mp) : Prop where
  hold : Hold nb N L E k
  vis : Q.vis E = V
  head : L.head = L0.head + i
  len : i + L.rs.length = since nb E L0.tail + L0.rs.length
  le : L.rs.length ≤ L0.rs.length
  l0 : L0.rs.length ≤ N - 1
  ok : LenOk N L E
theorem UX.start {nb N : Nat} {L : M.Lg} {E : Mp} {k : Kp} (h : Hold nb N L E k) (hl : LenOk N L E) : UX nb N L (Q.vis E) k 0 L E :=
  ⟨h, rfl, by simp, by rw [since_none h.ok], Nat.le_refl _, by rcases hl with z | z <;> omega, hl⟩
theorem UX.few {nb N : Nat} {L0 : M.Lg} {V : Vm} {k : Kp} {i : Nat} {L : M.Lg} {E : Mp} (u : UX nb N L0 V k i L E) (hf : N - 3 ≤ L.rs.length) : i + 4 ≤ N ∧ L.head < L0.tail ∧ 2 ≤ L.rs.length ∧ L.rs.length < N := by
  have h1 := since_le nb E L0.tail
  have h2 := u.hold.cn
  have h3 := u.len
  have h4 := u.le
  have h5 := u.l0
  have h6 := u.hold.n8
  have h7 := u.head
  have hh : i + 4 ≤ N := by omega
  refine ⟨hh, ?_, by omega, by omega⟩
  unfold M.Lg.tail
  omega
theorem UX.dead {nb N : Nat} {L0 : M.Lg} {V : Vm} {k : Kp} {i : Nat} {L : M.Lg} {E : Mp} (u : UX nb N L0 V k i L E) (hf : N - 3 ≤ L.rs.length) (hn : ∀ b x, E b = some x → x.pos ≠ L.head) : UX nb N L0 V k (i + 1) (L.cut 1) E := by
  obtain ⟨f1, f2, f3, f4⟩ := u.few hf
  have hlen : (L.cut 1).rs.length = L.rs.length - 1 := by simp [M.Lg.cut]
  refine ⟨⟨u.hold.says.cut f3 hn, u.hold.cn, u.hold.n8, u.hold.nb, u.hold.kk⟩, u.vis, ?_, ?_, ?_, u.l0, .inl (by rw [hlen]; omega)⟩
  · show L.head + 1 = _; rw [u.head]; omega
  · rw [hlen]; have := u.len; omega
  · rw [hlen]; have := u.le; omega
theorem UX.live {nb N : Nat} {L0 : M.Lg} {V : Vm} {k : Kp} {i : Nat} {L : M.Lg} {E : Mp} (u : UX nb N L0 V k i L E) (hf : N - 3 ≤ L.rs.length) {b : Int} {x : La} (hx : E b = some x) (hp : x.pos = L.head) :
    MayE nb x.e ∧ UX nb N L0 V k (i + 1) ((L.add (txQ (.lay x.e) k)).cut 1) (step E (.lay x.e) L.tail) ∧ (∀ c y, step E (.lay x.e) L.tail c = some y → y.pos ≠ L.head) := by
  obtain ⟨f1, f2, f3, f4⟩ := u.few hf
  have o := u.hold.ok
  have hb := o.key b x hx
  have hm := o.may b x hx
  have hr := o.range hx
  have hlk : L.rs.length ≤ N - 2 := by
    rcases u.ok with z | ⟨_, z⟩
    · exact z
    · exact absurd hp (z b x hx)
  have hlen : ((L.add (txQ (.lay x.e) k)).cut 1).rs.length = L.rs.length := by simp [M.Lg.cut, M.Lg.add]
  have hlen2 : (L.add (txQ (.lay x.e) k)).rs.length = L.rs.length + 1 := by simp [M.Lg.add]
  have htl : L.tail = L.head + L.rs.length := rfl
  have ht : L0.tail ≤ L.tail := by
    have h1 := u.head
    have h2 := u.len
    have : L0.tail = L0.head + L0.rs.length := rfl
    omega
  have hn : ∀ c y, step E (.lay x.e) L.tail c = some y → y.pos ≠ L.head := by
    intro c y hy
    simp only [step, upd] at hy
    split at hy
    · injection hy with hy; subst hy; simp only; omega
    · rename_i hc
      intro he
      have := o.inj c b y x hy hx (by omega)
      omega
  have hs : Says nb (L.add (txQ (.lay x.e) k)) (step E (.lay x.e) L.tail) k := u.hold.says.come hm u.hold.kk
  have hv := vis_lay hx hb L.tail
  refine ⟨hm, ⟨⟨hs.cut (by omega) (by show ∀ b x_1, _ → _ ≠ L.head; exact hn), by rw [hv]; exact u.hold.cn, u.hold.n8, u.hold.nb, u.hold.kk⟩, by rw [hv]; exact u.vis, ?_, ?_, ?_, u.l0, .inl (by rw [hlen]; exact hlk)⟩, hn⟩
  · show L.head + 1 = _; rw [u.head]; omega
  · rw [hlen, since_lay hx hb hr.1 hr.2 (by omega) ht]; have := u.len; omega
  · rw [hlen]; exact u.le
theorem live_len {nb N : Nat} {L0 : M.Lg} {V : Vm} {k : Kp} {i : Nat} {L : M.Lg} {E E' : Mp} {tx : ByteArray} (u : UX nb N L0 V k i L E) {b : Int} {x : La} (hx : E b = some x) (hp : x.pos = L.head) (hf : N - 3 ≤ L.rs.length) (hn : ∀ c y, E' c = some y → y.pos ≠ L.head) : LenOk N (L.add tx) E' := by
  have h3 := u.hold.n8
  have h4 : (L.add tx).rs.length = L.rs.length + 1 := by simp [M.Lg.add]
  have hlk : L.rs.length ≤ N - 2 := by
    rcases u.ok with z | ⟨_, z⟩
    · exact z
    · exact absurd hp (z b x hx)
  by_cases h : L.rs.length + 1 ≤ N - 2
  · exact .inl (by omega)
  · exact .inr ⟨by omega, hn⟩
/-- what letGo leaves: room made by one, or all as it was, with the power gone -/
def Let (G : Gm) (B : Bk) (P : Vi → Prop) (s : St) (L0 : M.Lg) (V : Vm) (i : Nat) (x : Int) (w w' : World) : Prop := ∃ r s' d', (r = B.rb ∨ w.heap.size ≤ r) ∧ But B.l w w' ∧ CX w' (B.row r) G P s' d' ∧ s'.k = s.k ∧ s'.K ≤ s.K + 2 ∧
  ((x = 0 ∧ UX G.nb G.N L0 V s.k (i + 1) s'.L s'.E) ∨ (x ≠ 0 ∧ d'.dead = true ∧ vis s'.E = vis s.E ∧ LenOk G.N s'.L s'.E))

set_option maxHeartbeats 4000000 in
theorem letGo_x (w : World) (h : CX w B G P s d) (hK : s.K ≤ 900000000) {L0 : M.Lg} {V : Vm} {i : Nat} (u : UX G.nb G.N L0 V s.k i s.L s.E) (hf : G.N - 3 ≤ s.L.rs.length) (hcur : P ⟨vis s.E, s.k⟩) :
    Calls Tryz.prog 100 #[.pointer (some ⟨B.qB, 0, none⟩)] w fun e w' => ∃ x : Int, e = .returned (.int .i64 x) ∧ Let G B P s L0 V i x w w' := by
  obtain ⟨f1, f2, f3, hlen⟩ := u.few hf
  have hhd := head_inx h (by omega)
  have HL := Lib.hid (laidBy_q w h.qc h.mp s.L.head)
  have H := Lib.hid h
  have HK := Lib.hid hK
  have p0 := h.qc.p0
  have hI0 : (0 : Int) ≤ s.L.head := by omega
  have hI1 : s.L.head ≤ 4611686018427387904 := by omega
  have HA := Lib.hid (And.intro u (And.intro hf (And.intro f3 hlen)))
  have HCu := Lib.hid (And.intro hcur u.ok)
  clear h hK u hf f1 f2 f3 hlen hhd hcur
  go_enter Tryz.func100, Tryz.ntmps100
  go_wp2_with (go_at_call 45; with_reducible refine (head_lg w H.out.lg).mono ?_; rintro e w' ⟨rfl, rfl⟩)
  refine HL.out.mono ?_
  rintro e w1 ⟨v, rfl, hv, hb1⟩
  have HB1 := Lib.hid hb1
  clear HL
  rcases hv with ⟨b, x, hx, hp, rfl⟩ | ⟨hn, rfl⟩
  · obtain ⟨u, hf, f3, hlen⟩ := HA.out
    obtain ⟨v1, v2, v3⟩ := u.live hf hx hp
    have HV := Lib.hid (And.intro v1 (And.intro v2 v3))
    have HX := Lib.hid (And.intro hx hp)
    obtain ⟨xe, xpos⟩ := x
    obtain ⟨xb, xp, xq, xd, xy, xc, xn⟩ := xe
    have HB2 : Hid (Below w.heap.size w (w1.alloc (.cells #[.int .i64 xb, .int .i64 xp, .int .i64 xq, .string xd, .bool xy, .int .i64 xc, .int .i64 xn] 37)).drew) := Lib.hid ((HB1.out.alloc HB1.out.size _).drew)
    have HG2 := Lib.hid (H.out.below HB2.out)
    have hc : ∀ o v, (#[.int .i64 xb, .int .i64 xp, .int .i64 xq, .string xd, .bool xy, .int .i64 xc, .int .i64 xn] : Array Value)[o]? = some v → (w1.alloc (.cells #[.int .i64 xb, .int .i64 xp, .int .i64 xq, .string xd, .bool xy, .int .i64 xc, .int .i64 xn] 37)).cell? ⟨w1.heap.size, o, none⟩ = some v := fun o v ho => by
      rw [World.cell?_alloc_mark]; exact ho
    have hcm : num G.nb (vis (step s.E (.lay ⟨xb, xp, xq, xd, xy, xc, xn⟩) s.L.tail)) ≤ G.N - 6 := v2.hold.cn
    have hvl : vis (step s.E (.lay ⟨xb, xp, xq, xd, xy, xc, xn⟩) s.L.tail) = vis s.E := vis_lay (E := s.E) (b := b) (x := ⟨⟨xb, xp, xq, xd, xy, xc, xn⟩, xpos⟩) hx (u.hold.ok.key b _ hx) _
    have hl2 : LenOk G.N (s.L.add (txQ (.lay ⟨xb, xp, xq, xd, xy, xc, xn⟩) s.k)) (step s.E (.lay ⟨xb, xp, xq, xd, xy, xc, xn⟩) s.L.tail) := live_len u hx hp hf v3
    have hP2 : P ⟨vis (step s.E (.lay ⟨xb, xp, xq, xd, xy, xc, xn⟩) s.L.tail), s.k⟩ := by rw [hvl]; exact HCu.out.1
    have HVl := Lib.hid (And.intro hvl (And.intro hl2 hP2))
    have HC := Lib.hid (come_x (P' := P) _ HG2.out (by have := HK.out; omega) hlen (.lay ⟨xb, xp, xq, xd, xy, xc, xn⟩) v1 s.k H.out.hd.kk hcm (fun v hv => hv) hP2 hl2)
    have k0 := HG2.out.qc.p0
    have k4 := HG2.out.qc.p4
    have k5 := HG2.out.qc.p5
    have k6 := HG2.out.qc.p6
    have k7 := HG2.out.qc.p7
    have k8 := HG2.out.qc.p8
    have k9 := HG2.out.qc.p9
    unfold recV Deed.val En.val at HC
    unfold En.val
    have HS1 : Hid ((w1.alloc (.cells #[.int .i64 xb, .int .i64 xp, .int .i64 xq, .string xd, .bool xy, .int .i64 xc, .int .i64 xn] 37)).drew.cell? ⟨w1.heap.size, 0, none⟩ = some (.int .i64 xb) ∧ (w1.alloc (.cells #[.int .i64 xb, .int .i64 xp, .int .i64 xq, .string xd, .bool xy, .int .i64 xc, .int .i64 xn] 37)).drew.cell? ⟨w1.heap.size, 1, none⟩ = some (.int .i64 xp) ∧ (w1.alloc (.cells #[.int .i64 xb, .int .i64 xp, .int .i64 xq, .string xd, .bool xy, .int .i64 xc, .int .i64 xn] 37)).drew.cell? ⟨w1.heap.size, 2, none⟩ = some (.int .i64 xq) ∧ (w1.alloc (.cells #[.int .i64 xb, .int .i64 xp, .int .i64 xq, .string xd, .bool xy, .int .i64 xc, .int .i64 xn] 37)).drew.cell? ⟨w1.heap.size, 3, none⟩ = some (.string xd) ∧ (w1.alloc (.cells #[.int .i64 xb, .int .i64 xp, .int .i64 xq, .string xd, .bool xy, .int .i64 xc, .int .i64 xn] 37)).drew.cell? ⟨w1.heap.size, 4, none⟩ = some (.bool xy) ∧ (w1.alloc (.cells #[.int .i64 xb, .int .i64 xp, .int .i64 xq, .string xd, .bool xy, .int .i64 xc, .int .i64 xn] 37)).drew.cell? ⟨w1.heap.size, 5, none⟩ = some (.int .i64 xc) ∧ (w1.alloc (.cells #[.int .i64 xb, .int .i64 xp, .int .i64 xq, .string xd, .bool xy, .int .i64 xc, .int .i64 xn] 37)).drew.cell? ⟨w1.heap.size, 6, none⟩ = some (.int .i64 xn) ∧ (w1.alloc (.cells #[.int .i64 xb, .int .i64 xp, .int .i64 xq, .string xd, .bool xy, .int .i64 xc, .int .i64 xn] 37)).drew.cell? ⟨B.qB, 4, none⟩ = some (.int .i64 s.k.ep) ∧ (w1.alloc (.cells #[.int .i64 xb, .int .i64 xp, .int .i64 xq, .string xd, .bool xy, .int .i64 xc, .int .i64 xn] 37)).drew.cell? ⟨B.qB, 5, none⟩ = some (.int .i64 s.k.sq) ∧ (w1.alloc (.cells #[.int .i64 xb, .int .i64 xp, .int .i64 xq, .string xd, .bool xy, .int .i64 xc, .int .i64 xn] 37)).drew.cell? ⟨B.qB, 6, none⟩ = some (.int .i64 s.k.t0) ∧ (w1.alloc (.cells #[.int .i64 xb, .int .i64 xp, .int .i64 xq, .string xd, .bool xy, .int .i64 xc, .int .i64 xn] 37)).drew.cell? ⟨B.qB, 7, none⟩ = some (.int .i64 s.k.t1) ∧ (w1.alloc (.cells #[.int .i64 xb, .int .i64 xp, .int .i64 xq, .string xd, .bool xy, .int .i64 xc, .int .i64 xn] 37)).drew.cell? ⟨B.qB, 8, none⟩ = some (.int .i64 s.k.t2) ∧ (w1.alloc (.cells #[.int .i64 xb, .int .i64 xp, .int .i64 xq, .string xd, .bool xy, .int .i64 xc, .int .i64 xn] 37)).drew.cell? ⟨B.qB, 9, none⟩ = some (.int .i64 s.k.t3)) := Lib.hid ⟨hc 0 _ rfl, hc 1 _ rfl, hc 2 _ rfl, hc 3 _ rfl, hc 4 _ rfl, hc 5 _ rfl, hc 6 _ rfl, k4, k5, k6, k7, k8, k9⟩
    have HW1 : Hid (w.heap.size ≤ w1.heap.size) := Lib.hid HB1.out.size
    have HS2 : Hid (∀ w', But B.l (w1.alloc (.cells #[.int .i64 xb, .int .i64 xp, .int .i64 xq, .string xd, .bool xy, .int .i64 xc, .int .i64 xn] 37)).drew w' → CacheC w' B.qB B.lB G.N G.nb B.mE s.k → w'.cell? ⟨w1.heap.size, 0, none⟩ = some (.int .i64 xb) ∧ w'.cell? ⟨w1.heap.size, 1, none⟩ = some (.int .i64 xp) ∧ w'.cell? ⟨w1.heap.size, 2, none⟩ = some (.int .i64 xq) ∧ w'.cell? ⟨w1.heap.size, 3, none⟩ = some (.string xd) ∧ w'.cell? ⟨w1.heap.size, 4, none⟩ = some (.bool xy) ∧ w'.cell? ⟨w1.heap.size, 5, none⟩ = some (.int .i64 xc) ∧ w'.cell? ⟨w1.heap.size, 6, none⟩ = some (.int .i64 xn) ∧ w'.cell? ⟨B.qB, 4, none⟩ = some (.int .i64 s.k.ep) ∧ w'.cell? ⟨B.qB, 5, none⟩ = some (.int .i64 s.k.sq) ∧ w'.cell? ⟨B.qB, 6, none⟩ = some (.int .i64 s.k.t0) ∧ w'.cell? ⟨B.qB, 7, none⟩ = some (.int .i64 s.k.t1) ∧ w'.cell? ⟨B.qB, 8, none⟩ = some (.int .i64 s.k.t2) ∧ w'.cell? ⟨B.qB, 9, none⟩ = some (.int .i64 s.k.t3)) := Lib.hid (fun w' hb g => by
      have hl : w1.heap.size ∉ B.l := fun z => by have := H.out.lt _ z; have := HB1.out.size; omega
      have e : ∀ o, w'.cell? ⟨w1.heap.size, o, none⟩ = (w1.alloc (.cells #[.int .i64 xb, .int .i64 xp, .int .i64 xq, .string xd, .bool xy, .int .i64 xc, .int .i64 xn] 37)).cell? ⟨w1.heap.size, o, none⟩ := fun o => hb.cell (by simp) hl
      exact ⟨by rw [e]; exact hc 0 _ rfl, by rw [e]; exact hc 1 _ rfl, by rw [e]; exact hc 2 _ rfl, by rw [e]; exact hc 3 _ rfl, by rw [e]; exact hc 4 _ rfl, by rw [e]; exact hc 5 _ rfl, by rw [e]; exact hc 6 _ rfl, g.p4, g.p5, g.p6, g.p7, g.p8, g.p9⟩)
    clear hcm hc v1 v2 v3 hx hp hvl hl2 hP2 u hf f3 hlen p0 hb1 k0 k4 k5 k6 k7 k8 k9
    go_wp2_with fail
    generalize (w1.alloc (.cells #[.int .i64 xb, .int .i64 xp, .int .i64 xq, .string xd, .bool xy, .int .i64 xc, .int .i64 xn] 37)) = w2 at *
    go_region_held3 (fun w' => w'.cell? ⟨w1.heap.size, 0, none⟩ = some (.int .i64 xb) ∧ w'.cell? ⟨w1.heap.size, 1, none⟩ = some (.int .i64 xp) ∧ w'.cell? ⟨w1.heap.size, 2, none⟩ = some (.int .i64 xq) ∧ w'.cell? ⟨w1.heap.size, 3, none⟩ = some (.string xd) ∧ w'.cell? ⟨w1.heap.size, 4, none⟩ = some (.bool xy) ∧ w'.cell? ⟨w1.heap.size, 5, none⟩ = some (.int .i64 xc) ∧ w'.cell? ⟨w1.heap.size, 6, none⟩ = some (.int .i64 xn) ∧ w'.cell? ⟨B.qB, 4, none⟩ = some (.int .i64 s.k.ep) ∧ w'.cell? ⟨B.qB, 5, none⟩ = some (.int .i64 s.k.sq) ∧ w'.cell? ⟨B.qB, 6, none⟩ = some (.int .i64 s.k.t0) ∧ w'.cell? ⟨B.qB, 7, none⟩ = some (.int .i64 s.k.t1) ∧ w'.cell? ⟨B.qB, 8, none⟩ = some (.int .i64 s.k.t2) ∧ w'.cell? ⟨B.qB, 9, none⟩ = some (.int .i64 s.k.t3))
      (first
        | exact HS1.out
        | exact HS3.out)
      (first
        | (go_at_call 78; with_reducible refine HC.out.mono ?_; rintro e w3 ⟨y3, r3, d3, rfl, hr3, hb3, hor⟩
           have hqc3 : CacheC w3 B.qB B.lB G.N G.nb B.mE s.k := by
             rcases hor with ⟨_, hg⟩ | ⟨_, _, hg⟩
             · exact hg.qc
             · exact hg.qc
           have HG3 := Lib.hid hor
           have HR3 := Lib.hid (And.intro hr3 hb3)
           have HS3 := Lib.hid (HS2.out w3 hb3 hqc3)
           have HQ3 := Lib.hid hqc3
           clear hr3 hb3 hor hqc3))
    have k0 : w3.cell? ⟨B.qB, 0, none⟩ = some (.pointer (some ⟨B.lB, 0, none⟩)) := HQ3.out.p0
    have HBu : Hid (But B.l w w3 ∧ (r3 = B.rb ∨ w.heap.size ≤ r3)) := Lib.hid ⟨((But.refl B.l w).below HB2.out (Nat.le_refl _)).trans HR3.out.2, HR3.out.1.imp id (fun z => Nat.le_trans HB2.out.size z)⟩
    rcases HG3.out with ⟨rfl, hg3⟩ | ⟨hy3, hdd, hg3⟩
    · have hT := Lib.hid (fun (x : Int) (hx : x = s.L.head + 1) => trim_x w3 hg3 (by have := HK.out; simp only; omega) (by simp [M.Lg.add]) ⟨_, _, hg3.hd, HVl.out.2.1, HVl.out.2.2⟩ ⟨_, _, HV.out.2.1.hold, HV.out.2.1.ok, HVl.out.2.2⟩ HV.out.2.1.hold x hx)
      clear hg3
      go_wp2_with (go_at_call 126; refine (hT.out _ rfl).mono ?_; rintro e w4 ⟨y4, d4, c4, rfl, hb4, hor⟩
                   have HG4 := Lib.hid (And.intro hor hb4)
                   clear hor hb4)
      go_ret
      obtain ⟨hor, hb4⟩ := HG4.out
      have hbu : But B.l w w4 := but_new HBu.out.1 hb4 (row_l HBu.out.2)
      rcases hor with ⟨rfl, hg4⟩ | ⟨hy4, hdd, hg4⟩
      · exact ⟨0, rfl, r3, _, _, HBu.out.2, hbu, hg4, rfl, by simp only; omega, .inl ⟨rfl, HV.out.2.1⟩⟩
      · exact ⟨y4, rfl, r3, _, _, HBu.out.2, hbu, hg4, rfl, by simp only; omega, .inr ⟨hy4, hdd, HVl.out.1, HVl.out.2.1⟩⟩
    · have hy3' : ¬ y3 = 0 := hy3
      have HH := Lib.hid (And.intro hdd hg3)
      clear hdd hg3
      go_wp2_with fail
      go_ret
      exact ⟨y3, rfl, r3, _, _, HBu.out.2, HBu.out.1, HH.out.2, rfl, by omega, .inr ⟨hy3, HH.out.1, rfl, HCu.out.2⟩⟩
  · obtain ⟨u, hf, f3, hlen⟩ := HA.out
    have HV := Lib.hid (u.dead hf hn)
    have HB2 : Hid (Below w.heap.size w (w1.alloc (.cells #[.int .i64 0, .int .i64 0, .int .i64 0, .string ⟨#[]⟩, .bool false, .int .i64 0, .int .i64 0] 37))) := Lib.hid (HB1.out.alloc HB1.out.size _)
    have HG2 := Lib.hid (H.out.below HB2.out)
    have k0 := HG2.out.qc.p0
    have hT := Lib.hid (fun (x : Int) (hx : x = s.L.head + 1) => trim_x _ HG2.out (by have := HK.out; omega) (by omega) ⟨_, _, H.out.hd, HCu.out.2, HCu.out.1⟩ ⟨_, _, HV.out.hold, HV.out.ok, HCu.out.1⟩ HV.out.hold x hx)
    unfold zeroE En.val
    clear p0 hb1 u hf f3 hlen hn
    go_wp2_with (go_at_call 126; refine (hT.out _ rfl).mono ?_; rintro e w4 ⟨y4, d4, c4, rfl, hb4, hor⟩
                 have HG4 := Lib.hid (And.intro hor hb4)
                 clear hor hb4)
    go_ret
    obtain ⟨hor, hb4⟩ := HG4.out
    have hbu := ((But.refl B.l w).below HB2.out (Nat.le_refl _)).trans hb4
    rcases hor with ⟨rfl, hg4⟩ | ⟨hy4, hdd, hg4⟩
    · exact ⟨0, rfl, B.rb, _, _, .inl rfl, hbu, hg4, rfl, by simp only; omega, .inl ⟨rfl, HV.out⟩⟩
    · exact ⟨y4, rfl, B.rb, _, _, .inl rfl, hbu, hg4, rfl, by simp only; omega, .inr ⟨hy4, hdd, rfl, HCu.out.2⟩⟩

end Q
end Go.Proofs.YtmcalgnpinolmaaGreat
namespace Go.Proofs.YtmcalgnpinolmaaGreat
open Go.RowKit Go.Maps
set_option linter.unusedVariables false
set_option linter.unusedSimpArgs false
set_option maxRecDepth 20000
namespace Q
variable {B : Bk} {G : Gm} {s : St} {P P' : Vi → Prop} {d : M.Dv}

/-- how it is while room is made -/
structure RmX (w0 : World) (B : Bk) (G : Gm) (P : Vi → Prop) (s : St) (i : Nat) (w : World) (r : Nat) (s' : St) (d' : M.Dv) : Prop where
  cg : CX w (B.row r) G P s' d'
  k : s'.k = s.k
  K : s'.K ≤ s.K + 2 * i
  un : UX G.nb G.N s.L (vis s.E) s.k i s'.L s'.E
  r : r = B.rb ∨ w0.heap.size ≤ r
  bu : But B.l w0 w

theorem RmX.drewN {w0 w : World} {i r : Nat} {s' : St} {d' : M.Dv} (h : RmX w0 B G P s i w r s' d') (j : Nat) : RmX w0 B G P s i (w.drewN j) r s' d' :=
  ⟨h.cg.below (below_drewN _ _ _), h.k, h.K, h.un, h.r, (h.bu.below (below_drewN _ _ _) h.bu.size)⟩

/-- what makeRoom leaves -/
def Roomy (G : Gm) (B : Bk) (P : Vi → Prop) (s : St) (x : Int) (w w' : World) : Prop := ∃ r s' d', (r = B.rb ∨ w.heap.size ≤ r) ∧ But B.l w w' ∧ CX w' (B.row r) G P s' d' ∧ s'.k = s.k ∧ vis s'.E = vis s.E ∧ s'.K ≤ s.K + 2000 ∧ LenOk G.N s'.L s'.E ∧ ((x = 0 ∧ s'.L.rs.length ≤ G.N - 4) ∨ (x ≠ 0 ∧ d'.dead = true))

set_option maxHeartbeats 4000000 in
theorem makeRoom_x (w : World) (h : CX w B G P s d) (hK : s.K ≤ 800000000) (hl : LenOk G.N s.L s.E) (hcur : P ⟨vis s.E, s.k⟩) :
    Calls Tryz.prog 77 #[.pointer (some ⟨B.qB, 0, none⟩)] w fun e w' => ∃ x : Int, e = .returned (.int .i64 x) ∧ Roomy G B P s x w w' := by
  have p1 := h.qc.p1
  have hN : G.N ≤ 512 := by have := h.lg.geo.fn; have := h.lg.geo.n5; omega
  have hNI : (G.N : Int) ≤ 512 := by omega
  have HN := Lib.hid (And.intro hN h.hd.n8)
  have HK := Lib.hid hK
  have H0 : Hid (RmX w B G P s 0 w B.rb s d) := Lib.hid ⟨h, rfl, by omega, UX.start h.hd hl, .inl rfl, But.refl _ _⟩
  have HCu := Lib.hid hcur
  clear h hK hl hN hcur
  go_enter Tryz.func77, Tryz.ntmps77
  go_wp2_with fail
  go_loopw [8] (fun i wr => ∃ (k r : Nat) (s' : St) (d' : M.Dv), k ≤ G.N ∧ i = .int .i64 k ∧ RmX w B G P s k wr r s' d') (fun i _ => G.N - (RowKit.intOf i).toNat)
  case atStart => exact ⟨0, _, _, _, by omega, rfl, H0.out⟩
  case round =>
    obtain ⟨k, r, s', d', hk, rfl, hR⟩ := hrel
    have HR := Lib.hid hR
    have q0 : wr.cell? ⟨B.qB, 0, none⟩ = some (.pointer (some ⟨B.lB, 0, none⟩)) := hR.cg.qc.p0
    have hF : Hid (∀ w', RmX w B G P s k w' r s' d' → Calls Tryz.prog 99 #[.pointer (some ⟨B.lB, 0, none⟩)] w' fun e w'' => e = .returned (.int .i64 ((G.N : Int) - s'.L.rs.length)) ∧ ∃ j, w'' = w'.drewN j) := Lib.hid (fun w' hw => free_lg w' hw.cg.lg)
    have hlen : s'.L.rs.length ≤ G.N := hR.cg.lg.gd.ring.len
    have hlI : (s'.L.rs.length : Int) ≤ (G.N : Int) := by omega
    have hl0 : (0 : Int) ≤ (s'.L.rs.length : Int) := by omega
    have HKk := Lib.hid hk
    clear hR
    by_cases hfree : G.N - 3 ≤ s'.L.rs.length
    · have HLG : Hid (∀ w1, RmX w B G P s k w1 r s' d' → Calls Tryz.prog 100 #[.pointer (some ⟨B.qB, 0, none⟩)] w1 fun e w2 => ∃ x : Int, e = .returned (.int .i64 x) ∧ ((x = 0 ∧ ∃ r2 s2 d2, RmX w B G P s (k + 1) w2 r2 s2 d2) ∨ (x ≠ 0 ∧ Roomy G B P s x w w2))) := Lib.hid (fun w1 a1 => by
        refine (letGo_x w1 a1.cg (by have := a1.K; have := HKk.out; have := HN.out; have := HK.out; omega) (a1.k.symm ▸ a1.un) hfree (by rw [a1.un.vis, a1.k]; exact HCu.out)).mono ?_
        rintro e w2 ⟨x, rfl, r2, s2, d2, hr2, hb2, hg2, hk2, hK2, hor⟩
        have hrr : r2 = B.rb ∨ w.heap.size ≤ r2 := by
          rcases hr2 with z | z
          · rw [z]; exact a1.r
          · exact .inr (Nat.le_trans a1.bu.size z)
        have hbu := but_new a1.bu hb2 (row_l a1.r)
        refine ⟨x, rfl, ?_⟩
        rcases hor with ⟨hx, hu2⟩ | ⟨hx, hdd, hv, hl2⟩
        · exact .inl ⟨hx, r2, s2, d2, hg2, hk2.trans a1.k, by have := a1.K; omega, a1.k ▸ hu2, hrr, hbu⟩
        · exact .inr ⟨hx, r2, s2, d2, hrr, hbu, hg2, hk2.trans a1.k, hv.trans a1.un.vis, by have := a1.K; have := HKk.out; have := HN.out; omega, hl2, .inr ⟨hx, hdd⟩⟩)
      have hlt : k < G.N := by have := HR.out.un.few hfree; omega
      have hltI : (k : Int) < (G.N : Int) := by omega
      have hfI : ¬ ((4 : Int) ≤ (G.N : Int) - (s'.L.rs.length : Int)) := by omega
      have HFr := Lib.hid (And.intro hfree hlt)
      clear hfree hlt hk hlen
      go_wp2_with (go_at_call 99; with_reducible refine (hF.out _ HR.out).mono ?_; rintro e w1 ⟨rfl, j1, hj⟩
                   have HR1 : Hid (RmX w B G P s k w1 r s' d') := Lib.hid (by rw [hj]; exact HR.out.drewN j1)
                   clear hj)
      refine (HLG.out _ HR1.out).mono ?_
      rintro e w2 ⟨x2, rfl, hor⟩
      rcases hor with ⟨rfl, r2, s2, d2, hr2⟩ | ⟨hx2, hro⟩
      · have HR2 := Lib.hid hr2
        clear hr2
        go_wp2_with fail
        go_roundw
        case rel => exact ⟨k + 1, r2, s2, d2, by have := HFr.out.2; omega, by go_num, HR2.out⟩
        case measure => have := HFr.out.2; simp [RowKit.intOf]; omega
      · have hx2' : ¬ x2 = 0 := hx2
        have HRo := Lib.hid hro
        clear hro hx2
        go_wp2_with fail
        go_ret
        exact ⟨_, rfl, HRo.out⟩
    · have hfI : ((4 : Int) ≤ (G.N : Int) - (s'.L.rs.length : Int)) := by omega
      have HFr := Lib.hid hfree
      clear hfree hlen
      have HE : Hid (∀ w', RmX w B G P s k w' r s' d' → Roomy G B P s 0 w w') := Lib.hid (fun w' a => ⟨r, s', d', a.r, a.bu, a.cg, a.k, a.un.vis, by have := a.K; have := HKk.out; have := HN.out; omega, a.un.ok, .inl ⟨rfl, by have := HFr.out; omega⟩⟩)
      by_cases hlt : k < G.N
      · have hltI : (k : Int) < (G.N : Int) := by omega
        clear hlt hk
        go_wp2_with (first
          | (go_at_call 99; with_reducible refine (hF.out _ HR2.out).mono ?_; rintro e w2 ⟨rfl, j2, hj⟩
             have HR3 : Hid (RmX w B G P s k w2 r s' d') := Lib.hid (by rw [hj]; exact HR2.out.drewN j2)
             clear hj)
          | (go_at_call 99; with_reducible refine (hF.out _ HR.out).mono ?_; rintro e w1 ⟨rfl, j1, hj⟩
             have HR2 : Hid (RmX w B G P s k w1 r s' d') := Lib.hid (by rw [hj]; exact HR.out.drewN j1)
             have q1 : w1.cell? ⟨B.qB, 0, none⟩ = some (.pointer (some ⟨B.lB, 0, none⟩)) := HR2.out.cg.qc.p0
             clear hj))
        go_ret
        exact ⟨_, rfl, HE.out _ HR3.out⟩
      · obtain rfl : k = G.N := by omega
        have hltI : ¬ (G.N : Int) < (G.N : Int) := by omega
        clear hlt hk
        go_wp2_with (first
          | (go_at_call 99; with_reducible refine (hF.out _ HR.out).mono ?_; rintro e w1 ⟨rfl, j1, hj⟩
             have HR2 : Hid (RmX w B G P s G.N w1 r s' d') := Lib.hid (by rw [hj]; exact HR.out.drewN j1)
             clear hj))
        go_ret
        exact ⟨_, rfl, HE.out _ HR2.out⟩

/-- how it is while records come -/
structure BrX (w0 : World) (B : Bk) (G : Gm) (P : Vi → Prop) (s : St) (b : Nat) (ds : List (Deed × Kp)) (i : Nat) (w : World) (r : Nat) (s' : St) (d' : M.Dv) : Prop where
  cg : CX w (B.row r) G P s' d'
  k : s'.k = lastK s.k (ds.take i)
  v : vis s'.E = runV (vis s.E) (ds.take i)
  K : s'.K ≤ s.K + 2000 + i
  ln : s'.L.rs.length ≤ G.N - 4 + i
  r : r = B.rb ∨ w0.heap.size ≤ r
  bu : But B.l w0 w
  row : RowD w b ds

/-- what bring leaves: all came, or those ahead of one, and the power is gone -/
def Brought (G : Gm) (B : Bk) (P P' : Vi → Prop) (s : St) (ds : List (Deed × Kp)) (x : Int) (w w' : World) : Prop := ∃ r s' d' i, (r = B.rb ∨ w.heap.size ≤ r) ∧ But B.l w w' ∧ i ≤ ds.length ∧ s'.k = lastK s.k (ds.take i) ∧ vis s'.E = runV (vis s.E) (ds.take i) ∧ s'.K ≤ s.K + 2002 ∧ LenOk G.N s'.L s'.E ∧
  ((x = 0 ∧ i = ds.length ∧ CX w' (B.row r) G P' s' d') ∨ (x ≠ 0 ∧ i < ds.length ∧ d'.dead = true ∧ CX w' (B.row r) G P s' d'))

set_option maxHeartbeats 4000000 in
theorem bring_x (w : World) (h : CX w B G P s d) (hK : s.K ≤ 700000000) (hl : LenOk G.N s.L s.E) (b cap : Nat) (ds : List (Deed × Kp)) (hds : ds.length ≤ 2) (hrow : RowD w b ds) (hb : b ∉ B.l) (ha : Adm G.nb G.N (vis s.E) ds) (hds0 : 1 ≤ ds.length)
    (hmid : ∀ i, i < ds.length → P ⟨runV (vis s.E) (ds.take i), lastK s.k (ds.take i)⟩) (hp : ∀ v, P v → P' v) (hend : P' ⟨runV (vis s.E) ds, lastK s.k ds⟩) :
    Calls Tryz.prog 51 #[.pointer (some ⟨B.qB, 0, none⟩), .slice (some ⟨b, 0, none⟩) ds.length cap] w fun e w' => ∃ x : Int, e = .returned (.int .i64 x) ∧ Brought G B P P' s ds x w w' := by
  have hn8 := h.hd.n8
  have hcur : P ⟨vis s.E, s.k⟩ := by have := hmid 0 (by omega); simpa [runV, lastK] using this
  have HM : Hid (Calls Tryz.prog 77 #[.pointer (some ⟨B.qB, 0, none⟩)] w fun e w' => ∃ x : Int, e = .returned (.int .i64 x) ∧ ((x = 0 ∧ ∃ r s' d', BrX w B G P s b ds 0 w' r s' d') ∨ (x ≠ 0 ∧ Brought G B P P' s ds x w w'))) := Lib.hid (by
    refine (makeRoom_x w h (by omega) hl hcur).mono ?_
    rintro e w' ⟨x, rfl, r, s', d', h1, h2, h3, h4, h5, h6, h7, h8⟩
    refine ⟨x, rfl, ?_⟩
    rcases h8 with ⟨hx, h8⟩ | ⟨hx, h8⟩
    · exact .inl ⟨hx, r, s', d', h3, by simpa [lastK] using h4, by simpa [runV] using h5, by omega, by omega, h1, h2, hrow.but h2 hb⟩
    · exact .inr ⟨hx, r, s', d', 0, h1, h2, by omega, by simpa [lastK] using h4, by simpa [runV] using h5, by omega, h7, .inr ⟨hx, by omega, h8, h3⟩⟩)
  have HC : Hid (∀ w' i r s' d' de k t v, BrX w B G P s b ds i w' r s' d' → ds[i]? = some (de, k) → de.val = .iface t v → Calls Tryz.prog 78 #[.pointer (some ⟨B.qB, 0, none⟩), .agg #[.iface t v, .int .i64 k.ep, .int .i64 k.sq, .int .i64 k.t0, .int .i64 k.t1, .int .i64 k.t2, .int .i64 k.t3]] w' fun e w'' => ∃ x : Int, e = .returned (.int .i64 x) ∧ ((x = 0 ∧ i + 1 < ds.length ∧ ∃ r s' d', BrX w B G P s b ds (i + 1) w'' r s' d') ∨ (x = 0 ∧ i + 1 = ds.length ∧ ∃ r s' d', BrX w B G P' s b ds (i + 1) w'' r s' d') ∨ (x ≠ 0 ∧ Brought G B P P' s ds x w w''))) := Lib.hid (fun w' i r s' d' de k t v a hi hv => by
    obtain ⟨a1, a2, a3⟩ := ha.at hi
    have hi2 : i < ds.length := (List.getElem?_eq_some_iff.1 hi).1
    have hcm : num G.nb (vis (step s'.E de s'.L.tail)) ≤ G.N - 6 := by rw [vis_step, a.v]; exact a3
    have htk : ds.take (i + 1) = ds.take i ++ [(de, k)] := by rw [List.take_add_one, hi]; rfl
    have hvv : vis (step s'.E de s'.L.tail) = runV (vis s.E) (ds.take (i + 1)) := by rw [htk, runV_snoc, ← a.v]; exact vis_step _ _ _
    have hkk : k = lastK s.k (ds.take (i + 1)) := by rw [htk, lastK_snoc]
    have hln : (s'.L.add (txQ de k)).rs.length ≤ G.N - 2 := by have := a.ln; simp [M.Lg.add]; omega
    have hlx : LenOk G.N s'.L s'.E := .inl (by have := a.ln; omega)
    have go : ∀ P2 : Vi → Prop, (∀ v, P v → P2 v) → P2 ⟨runV (vis s.E) (ds.take (i + 1)), lastK s.k (ds.take (i + 1))⟩ → Calls Tryz.prog 78 #[.pointer (some ⟨B.qB, 0, none⟩), .agg #[.iface t v, .int .i64 k.ep, .int .i64 k.sq, .int .i64 k.t0, .int .i64 k.t1, .int .i64 k.t2, .int .i64 k.t3]] w' fun e w'' => ∃ x : Int, e = .returned (.int .i64 x) ∧ ((x = 0 ∧ ∃ r s' d', BrX w B G P2 s b ds (i + 1) w'' r s' d') ∨ (x ≠ 0 ∧ Brought G B P P' s ds x w w'')) := fun P2 q1 q2 => by
      have := come_x (P' := P2) w' a.cg (by have := a.K; omega) (by have := a.ln; omega) de a1 k a2 hcm q1 (by rw [hvv]; rw [← hkk] at q2; exact q2) (.inl hln)
      unfold recV at this
      rw [hv] at this
      refine this.mono ?_
      rintro e w'' ⟨x, r2, d2, rfl, hr, hb2, hor⟩
      have hrr : r2 = B.rb ∨ w.heap.size ≤ r2 := by
        rcases hr with z | z
        · rw [z]; exact a.r
        · exact .inr (Nat.le_trans a.bu.size z)
      have hbu := but_new a.bu hb2 (row_l a.r)
      refine ⟨x, rfl, ?_⟩
      rcases hor with ⟨hx, hg⟩ | ⟨hx, hdd, hg⟩
      · refine .inl ⟨hx, r2, _, d2, hg, hkk, hvv, by have := a.K; simp only; omega, by have := a.ln; simp [M.Lg.add]; omega, hrr, hbu, a.row.but hb2 (fun z => ?_)⟩
        rcases row_l a.r b z with y | y
        · exact hb y
        · have := hrow.1; omega
      · exact .inr ⟨hx, r2, _, d2, i, hrr, hbu, by omega, a.k, a.v, by have := a.K; omega, hlx, .inr ⟨hx, hi2, hdd, hg⟩⟩
    by_cases hlast : i + 1 = ds.length
    · refine (go P' hp (by rw [hlast, List.take_length]; exact hend)).mono ?_
      rintro e w'' ⟨x, rfl, hor⟩
      rcases hor with ⟨hx, z⟩ | ⟨hx, z⟩
      · exact ⟨x, rfl, .inr (.inl ⟨hx, hlast, z⟩)⟩
      · exact ⟨x, rfl, .inr (.inr ⟨hx, z⟩)⟩
    · refine (go P (fun v hv => hv) (hmid _ (by omega))).mono ?_
      rintro e w'' ⟨x, rfl, hor⟩
      rcases hor with ⟨hx, z⟩ | ⟨hx, z⟩
      · exact ⟨x, rfl, .inl ⟨hx, by omega, z⟩⟩
      · exact ⟨x, rfl, .inr (.inr ⟨hx, z⟩)⟩)
  have HE : Hid (∀ w' r s' d', BrX w B G P' s b ds ds.length w' r s' d' → Brought G B P P' s ds 0 w w') := Lib.hid (fun w' r s' d' a => ⟨r, s', d', ds.length, a.r, a.bu, Nat.le_refl _, a.k, a.v, by have := a.K; omega, .inl (by have := a.ln; omega), .inl ⟨rfl, rfl, a.cg⟩⟩)
  have hdI : (ds.length : Int) ≤ 2 := by omega
  have hd0 : (0 : Int) ≤ (ds.length : Int) := by omega
  have HD0 := Lib.hid hds0
  clear h hK hl hds hrow hb ha hn8 hcur hmid hp hend hds0
  go_enter Tryz.func51, Tryz.ntmps51
  go_wp2_with fail
  refine HM.out.mono ?_
  rintro e w1 ⟨x1, rfl, hor⟩
  rcases hor with ⟨rfl, r1, s1, d1, h1⟩ | ⟨hx1, hro⟩
  · have H1 := Lib.hid h1
    clear h1
    go_wp2_with fail
    go_loopw [16] (fun i wr => ∃ (k r : Nat) (s' : St) (d' : M.Dv), k ≤ ds.length ∧ i = .int .i64 k ∧ ((k < ds.length ∧ BrX w B G P s b ds k wr r s' d') ∨ (k = ds.length ∧ BrX w B G P' s b ds k wr r s' d'))) (fun i _ => ds.length - (RowKit.intOf i).toNat)
    case atStart => exact ⟨0, _, _, _, by omega, rfl, .inl ⟨by have := HD0.out; omega, H1.out⟩⟩
    case round =>
      obtain ⟨k, r, s', d', hk, rfl, hR⟩ := hrel
      rcases hR with ⟨hlt, hR⟩ | ⟨hke, hR⟩
      · have HR := Lib.hid hR
        clear hR H1 HM
        have hltI : (k : Int) < (ds.length : Int) := by omega
        obtain ⟨⟨de, kk⟩, hx⟩ : ∃ x, ds[k]? = some x := ⟨_, List.getElem?_eq_getElem hlt⟩
        obtain ⟨t, v, hv⟩ := de.val_iface
        obtain ⟨c0, c1, c2, c3, c4, c5, c6⟩ := HR.out.row.2 k de kk hx
        rw [hv] at c0
        have HR2 : Hid (BrX w B G P s b ds k (wr.alloc (.cells #[.iface t v, .int .i64 kk.ep, .int .i64 kk.sq, .int .i64 kk.t0, .int .i64 kk.t1, .int .i64 kk.t2, .int .i64 kk.t3] 98)) r s' d') := Lib.hid (by
          have a := HR.out
          have hb := (Below.refl wr.heap.size wr).alloc (Nat.le_refl _) (.cells #[.iface t v, .int .i64 kk.ep, .int .i64 kk.sq, .int .i64 kk.t0, .int .i64 kk.t1, .int .i64 kk.t2, .int .i64 kk.t3] 98)
          exact ⟨a.cg.below hb, a.k, a.v, a.K, a.ln, a.r, a.bu.below hb a.bu.size, a.row.but (But.of_below hb) (by simp)⟩)
        have HX := Lib.hid (HC.out _ _ _ _ _ _ _ _ _ HR2.out hx hv)
        have HLt := Lib.hid hlt
        clear hlt hx hk
        go_wp2_with fail
        refine HX.out.mono ?_
        rintro e w3 ⟨x3, rfl, hor⟩
        rcases hor with ⟨rfl, hl3, r3, s3, d3, h3⟩ | ⟨rfl, hl3, r3, s3, d3, h3⟩ | ⟨hx3, hro⟩
        · have H3 := Lib.hid (And.intro hl3 h3)
          clear hl3 h3
          go_wp2_with fail
          go_roundw
          case rel => exact ⟨k + 1, r3, s3, d3, by have := HLt.out; omega, by go_num, .inl H3.out⟩
          case measure => have := HLt.out; simp [RowKit.intOf]; omega
        · have H3 := Lib.hid (And.intro hl3 h3)
          clear hl3 h3
          go_wp2_with fail
          go_roundw
          case rel => exact ⟨k + 1, r3, s3, d3, by have := HLt.out; omega, by go_num, .inr H3.out⟩
          case measure => have := HLt.out; simp [RowKit.intOf]; omega
        · have hx3' : ¬ x3 = 0 := hx3
          have HRo := Lib.hid hro
          clear hro hx3
          go_wp2_with fail
          go_ret
          exact ⟨_, rfl, HRo.out⟩
      · have HR := Lib.hid hR
        clear hR H1 HM
        obtain rfl : k = ds.length := hke
        have hltI : ¬ (ds.length : Int) < (ds.length : Int) := by omega
        clear hk
        go_wp2_with fail
        go_ret
        exact ⟨_, rfl, HE.out _ _ _ _ HR.out⟩
  · have hx1' : ¬ x1 = 0 := hx1
    have HRo := Lib.hid hro
    clear hro hx1
    go_wp2_with fail
    go_ret
    exact ⟨_, rfl, HRo.out⟩
end Q
end Go.Proofs.YtmcalgnpinolmaaGreat
