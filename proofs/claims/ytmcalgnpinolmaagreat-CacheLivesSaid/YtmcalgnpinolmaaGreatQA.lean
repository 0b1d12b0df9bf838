/-
  Plain mathematics of a cache: entries, records, what records make of it, what is seen of it.
  What the cache's small functions tell.
  What is kept: behind an entry that is laid; of a version and numbers.
  What is kept of a version and numbers.
  The cache's map in memory, as a function of the block.
  What a record does to a cache in memory.
  A record's payload, as the code tells it.
  The entry that a record laid.
  What a cache's log holds, and what becomes of it as records come and go.
-/
import Derived.Test.YtmcalgnpinolmaaGreatLmath
import Derived.Test.YtmcalgnpinolmaaGreatCEncw
import Derived.Test.YtmcalgnpinolmaaGreatSMem
import Derived.Test.YtmcalgnpinolmaaGreatLmem
import Derived.Test.YtmcalgnpinolmaaGreatSPend
import Derived.Test.YtmcalgnpinolmaaGreatCDecs
import Derived.Test.YtmcalgnpinolmaaGreatLog4
import Derived.Test.YtmcalgnpinolmaaGreatSDev4
import Derived.Deep.RegionHeld3
import Derived.Laws.Cover3
set_option linter.unusedVariables false
namespace Go.Proofs.YtmcalgnpinolmaaGreat.Q

structure En where
  b : Int
  ep : Int
  sq : Int
  data : ByteArray
  dirty : Bool
  cl : Int
  n : Int

structure Kp where
  ep : Int
  sq : Int
  t0 : Int
  t1 : Int
  t2 : Int
  t3 : Int

inductive Deed where
  | lay (e : En)
  | clean (b ep sq : Int)
  | drop (b : Int)
  | note

/-- an entry, and the number of the record that laid it -/
structure La where
  e : En
  pos : Int

def fl (x : Bool) : Int := if x then 1 else 0
def kp0 : Kp := ⟨0, 0, 0, 0, 0, 0⟩

structure MayE (nb : Nat) (e : En) : Prop where
  b0 : 0 ≤ e.b
  b1 : e.b < (nb : Int)
  p0 : 1 ≤ e.ep
  p1 : e.ep ≤ 4611686018427387904
  q0 : 1 ≤ e.sq
  q1 : e.sq ≤ 4611686018427387904
  sz : e.data.size = 8
  c0 : -1 ≤ e.cl
  c1 : e.cl < 4
  n0 : 0 ≤ e.n
  n1 : e.n ≤ 4611686018427387904

def In0 (x : Int) : Prop := 0 ≤ x ∧ x ≤ 4611686018427387904
def In1 (x : Int) : Prop := 1 ≤ x ∧ x ≤ 4611686018427387904
instance (x : Int) : Decidable (In0 x) := by unfold In0; infer_instance
instance (x : Int) : Decidable (In1 x) := by unfold In1; infer_instance

structure MayK (k : Kp) : Prop where
  p : In0 k.ep
  q : In0 k.sq
  a0 : In0 k.t0
  a1 : In0 k.t1
  a2 : In0 k.t2
  a3 : In0 k.t3

def MayD (nb : Nat) : Deed → Prop
  | .lay e => MayE nb e
  | .clean b ep sq => (0 ≤ b ∧ b < (nb : Int)) ∧ In1 ep ∧ In1 sq
  | .drop b => 0 ≤ b ∧ b < (nb : Int)
  | .note => True

def recQ : Deed → Kp → C.M.Rc
  | .lay e, k => ⟨10, [e.b, e.ep, e.sq, fl e.dirty, e.cl, e.n, k.ep, k.sq, k.t0, k.t1, k.t2, k.t3], [e.data]⟩
  | .clean b ep sq, k => ⟨11, [b, ep, sq, k.ep, k.sq, k.t0, k.t1, k.t2, k.t3], []⟩
  | .drop b, k => ⟨12, [b, k.ep, k.sq, k.t0, k.t1, k.t2, k.t3], []⟩
  | .note, k => ⟨13, [k.ep, k.sq, k.t0, k.t1, k.t2, k.t3], []⟩
def txQ (d : Deed) (k : Kp) : ByteArray := ⟨(C.M.enc (recQ d k)).toArray⟩

theorem fl_in (x : Bool) : 0 ≤ fl x ∧ fl x ≤ 1 := by unfold fl; split <;> simp

theorem recQ_may {nb : Nat} {d : Deed} {k : Kp} (hd : MayD nb d) (hnb : nb ≤ 32) (hk : MayK k) : C.M.May (recQ d k) ∧ C.M.Fits (recQ d k) := by
  obtain ⟨k1, k2, k3, k4, k5, k6⟩ := hk
  unfold In0 at k1 k2 k3 k4 k5 k6
  cases d with
  | lay e =>
    have hf := fl_in e.dirty
    obtain ⟨h1, h2, h3, h4, h5, h6, h7, h8, h9, h10, h11⟩ := hd
    refine ⟨⟨by simp [recQ], by simp [recQ], by simp [recQ], by simp [recQ], fun x hx => ?_⟩, fun x hx => ?_⟩
    · simp [recQ] at hx; subst hx; omega
    · simp [recQ] at hx
      unfold C.M.fits
      rcases hx with rfl | rfl | rfl | rfl | rfl | rfl | rfl | rfl | rfl | rfl | rfl | rfl <;> omega
  | clean b ep sq =>
    obtain ⟨h1, h2, h3⟩ := hd
    unfold In1 at h2 h3
    refine ⟨⟨by simp [recQ], by simp [recQ], by simp [recQ], by simp [recQ], fun x hx => ?_⟩, fun x hx => ?_⟩
    · simp [recQ] at hx
    · simp [recQ] at hx
      unfold C.M.fits
      rcases hx with rfl | rfl | rfl | rfl | rfl | rfl | rfl | rfl | rfl <;> omega
  | drop b =>
    have h1 : 0 ≤ b ∧ b < (nb : Int) := hd
    refine ⟨⟨by simp [recQ], by simp [recQ], by simp [recQ], by simp [recQ], fun x hx => ?_⟩, fun x hx => ?_⟩
    · simp [recQ] at hx
    · simp [recQ] at hx
      unfold C.M.fits
      rcases hx with rfl | rfl | rfl | rfl | rfl | rfl | rfl <;> omega
  | note =>
    refine ⟨⟨by simp [recQ], by simp [recQ], by simp [recQ], by simp [recQ], fun x hx => ?_⟩, fun x hx => ?_⟩
    · simp [recQ] at hx
    · simp [recQ] at hx
      unfold C.M.fits
      rcases hx with rfl | rfl | rfl | rfl | rfl | rfl <;> omega

theorem num_one {x : Int} (h1 : -64 ≤ x) (h2 : x < 64) : (C.M.num x).length = 1 := by
  have : C.M.zig x < 128 := by unfold C.M.zig; split <;> omega
  unfold C.M.num C.M.vb
  rw [if_pos this]
  rfl

theorem txQ_size {nb : Nat} {d : Deed} {k : Kp} (hd : MayD nb d) (hnb : nb ≤ 32) : (txQ d k).size ≤ 110 := by
  have e : (txQ d k).size = (C.M.enc (recQ d k)).length := by rw [← C.M.size_list]; rfl
  have z1 := (C.M.num_len k.ep).2
  have z2 := (C.M.num_len k.sq).2
  have z3 := (C.M.num_len k.t0).2
  have z4 := (C.M.num_len k.t1).2
  have z5 := (C.M.num_len k.t2).2
  have z6 := (C.M.num_len k.t3).2
  rw [e, C.M.enc_len]
  cases d with
  | lay x =>
    have hf := fl_in x.dirty
    obtain ⟨h1, h2, h3, h4, h5, h6, h7, h8, h9, h10, h11⟩ := hd
    have y1 := num_one (x := x.b) (by omega) (by omega)
    have y2 := num_one (x := fl x.dirty) (by omega) (by omega)
    have y3 := num_one (x := x.cl) (by omega) (by omega)
    have y4 := (C.M.num_len x.ep).2
    have y5 := (C.M.num_len x.sq).2
    have y6 := (C.M.num_len x.n).2
    simp [recQ]
    omega
  | clean b ep sq =>
    have y4 := (C.M.num_len b).2
    have y5 := (C.M.num_len ep).2
    have y6 := (C.M.num_len sq).2
    simp [recQ]
    omega
  | drop b =>
    have y4 := (C.M.num_len b).2
    simp [recQ]
    omega
  | note =>
    simp [recQ]
    omega

/-! what a record makes of the entries -/
abbrev Mp := Int → Option La
def upd (E : Mp) (b : Int) (x : Option La) : Mp := fun c => if c = b then x else E c
def none0 : Mp := fun _ => none
def step (E : Mp) : Deed → Int → Mp
  | .lay e, p => upd E e.b (some ⟨e, p⟩)
  | .clean b ep sq, _ => match E b with
    | some x => if x.e.ep = ep ∧ x.e.sq = sq then upd E b (some ⟨{ x.e with dirty := false }, x.pos⟩) else E
    | none => E
  | .drop b, _ => upd E b none
  | .note, _ => E
def run : Int → Mp → List (Deed × Kp) → Mp
  | _, E, [] => E
  | p, E, x :: l => run (p + 1) (step E x.1 p) l
def lastK (k : Kp) (l : List (Deed × Kp)) : Kp := match l.getLast? with
  | some x => x.2
  | none => k

theorem upd_same (E : Mp) (b : Int) (x : Option La) : upd E b x b = x := if_pos rfl
theorem upd_other {b c : Int} (E : Mp) (x : Option La) (h : c ≠ b) : upd E b x c = E c := if_neg h
theorem run_append (p : Int) (E : Mp) (l m : List (Deed × Kp)) : run p E (l ++ m) = run (p + l.length) (run p E l) m := by
  induction l generalizing p E with
  | nil => simp [run]
  | cons x l ih =>
    simp only [List.cons_append, run, ih]
    congr 1
    simp; omega
theorem run_snoc (p : Int) (E : Mp) (l : List (Deed × Kp)) (x : Deed × Kp) : run p E (l ++ [x]) = step (run p E l) x.1 (p + l.length) := by
  rw [run_append]; rfl
theorem lastK_snoc (k : Kp) (l : List (Deed × Kp)) (x : Deed × Kp) : lastK k (l ++ [x]) = x.2 := by simp [lastK]
theorem lastK_tail (k : Kp) (x : Deed × Kp) (l : List (Deed × Kp)) (h : l ≠ []) : lastK k (x :: l) = lastK k l := by
  cases l with
  | nil => exact absurd rfl h
  | cons y l => simp [lastK, List.getLast?_cons_cons]

/-- entries that are well -/
structure OkE (nb : Nat) (h t : Int) (E : Mp) : Prop where
  key : ∀ b x, E b = some x → x.e.b = b
  may : ∀ b x, E b = some x → MayE nb x.e
  pos : ∀ b x, E b = some x → h ≤ x.pos ∧ x.pos < t
  inj : ∀ b c x y, E b = some x → E c = some y → x.pos = y.pos → b = c

theorem OkE.none (nb : Nat) (h : Int) : OkE nb h h none0 := ⟨fun _ _ g => (by cases g), fun _ _ g => (by cases g), fun _ _ g => (by cases g), fun _ _ _ _ g => (by cases g)⟩

theorem OkE.range {nb : Nat} {h t : Int} {E : Mp} (o : OkE nb h t E) {b : Int} {x : La} (hx : E b = some x) : 0 ≤ b ∧ b < (nb : Int) := by
  have h1 := o.may b x hx
  have h2 := o.key b x hx
  have h3 := h1.b0
  have h4 := h1.b1
  omega

theorem step_ok {nb : Nat} {h t : Int} {E : Mp} {d : Deed} (o : OkE nb h t E) (hht : h ≤ t) (hd : MayD nb d) : OkE nb h (t + 1) (step E d t) := by
  have o' : OkE nb h (t + 1) E := ⟨o.key, o.may, fun b x hx => by have := o.pos b x hx; omega, o.inj⟩
  cases d with
  | lay e =>
    refine ⟨fun b x hx => ?_, fun b x hx => ?_, fun b x hx => ?_, fun b c x y hx hy he => ?_⟩
    · simp only [step, upd] at hx
      split at hx
      · rename_i hb; injection hx with hx; subst hx; exact hb.symm
      · exact o.key b x hx
    · simp only [step, upd] at hx
      split at hx
      · injection hx with hx; subst hx; exact hd
      · exact o.may b x hx
    · simp only [step, upd] at hx
      split at hx
      · injection hx with hx; subst hx; simp only; omega
      · have := o.pos b x hx; omega
    · simp only [step, upd] at hx hy
      split at hx
      · rename_i hb
        split at hy
        · rename_i hc; omega
        · injection hx with hx; subst hx
          have := o.pos c y hy
          simp only at he; omega
      · split at hy
        · injection hy with hy; subst hy
          have := o.pos b x hx
          simp only at he; omega
        · exact o.inj b c x y hx hy he
  | clean b0 ep sq =>
    simp only [step]
    split
    · rename_i x0 h0
      split
      · refine ⟨fun b x hx => ?_, fun b x hx => ?_, fun b x hx => ?_, fun b c x y hx hy he => ?_⟩
        · simp only [upd] at hx
          split at hx
          · rename_i hb; injection hx with hx; subst hx; rw [hb]; exact o.key b0 x0 h0
          · exact o.key b x hx
        · simp only [upd] at hx
          split at hx
          · injection hx with hx; subst hx
            obtain ⟨a1, a2, a3, a4, a5, a6, a7, a8, a9, a10, a11⟩ := o.may b0 x0 h0
            exact ⟨a1, a2, a3, a4, a5, a6, a7, a8, a9, a10, a11⟩
          · exact o.may b x hx
        · simp only [upd] at hx
          split at hx
          · injection hx with hx; subst hx
            have := o.pos b0 x0 h0
            simp only; omega
          · have := o.pos b x hx; omega
        · simp only [upd] at hx hy
          split at hx
          · rename_i hb
            injection hx with hx; subst hx
            split at hy
            · rename_i hc; omega
            · rw [hb]; exact o.inj b0 c x0 y h0 hy he
          · split at hy
            · rename_i hc
              injection hy with hy; subst hy
              rw [hc]; exact o.inj b b0 x x0 hx h0 he
            · exact o.inj b c x y hx hy he
      · exact o'
    · exact o'
  | drop b0 =>
    refine ⟨fun b x hx => ?_, fun b x hx => ?_, fun b x hx => ?_, fun b c x y hx hy he => ?_⟩
    · simp only [step, upd] at hx
      split at hx
      · cases hx
      · exact o.key b x hx
    · simp only [step, upd] at hx
      split at hx
      · cases hx
      · exact o.may b x hx
    · simp only [step, upd] at hx
      split at hx
      · cases hx
      · have := o.pos b x hx; omega
    · simp only [step, upd] at hx hy
      split at hx
      · cases hx
      · split at hy
        · cases hy
        · exact o.inj b c x y hx hy he
  | note => exact o'

theorem run_ok {nb : Nat} {h t : Int} {E : Mp} {l : List (Deed × Kp)} (o : OkE nb h t E) (hht : h ≤ t) (hl : ∀ x ∈ l, MayD nb x.1) : OkE nb h (t + l.length) (run t E l) := by
  induction l generalizing t E with
  | nil => simpa [run] using o
  | cons x l ih =>
    have := ih (step_ok o hht (hl x (by simp))) (by omega) (fun y hy => hl y (by simp [hy]))
    have e : t + ((x :: l).length : Int) = t + 1 + (l.length : Int) := by simp; omega
    rw [e]
    exact this

/-! the first record let go -/
def Rel (b h : Int) (E F : Mp) : Prop := (∀ c, E c = F c) ∨ ((∀ c, c ≠ b → E c = F c) ∧ (∃ x, E b = some x ∧ x.pos = h) ∧ F b = none)

theorem rel_step {b h p : Int} {E F : Mp} (r : Rel b h E F) (d : Deed) : Rel b h (step E d p) (step F d p) := by
  rcases r with r | ⟨r1, ⟨x, r2, r3⟩, r4⟩
  · left
    obtain rfl : E = F := funext r
    exact fun c => rfl
  · cases d with
    | lay e =>
      by_cases he : e.b = b
      · left
        intro c
        simp only [step, upd]
        split
        · rfl
        · exact r1 c (by omega)
      · right
        refine ⟨fun c hc => ?_, ⟨x, ?_, r3⟩, ?_⟩
        · simp only [step, upd]
          split
          · rfl
          · exact r1 c hc
        · simp only [step]; rw [upd_other _ _ (Ne.symm he)]; exact r2
        · simp only [step]; rw [upd_other _ _ (Ne.symm he)]; exact r4
    | clean b0 ep sq =>
      by_cases he : b0 = b
      · subst he
        right
        simp only [step, r2, r4]
        split
        · exact ⟨fun c hc => by rw [upd_other _ _ hc]; exact r1 c hc, ⟨_, upd_same _ _ _, r3⟩, trivial⟩
        · exact ⟨r1, ⟨x, r2, r3⟩, trivial⟩
      · right
        simp only [step, ← r1 b0 he]
        cases hE : E b0 with
        | none => exact ⟨r1, ⟨x, r2, r3⟩, r4⟩
        | some y =>
          simp only
          split
          · refine ⟨fun c hc => ?_, ⟨x, ?_, r3⟩, ?_⟩
            · simp only [upd]
              split
              · rfl
              · exact r1 c hc
            · rw [upd_other _ _ (Ne.symm he)]; exact r2
            · rw [upd_other _ _ (Ne.symm he)]; exact r4
          · exact ⟨r1, ⟨x, r2, r3⟩, r4⟩
    | drop b0 =>
      by_cases he : b0 = b
      · left
        intro c
        simp only [step, upd]
        split
        · rfl
        · exact r1 c (by omega)
      · right
        refine ⟨fun c hc => ?_, ⟨x, ?_, r3⟩, ?_⟩
        · simp only [step, upd]
          split
          · rfl
          · exact r1 c hc
        · simp only [step]; rw [upd_other _ _ (Ne.symm he)]; exact r2
        · simp only [step]; rw [upd_other _ _ (Ne.symm he)]; exact r4
    | note => exact .inr ⟨r1, ⟨x, r2, r3⟩, r4⟩

theorem rel_run {b h : Int} {l : List (Deed × Kp)} {p : Int} {E F : Mp} (r : Rel b h E F) : Rel b h (run p E l) (run p F l) := by
  induction l generalizing p E F with
  | nil => exact r
  | cons x l ih => exact ih (rel_step r x.1)

/-- what stays says the same, where no entry has the first record's number -/
theorem run_tail {h : Int} {x : Deed × Kp} {l : List (Deed × Kp)} (hn : ∀ b y, run h none0 (x :: l) b = some y → y.pos ≠ h) : run (h + 1) none0 l = run h none0 (x :: l) := by
  obtain ⟨d, k⟩ := x
  have key : ∃ b, Rel b h (step none0 d h) none0 := by
    cases d with
    | lay e => exact ⟨e.b, .inr ⟨fun c hc => by simp only [step]; rw [upd_other _ _ hc], ⟨_, upd_same _ _ _, rfl⟩, rfl⟩⟩
    | clean b ep sq => exact ⟨0, .inl fun c => rfl⟩
    | drop b => exact ⟨0, .inl fun c => by simp only [step, upd, none0, ite_self]⟩
    | note => exact ⟨0, .inl fun c => rfl⟩
  obtain ⟨b, hr⟩ := key
  have := rel_run (p := h + 1) (l := l) hr
  rcases this with r | ⟨_, ⟨y, r2, r3⟩, _⟩
  · exact (funext r).symm
  · exact absurd r3 (hn b y r2)

/-! how many -/
def cnt : Nat → (Int → Bool) → Nat
  | 0, _ => 0
  | n + 1, f => cnt n f + (if f (n : Int) then 1 else 0)
theorem cnt_mono {n : Nat} {f g : Int → Bool} (h : ∀ b : Int, 0 ≤ b → b < (n : Int) → f b = true → g b = true) : cnt n f ≤ cnt n g := by
  induction n with
  | zero => exact Nat.le_refl _
  | succ n ih =>
    have i1 := ih fun b h0 h1 h2 => h b h0 (by omega) h2
    have i2 := h (n : Int) (by omega) (by omega)
    unfold cnt
    cases hf : f (n : Int) with
    | false => simp only [Bool.false_eq_true, if_false]; omega
    | true => rw [i2 hf]; simp only [if_true]; omega
theorem cnt_congr {n : Nat} {f g : Int → Bool} (h : ∀ b : Int, 0 ≤ b → b < (n : Int) → f b = g b) : cnt n f = cnt n g :=
  Nat.le_antisymm (cnt_mono fun b h0 h1 h2 => by rw [← h b h0 h1]; exact h2) (cnt_mono fun b h0 h1 h2 => by rw [h b h0 h1]; exact h2)
theorem cnt_set {n : Nat} {f g : Int → Bool} {b : Int} (h0 : 0 ≤ b) (h1 : b < (n : Int)) (hf : f b = false) (hg : g b = true) (h : ∀ c, c ≠ b → g c = f c) : cnt n g = cnt n f + 1 := by
  induction n with
  | zero => omega
  | succ n ih =>
    unfold cnt
    by_cases hb : b = (n : Int)
    · subst hb
      rw [hf, hg, cnt_congr (n := n) (f := g) (g := f) fun c hc0 hc1 => h c (by omega)]
      simp
    · rw [ih (by omega), h (n : Int) (Ne.symm hb)]
      omega
theorem cnt_le (n : Nat) (f : Int → Bool) : cnt n f ≤ n := by
  induction n with
  | zero => exact Nat.le_refl _
  | succ n ih => unfold cnt; split <;> omega

/-! what is seen -/
abbrev Vm := Int → Option En
def vis (E : Mp) : Vm := fun b => (E b).map (·.e)
structure Vi where
  e : Vm
  k : Kp

def allV : Nat → Vm → List En
  | 0, _ => []
  | n + 1, e => allV n e ++ (match e (n : Int) with | some x => [x] | none => [])
def num (nb : Nat) (e : Vm) : Nat := cnt nb fun b => (e b).isSome
theorem allV_len (nb : Nat) (e : Vm) : (allV nb e).length = num nb e := by
  unfold num
  induction nb with
  | zero => rfl
  | succ n ih =>
    unfold allV cnt
    rw [List.length_append, ih]
    cases he : e (n : Int) <;> simp [he]
theorem mem_allV {nb : Nat} {e : Vm} {x : En} : x ∈ allV nb e ↔ ∃ b : Int, 0 ≤ b ∧ b < (nb : Int) ∧ e b = some x := by
  induction nb with
  | zero => simp [allV]; intro b h1 h2; omega
  | succ n ih =>
    unfold allV
    rw [List.mem_append, ih]
    constructor
    · rintro (⟨b, h1, h2, h3⟩ | h)
      · exact ⟨b, h1, by omega, h3⟩
      · cases hn : e (n : Int) with
        | none => rw [hn] at h; simp at h
        | some y => rw [hn] at h; simp at h; subst h; exact ⟨n, by omega, by omega, hn⟩
    · rintro ⟨b, h1, h2, h3⟩
      by_cases hb : b = (n : Int)
      · right; subst hb; rw [h3]; simp
      · exact .inl ⟨b, h1, by omega, h3⟩
theorem allV_congr {nb : Nat} {e f : Vm} (h : ∀ b : Int, 0 ≤ b → b < (nb : Int) → e b = f b) : allV nb e = allV nb f := by
  induction nb with
  | zero => rfl
  | succ n ih => unfold allV; rw [ih fun b h0 h1 => h b h0 (by omega), h (n : Int) (by omega) (by omega)]

def ord (a b c d : Int) : Int := if a < c then -1 else if c < a then 1 else if b < d then -1 else if d < b then 1 else 0
def minL : En → List En → En
  | m, [] => m
  | m, x :: l => minL (if ord x.ep x.sq m.ep m.sq < 0 then x else m) l
def lowL : List En → Option En
  | [] => none
  | x :: l => some (minL x l)
def lowest (nb : Nat) (e : Vm) : Option En := lowL ((allV nb e).filter fun x => !x.dirty)

theorem minL_mem (m : En) (l : List En) : minL m l = m ∨ minL m l ∈ l := by
  induction l generalizing m with
  | nil => exact .inl rfl
  | cons x l ih =>
    unfold minL
    rcases ih (if ord x.ep x.sq m.ep m.sq < 0 then x else m) with h | h
    · rw [h]
      split
      · exact .inr (by simp)
      · exact .inl rfl
    · exact .inr (by simp [h])
theorem lowest_mem {nb : Nat} {e : Vm} {x : En} (h : lowest nb e = some x) : x ∈ allV nb e ∧ x.dirty = false := by
  unfold lowest at h
  cases hl : (allV nb e).filter fun x => !x.dirty with
  | nil => rw [hl] at h; cases h
  | cons y l =>
    rw [hl] at h
    simp only [lowL, Option.some.injEq] at h
    have hm : x ∈ y :: l := by
      rcases minL_mem y l with g | g
      · rw [← h, g]; simp
      · rw [← h]; simp [g]
    rw [← hl, List.mem_filter] at hm
    exact ⟨hm.1, by simpa using hm.2⟩
theorem lowest_none {nb : Nat} {e : Vm} (h : lowest nb e = none) : ∀ x ∈ allV nb e, x.dirty = true := by
  intro x hx
  unfold lowest at h
  cases hl : (allV nb e).filter fun x => !x.dirty with
  | nil =>
    cases hd : x.dirty with
    | true => rfl
    | false =>
      have : x ∈ (allV nb e).filter fun x => !x.dirty := List.mem_filter.2 ⟨hx, by simp [hd]⟩
      rw [hl] at this; simp at this
  | cons y l => rw [hl] at h; cases h

def Kp.get (k : Kp) (i : Int) : Int := if i = 0 then k.t0 else if i = 1 then k.t1 else if i = 2 then k.t2 else if i = 3 then k.t3 else 0
def Kp.set (k : Kp) (i x : Int) : Kp := if i = 0 then { k with t0 := x } else if i = 1 then { k with t1 := x } else if i = 2 then { k with t2 := x } else if i = 3 then { k with t3 := x } else k
def behind (k : Kp) (e : En) : Kp := if e.cl = -1 then ⟨e.ep, e.sq, k.t0, k.t1, k.t2, k.t3⟩ else Kp.set ⟨e.ep, e.sq, k.t0, k.t1, k.t2, k.t3⟩ e.cl (max (k.get e.cl) e.n)

/-! what is told of what may be -/
def checkE (nb : Nat) (e : En) : Int :=
  if ¬ (0 ≤ e.b ∧ e.b < (nb : Int)) then 2 else if e.data.size ≠ 8 then 3
  else if ¬ (In1 e.ep ∧ In1 e.sq) ∨ e.cl < -1 ∨ 4 ≤ e.cl ∨ ¬ In0 e.n then 1 else 0
theorem check_may {nb : Nat} {e : En} (h : checkE nb e = 0) : MayE nb e := by
  unfold checkE at h
  split at h
  · cases h
  · rename_i h1
    split at h
    · cases h
    · rename_i h2
      split at h
      · cases h
      · rename_i h3
        unfold In0 In1 at h3
        refine ⟨?_, ?_, ?_, ?_, ?_, ?_, ?_, ?_, ?_, ?_, ?_⟩ <;> omega
theorem may_check {nb : Nat} {e : En} (h : MayE nb e) : checkE nb e = 0 := by
  obtain ⟨h1, h2, h3, h4, h5, h6, h7, h8, h9, h10, h11⟩ := h
  unfold checkE In0 In1
  rw [if_neg (by omega), if_neg (by omega), if_neg (by omega)]

/-! acts, as they are seen -/
def updV (e : Vm) (b : Int) (x : Option En) : Vm := fun c => if c = b then x else e c
def layV (V : Vi) (e : En) : Vi := ⟨updV V.e e.b (some e), behind V.k e⟩
def dropV (V : Vi) (b : Int) : Vi := ⟨updV V.e b none, V.k⟩
def cleanV (V : Vi) (b : Int) (x : En) : Vi := ⟨updV V.e b (some { x with dirty := false }), V.k⟩
theorem vis_upd (E : Mp) (b : Int) (x : Option La) : vis (upd E b x) = updV (vis E) b (x.map (·.e)) := by
  funext c; unfold vis upd updV; split <;> rfl
end Go.Proofs.YtmcalgnpinolmaaGreat.Q
namespace Go.Proofs.YtmcalgnpinolmaaGreat
open Go.RowKit
set_option linter.unusedVariables false
set_option linter.unusedSimpArgs false
set_option maxRecDepth 20000
namespace Q

theorem within_q (w : World) (k low : Int) : Calls Tryz.prog 70 #[.int .i64 k, .int .i64 low] w fun e w' => e = .returned (.bool (decide (low ≤ k ∧ k ≤ 4611686018427387904))) ∧ w = w' := by
  by_cases c1 : low ≤ k
  · by_cases c2 : k ≤ 4611686018427387904
    · rw [decide_eq_true (show low ≤ k ∧ k ≤ 4611686018427387904 from ⟨c1, c2⟩)]
      go_enter Tryz.func70, Tryz.ntmps70
      go_wp2
      go_ret
      exact ⟨rfl, rfl⟩
    · rw [decide_eq_false (show ¬ (low ≤ k ∧ k ≤ 4611686018427387904) from fun z => c2 z.2)]
      go_enter Tryz.func70, Tryz.ntmps70
      go_wp2
      go_ret
      exact ⟨rfl, rfl⟩
  · rw [decide_eq_false (show ¬ (low ≤ k ∧ k ≤ 4611686018427387904) from fun z => c1 z.1)]
    go_enter Tryz.func70, Tryz.ntmps70
    go_wp2
    go_ret
    exact ⟨rfl, rfl⟩

theorem within0 (w : World) (k : Int) : Calls Tryz.prog 70 #[.int .i64 k, .int .i64 0] w fun e w' => e = .returned (.bool (decide (In0 k))) ∧ w = w' := within_q w k 0
theorem within1 (w : World) (k : Int) : Calls Tryz.prog 70 #[.int .i64 k, .int .i64 1] w fun e w' => e = .returned (.bool (decide (In1 k))) ∧ w = w' := within_q w k 1

theorem flag_q (w : World) (x : Bool) : Calls Tryz.prog 93 #[.bool x] w fun e w' => e = .returned (.int .i64 (fl x)) ∧ w = w' := by
  cases x with
  | true =>
    go_enter Tryz.func93, Tryz.ntmps93
    go_wp2
    go_ret
    exact ⟨rfl, rfl⟩
  | false =>
    go_enter Tryz.func93, Tryz.ntmps93
    go_wp2
    go_ret
    exact ⟨rfl, rfl⟩

theorem nan_q (w : World) (x : Int) : Calls Tryz.prog 97 #[.int .i64 x] w fun e w' => e = .returned (.bool false) ∧ w = w' := by
  go_enter Tryz.func97, Tryz.ntmps97
  go_wp2
  go_ret
  exact ⟨by simp, rfl⟩

def cmp1 (a b : Int) : Int := if a < b then -1 else if b < a then 1 else 0
theorem ord_cmp (a b c d : Int) : ord a b c d = if cmp1 a c ≠ 0 then cmp1 a c else cmp1 b d := by
  unfold ord cmp1
  repeat' split
  all_goals first | rfl | omega

theorem compare_q (w : World) (a b : Int) : Calls Tryz.prog 72 #[.int .i64 a, .int .i64 b] w fun e w' => e = .returned (.int .i64 (cmp1 a b)) ∧ w = w' := by
  unfold cmp1
  by_cases c1 : a < b
  · rw [if_pos c1]
    go_enter Tryz.func72, Tryz.ntmps72
    go_wp2_with (go_at_call 97; refine (nan_q _ _).mono ?_; rintro e w' ⟨rfl, rfl⟩)
    go_ret
    exact ⟨rfl, rfl⟩
  · rw [if_neg c1]
    by_cases c2 : b < a
    · rw [if_pos c2]
      go_enter Tryz.func72, Tryz.ntmps72
      go_wp2_with (go_at_call 97; refine (nan_q _ _).mono ?_; rintro e w' ⟨rfl, rfl⟩)
      go_ret
      exact ⟨rfl, rfl⟩
    · rw [if_neg c2]
      go_enter Tryz.func72, Tryz.ntmps72
      go_wp2_with (go_at_call 97; refine (nan_q _ _).mono ?_; rintro e w' ⟨rfl, rfl⟩)
      go_ret
      exact ⟨rfl, rfl⟩

theorem or_q (w : World) (b cap : Nat) (x y : Int) (h0 : w.cell? ⟨b, 0, none⟩ = some (.int .i64 x)) (h1 : w.cell? ⟨b, 1, none⟩ = some (.int .i64 y)) :
    Calls Tryz.prog 71 #[.slice (some ⟨b, 0, none⟩) 2 cap] w fun e w' => e = .returned (.int .i64 (if x ≠ 0 then x else y)) ∧ w = w' := by
  go_enter Tryz.func71, Tryz.ntmps71
  go_wp2_with fail
  go_loopw [8] (fun i wr => ∃ (k : Nat), k ≤ 2 ∧ (1 ≤ k → x = 0) ∧ (2 ≤ k → y = 0) ∧ i = .int .i64 k ∧ wr = w) (fun i _ => 2 - (RowKit.intOf i).toNat)
  case atStart => exact ⟨0, by omega, by omega, by omega, rfl, rfl⟩
  case round =>
    obtain ⟨k, hk, hx, hy, rfl, rfl⟩ := hrel
    by_cases k0 : k = 0
    · subst k0
      by_cases hx0 : x = 0
      · subst hx0
        go_wp2_with fail
        go_roundw
        case rel => exact ⟨1, by simp⟩
        case measure => simp [RowKit.intOf]
      · have hne : (x != 0) = true := by simpa using hx0
        go_wp2_with fail
        go_ret
        exact ⟨rfl, rfl⟩
    · by_cases k1 : k = 1
      · subst k1
        obtain rfl := hx (by omega)
        by_cases hy0 : y = 0
        · subst hy0
          go_wp2_with fail
          go_roundw
          case rel => exact ⟨2, by simp⟩
          case measure => simp [RowKit.intOf]
        · have hne : (y != 0) = true := by simpa using hy0
          go_wp2_with fail
          go_ret
          exact ⟨by simp, rfl⟩
      · obtain rfl : k = 2 := by omega
        obtain rfl := hx (by omega)
        obtain rfl := hy (by omega)
        go_wp2_with fail
        go_ret
        exact ⟨by simp, rfl⟩

theorem order_q (w : World) (a b c d : Int) : Calls Tryz.prog 49 #[.agg #[.int .i64 a, .int .i64 b], .agg #[.int .i64 c, .int .i64 d]] w fun e w' => e = .returned (.int .i64 (ord a b c d)) ∧ Below w.heap.size w w' := by
  have hx : ∀ w', Below (w.heap.size + 2) ((w.alloc (.cells #[.int .i64 a, .int .i64 b] 30)).alloc (.cells #[.int .i64 c, .int .i64 d] 30)) w' → w'.cell? ⟨w.heap.size, 0, none⟩ = some (.int .i64 a) ∧ w'.cell? ⟨w.heap.size, 1, none⟩ = some (.int .i64 b) ∧ w'.cell? ⟨w.heap.size + 1, 0, none⟩ = some (.int .i64 c) ∧ w'.cell? ⟨w.heap.size + 1, 1, none⟩ = some (.int .i64 d) := fun w' hb => by
    have e : (w.alloc (.cells #[.int .i64 a, .int .i64 b] 30)).heap.size = w.heap.size + 1 := by simp
    refine ⟨?_, ?_, ?_, ?_⟩
    · rw [hb.cell (p := ⟨w.heap.size, 0, none⟩) (by simp), World.cell?_alloc_lt _ _ _ (by rw [e]; exact Nat.lt_succ_self _), World.cell?_alloc_mark]; rfl
    · rw [hb.cell (p := ⟨w.heap.size, 1, none⟩) (by simp), World.cell?_alloc_lt _ _ _ (by rw [e]; exact Nat.lt_succ_self _), World.cell?_alloc_mark]; rfl
    · rw [hb.cell (p := ⟨w.heap.size + 1, 0, none⟩) (by simp), ← e, World.cell?_alloc_mark]; rfl
    · rw [hb.cell (p := ⟨w.heap.size + 1, 1, none⟩) (by simp), ← e, World.cell?_alloc_mark]; rfl
  have HS : Hid (((w.alloc (.cells #[.int .i64 a, .int .i64 b] 30)).alloc (.cells #[.int .i64 c, .int .i64 d] 30)).heap.size = w.heap.size + 2) := Lib.hid (by simp)
  have HB : Hid (Below w.heap.size w ((w.alloc (.cells #[.int .i64 a, .int .i64 b] 30)).alloc (.cells #[.int .i64 c, .int .i64 d] 30))) := Lib.hid (((Below.refl _ _).alloc (Nat.le_refl _) _).alloc (by simp) _)
  have HX := Lib.hid hx
  clear hx
  go_enter Tryz.func49, Tryz.ntmps49
  go_wp2_with fail
  generalize ((w.alloc (.cells #[.int .i64 a, .int .i64 b] 30)).alloc (.cells #[.int .i64 c, .int .i64 d] 30)) = w1 at *
  have HX1 := Lib.hid (HX.out w1.drew ((Below.refl _ _).drew))
  have HX2 := Lib.hid (HX.out (w1.alloc (.cells #[.int .i64 (cmp1 a c), .int .i64 (cmp1 b d)] 3)).drew (((Below.refl _ _).alloc (by rw [HS.out]; exact Nat.le_refl _) _).drew))
  have HO : Hid (Calls Tryz.prog 71 #[.slice (some ⟨w1.heap.size, 0, none⟩) 2 2] (w1.alloc (.cells #[.int .i64 (cmp1 a c), .int .i64 (cmp1 b d)] 3)).drew fun e w' => e = .returned (.int .i64 (ord a b c d)) ∧ Below w1.heap.size w1 w') := Lib.hid (by
    rw [ord_cmp]
    refine (or_q _ _ _ (cmp1 a c) (cmp1 b d) ?_ ?_).mono ?_
    · show (w1.alloc _).cell? _ = _
      rw [World.cell?_alloc_mark]; rfl
    · show (w1.alloc _).cell? _ = _
      rw [World.cell?_alloc_mark]; rfl
    · rintro e w' ⟨rfl, rfl⟩
      exact ⟨rfl, (((Below.refl _ _).alloc (Nat.le_refl _) _).drew)⟩)
  go_region_held3 (fun w' => w'.cell? ⟨w.heap.size, 0, none⟩ = some (.int .i64 a) ∧ w'.cell? ⟨w.heap.size, 1, none⟩ = some (.int .i64 b) ∧ w'.cell? ⟨w.heap.size + 1, 0, none⟩ = some (.int .i64 c) ∧ w'.cell? ⟨w.heap.size + 1, 1, none⟩ = some (.int .i64 d))
    (first
      | exact HX1.out
      | exact HX2.out
      | exact HX3.out)
    (first
      | (go_at_call 72; with_reducible refine (compare_q _ _ _).mono ?_; rintro e w' ⟨rfl, rfl⟩)
      | (go_at_call 71; with_reducible refine HO.out.mono ?_; rintro e w2 ⟨rfl, hb2⟩; have HB2 := Lib.hid hb2; have HX3 := Lib.hid (HX.out w2 (by have := hb2; rw [HS.out] at this; exact this)); clear hb2))
  go_wp2
  go_ret
  exact ⟨rfl, HB.out.trans (HB2.out.mono HB.out.size)⟩

theorem mayHave_q (w : World) (a b : Int) : Calls Tryz.prog 69 #[.agg #[.int .i64 a, .int .i64 b]] w fun e w' => e = .returned (.bool (decide (In1 a ∧ In1 b))) ∧ Below w.heap.size w w' := by
  have HB : Hid (Below w.heap.size w (w.alloc (.cells #[.int .i64 a, .int .i64 b] 30))) := Lib.hid ((Below.refl _ _).alloc (Nat.le_refl _) _)
  by_cases c1 : In1 a
  · have W1 : Hid (∀ w', Calls Tryz.prog 70 #[.int .i64 a, .int .i64 1] w' fun e w'' => e = .returned (.bool true) ∧ w' = w'') := Lib.hid fun w' => by
      have := within1 w' a
      rwa [decide_eq_true c1] at this
    have W2 := Lib.hid (fun w' => within1 w' b)
    rw [show decide (In1 a ∧ In1 b) = decide (In1 b) by simp [c1]]
    generalize decide (In1 b) = z at *
    clear c1
    go_enter Tryz.func69, Tryz.ntmps69
    go_wp2_with (first
      | (go_at_call 70; with_reducible refine (W1.out _).mono ?_; rintro e w' ⟨rfl, rfl⟩)
      | (go_at_call 70; with_reducible refine (W2.out _).mono ?_; rintro e w' ⟨rfl, rfl⟩))
    go_ret
    exact ⟨rfl, HB.out⟩
  · have W1 : Hid (∀ w', Calls Tryz.prog 70 #[.int .i64 a, .int .i64 1] w' fun e w'' => e = .returned (.bool false) ∧ w' = w'') := Lib.hid fun w' => by
      have := within1 w' a
      rwa [decide_eq_false c1] at this
    rw [show decide (In1 a ∧ In1 b) = false by simp [c1]]
    clear c1
    go_enter Tryz.func69, Tryz.ntmps69
    go_wp2_with (first
      | (go_at_call 70; with_reducible refine (W1.out _).mono ?_; rintro e w' ⟨rfl, rfl⟩))
    go_ret
    exact ⟨rfl, HB.out⟩

/-- a cache's own block -/
structure CacheC (w : World) (qB lB N nb mE : Nat) (k : Kp) : Prop where
  p0 : w.cell? ⟨qB, 0, none⟩ = some (.pointer (some ⟨lB, 0, none⟩))
  p1 : w.cell? ⟨qB, 1, none⟩ = some (.int .i64 (N : Int))
  p2 : w.cell? ⟨qB, 2, none⟩ = some (.int .i64 (nb : Int))
  p3 : w.cell? ⟨qB, 3, none⟩ = some (.map (some mE))
  p4 : w.cell? ⟨qB, 4, none⟩ = some (.int .i64 k.ep)
  p5 : w.cell? ⟨qB, 5, none⟩ = some (.int .i64 k.sq)
  p6 : w.cell? ⟨qB, 6, none⟩ = some (.int .i64 k.t0)
  p7 : w.cell? ⟨qB, 7, none⟩ = some (.int .i64 k.t1)
  p8 : w.cell? ⟨qB, 8, none⟩ = some (.int .i64 k.t2)
  p9 : w.cell? ⟨qB, 9, none⟩ = some (.int .i64 k.t3)
  fz : ∀ o, w.frozen? ⟨qB, o, none⟩ = false

variable {qB lB N nb mE : Nat} {k : Kp}
theorem CacheC.lt {w : World} (g : CacheC w qB lB N nb mE k) : qB < w.heap.size := World.block_lt_of_cell? w _ g.p0
theorem CacheC.of_block {w w' : World} (g : CacheC w qB lB N nb mE k) (hb : w'.heap[qB]? = w.heap[qB]?) : CacheC w' qB lB N nb mE k where
  p0 := by rw [World.cell?_of_block (w := w) (a := ⟨qB, 0, none⟩) hb]; exact g.p0
  p1 := by rw [World.cell?_of_block (w := w) (a := ⟨qB, 1, none⟩) hb]; exact g.p1
  p2 := by rw [World.cell?_of_block (w := w) (a := ⟨qB, 2, none⟩) hb]; exact g.p2
  p3 := by rw [World.cell?_of_block (w := w) (a := ⟨qB, 3, none⟩) hb]; exact g.p3
  p4 := by rw [World.cell?_of_block (w := w) (a := ⟨qB, 4, none⟩) hb]; exact g.p4
  p5 := by rw [World.cell?_of_block (w := w) (a := ⟨qB, 5, none⟩) hb]; exact g.p5
  p6 := by rw [World.cell?_of_block (w := w) (a := ⟨qB, 6, none⟩) hb]; exact g.p6
  p7 := by rw [World.cell?_of_block (w := w) (a := ⟨qB, 7, none⟩) hb]; exact g.p7
  p8 := by rw [World.cell?_of_block (w := w) (a := ⟨qB, 8, none⟩) hb]; exact g.p8
  p9 := by rw [World.cell?_of_block (w := w) (a := ⟨qB, 9, none⟩) hb]; exact g.p9
  fz := fun o => by rw [World.frozen?_of_block (w := w) (a := ⟨qB, o, none⟩) hb]; exact g.fz o
theorem CacheC.but {w w' : World} (g : CacheC w qB lB N nb mE k) {q : List Nat} (hb : But q w w') (hn : qB ∉ q) : CacheC w' qB lB N nb mE k := g.of_block (hb.block _ g.lt hn)
theorem CacheC.below {w w' : World} (g : CacheC w qB lB N nb mE k) {B : Nat} (hb : Below B w w') (hB : qB < B) : CacheC w' qB lB N nb mE k := g.of_block (hb.block _ hB)

theorem reaches_q (w : World) (g : CacheC w qB lB N nb mE k) (b : Int) : Calls Tryz.prog 68 #[.pointer (some ⟨qB, 0, none⟩), .int .i64 b] w fun e w' => e = .returned (.bool (decide (0 ≤ b ∧ b < (nb : Int)))) ∧ w = w' := by
  have p2 := g.p2
  clear g
  by_cases c1 : 0 ≤ b
  · by_cases c2 : b < (nb : Int)
    · rw [decide_eq_true (show 0 ≤ b ∧ b < (nb : Int) from ⟨c1, c2⟩)]
      go_enter Tryz.func68, Tryz.ntmps68
      go_wp2
      go_ret
      exact ⟨rfl, rfl⟩
    · rw [decide_eq_false (show ¬ (0 ≤ b ∧ b < (nb : Int)) from fun z => c2 z.2)]
      go_enter Tryz.func68, Tryz.ntmps68
      go_wp2
      go_ret
      exact ⟨rfl, rfl⟩
  · rw [decide_eq_false (show ¬ (0 ≤ b ∧ b < (nb : Int)) from fun z => c1 z.1)]
    go_enter Tryz.func68, Tryz.ntmps68
    go_wp2
    go_ret
    exact ⟨rfl, rfl⟩

def En.val (e : En) : Value := .agg #[.int .i64 e.b, .int .i64 e.ep, .int .i64 e.sq, .string e.data, .bool e.dirty, .int .i64 e.cl, .int .i64 e.n]
def En.cells (e : En) : Array Value := #[.int .i64 e.b, .int .i64 e.ep, .int .i64 e.sq, .string e.data, .bool e.dirty, .int .i64 e.cl, .int .i64 e.n]
def Kp.val (k : Kp) : Value := .agg #[.int .i64 k.ep, .int .i64 k.sq, .int .i64 k.t0, .int .i64 k.t1, .int .i64 k.t2, .int .i64 k.t3]
def zeroE : En := ⟨0, 0, 0, ⟨#[]⟩, false, 0, 0⟩

theorem check_q (w : World) (g : CacheC w qB lB N nb mE k) (x : En) : Calls Tryz.prog 48 #[.pointer (some ⟨qB, 0, none⟩), x.val] w fun e w' => e = .returned (.int .i64 (checkE nb x)) ∧ Below w.heap.size w w' := by
  have HR : Hid (∀ w', Below w.heap.size w w' → Calls Tryz.prog 68 #[.pointer (some ⟨qB, 0, none⟩), .int .i64 x.b] w' fun e w'' => e = .returned (.bool (decide (0 ≤ x.b ∧ x.b < (nb : Int)))) ∧ w' = w'') := Lib.hid fun w' hb => reaches_q w' (g.below hb g.lt) x.b
  have HB : Hid (Below w.heap.size w (w.alloc (.cells x.cells 37))) := Lib.hid ((Below.refl _ _).alloc (Nat.le_refl _) _)
  have HM := Lib.hid (mayHave_q (w.alloc (.cells x.cells 37)) x.ep x.sq)
  have HMB : Hid (∀ w', Below (w.alloc (.cells x.cells 37)).heap.size (w.alloc (.cells x.cells 37)) w' → Below w.heap.size w w' ∧ w'.cell? ⟨w.heap.size, 5, none⟩ = some (.int .i64 x.cl) ∧ w'.cell? ⟨w.heap.size, 6, none⟩ = some (.int .i64 x.n)) := Lib.hid fun w' hb => by
    refine ⟨HB.out.trans (hb.mono (by simp)), ?_, ?_⟩
    · rw [hb.cell (p := ⟨w.heap.size, 5, none⟩) (by simp), World.cell?_alloc_mark]; rfl
    · rw [hb.cell (p := ⟨w.heap.size, 6, none⟩) (by simp), World.cell?_alloc_mark]; rfl
  have HN := Lib.hid (fun w' => within0 w' x.n)
  unfold checkE
  unfold En.cells at *
  unfold En.val
  obtain ⟨b, ep, sq, data, dirty, cl, n⟩ := x
  simp only at *
  clear g
  by_cases c1 : 0 ≤ b ∧ b < (nb : Int)
  · rw [if_neg (by simpa using c1)]
    simp only [decide_eq_true c1] at HR
    by_cases c2 : data.size = 8
    · rw [if_neg (by omega)]
      have hd : ((data.size : Int) != 8) = false := by rw [c2]; rfl
      have HC : Hid (data.size = 8) := Lib.hid c2
      by_cases c3 : In1 ep ∧ In1 sq
      · simp only [decide_eq_true c3] at HM
        by_cases c4 : cl < -1
        · rw [if_pos (.inr (.inl c4))]
          clear c1 c2 c3
          go_enter Tryz.func48, Tryz.ntmps48
          go_wp2_with (first
            | (go_at_call 68; with_reducible refine (HR.out _ HB.out).mono ?_; rintro e w' ⟨rfl, rfl⟩)
            | (go_at_call 69; with_reducible refine HM.out.mono ?_; rintro e w2 ⟨rfl, hb2⟩; obtain ⟨z1, z2, z3⟩ := HMB.out w2 hb2; have HZ := Lib.hid z1; clear hb2 z1))
          go_ret
          exact ⟨rfl, HZ.out⟩
        · by_cases c5 : 4 ≤ cl
          · rw [if_pos (.inr (.inr (.inl c5)))]
            clear c1 c2 c3
            go_enter Tryz.func48, Tryz.ntmps48
            go_wp2_with (first
              | (go_at_call 68; with_reducible refine (HR.out _ HB.out).mono ?_; rintro e w' ⟨rfl, rfl⟩)
              | (go_at_call 69; with_reducible refine HM.out.mono ?_; rintro e w2 ⟨rfl, hb2⟩; obtain ⟨z1, z2, z3⟩ := HMB.out w2 hb2; have HZ := Lib.hid z1; clear hb2 z1))
            go_ret
            exact ⟨rfl, HZ.out⟩
          · by_cases c6 : In0 n
            · rw [if_neg (by intro h; rcases h with h | h | h | h; exact h c3; exact c4 h; exact c5 h; exact h c6)]
              simp only [decide_eq_true c6] at HN
              clear c1 c2 c3 c6
              go_enter Tryz.func48, Tryz.ntmps48
              go_wp2_with (first
                | (go_at_call 68; with_reducible refine (HR.out _ HB.out).mono ?_; rintro e w' ⟨rfl, rfl⟩)
                | (go_at_call 70; with_reducible refine (HN.out _).mono ?_; rintro e w' ⟨rfl, rfl⟩)
                | (go_at_call 69; with_reducible refine HM.out.mono ?_; rintro e w2 ⟨rfl, hb2⟩; obtain ⟨z1, z2, z3⟩ := HMB.out w2 hb2; have HZ := Lib.hid z1; clear hb2 z1))
              go_ret
              exact ⟨rfl, HZ.out⟩
            · rw [if_pos (.inr (.inr (.inr c6)))]
              simp only [decide_eq_false c6] at HN
              clear c1 c2 c3 c6
              go_enter Tryz.func48, Tryz.ntmps48
              go_wp2_with (first
                | (go_at_call 68; with_reducible refine (HR.out _ HB.out).mono ?_; rintro e w' ⟨rfl, rfl⟩)
                | (go_at_call 70; with_reducible refine (HN.out _).mono ?_; rintro e w' ⟨rfl, rfl⟩)
                | (go_at_call 69; with_reducible refine HM.out.mono ?_; rintro e w2 ⟨rfl, hb2⟩; obtain ⟨z1, z2, z3⟩ := HMB.out w2 hb2; have HZ := Lib.hid z1; clear hb2 z1))
              go_ret
              exact ⟨rfl, HZ.out⟩
      · rw [if_pos (.inl c3)]
        simp only [decide_eq_false c3] at HM
        clear c1 c2 c3
        go_enter Tryz.func48, Tryz.ntmps48
        go_wp2_with (first
          | (go_at_call 68; with_reducible refine (HR.out _ HB.out).mono ?_; rintro e w' ⟨rfl, rfl⟩)
          | (go_at_call 69; with_reducible refine HM.out.mono ?_; rintro e w2 ⟨rfl, hb2⟩; obtain ⟨z1, z2, z3⟩ := HMB.out w2 hb2; have HZ := Lib.hid z1; clear hb2 z1))
        go_ret
        exact ⟨rfl, HZ.out⟩
    · rw [if_pos c2]
      have hd : ((data.size : Int) != 8) = true := by simp only [bne_iff_ne, ne_eq]; omega
      clear c1 c2
      go_enter Tryz.func48, Tryz.ntmps48
      go_wp2_with (first
        | (go_at_call 68; with_reducible refine (HR.out _ HB.out).mono ?_; rintro e w' ⟨rfl, rfl⟩))
      go_ret
      exact ⟨rfl, HB.out⟩
  · rw [if_pos c1]
    simp only [decide_eq_false c1] at HR
    clear c1
    go_enter Tryz.func48, Tryz.ntmps48
    go_wp2_with (first
      | (go_at_call 68; with_reducible refine (HR.out _ HB.out).mono ?_; rintro e w' ⟨rfl, rfl⟩))
    go_ret
    exact ⟨rfl, HB.out⟩
end Q
end Go.Proofs.YtmcalgnpinolmaaGreat
namespace Go.Proofs.YtmcalgnpinolmaaGreat
open Go.RowKit
set_option linter.unusedVariables false
set_option linter.unusedSimpArgs false
set_option maxRecDepth 20000
namespace Q

/-- cells that were stored one behind another -/
theorem stored (w : World) (b : Nat) : ∀ (vs : List Value) (o : Nat), w.there b o vs.length → ∀ i v, vs[i]? = some v → (w.setCells b o vs).cell? ⟨b, o + i, none⟩ = some v := by
  intro vs o hs i v hv
  have hr := World.rangeAt_setCells_same w b o vs hs
  exact hr i v hv

theorem behind_q (w : World) (k : Kp) (e : En) (h0 : -1 ≤ e.cl) (h1 : e.cl < 4) : Calls Tryz.prog 52 #[k.val, e.val] w fun r w' => r = .returned (behind k e).val ∧ Below w.heap.size w w' := by
  obtain ⟨b, ep, sq, data, dirty, cl, n⟩ := e
  obtain ⟨kp, kq, t0, t1, t2, t3⟩ := k
  simp only at h0 h1
  unfold behind Kp.val En.val
  simp only
  have hc : cl = -1 ∨ cl = 0 ∨ cl = 1 ∨ cl = 2 ∨ cl = 3 := by omega
  clear h0 h1
  rcases hc with rfl | rfl | rfl | rfl | rfl
  · simp only [if_true]
    go_enter Tryz.func52, Tryz.ntmps52
    go_wp2_with fail
    refine bodyPost_ret_by (v := .agg #[.int .i64 ep, .int .i64 sq, .int .i64 t0, .int .i64 t1, .int .i64 t2, .int .i64 t3]) ?_ rfl ⟨rfl, (((Below.refl _ w).alloc (Nat.le_refl _) _).alloc (by simp) _).alloc (by simp; omega) _⟩
    simp [results, Tryz.results52, go_sem]
  all_goals
    simp (config := { decide := true }) only [Kp.set, Kp.get, if_true, if_false]
    go_enter Tryz.func52, Tryz.ntmps52
    go_wp2_with fail
    go_region
    go_wp2_with fail
    refine bodyPost_ret_by ?_ rfl ⟨rfl, ((((Below.refl _ w).alloc (Nat.le_refl _) _).alloc (by simp) _).alloc (by simp; omega) _).drew⟩
    simp [results, Tryz.results52, go_sem]
end Q
end Go.Proofs.YtmcalgnpinolmaaGreat
namespace Go.Proofs.YtmcalgnpinolmaaGreat
open Go.RowKit
set_option linter.unusedVariables false
set_option linter.unusedSimpArgs false
set_option maxRecDepth 20000
namespace Q

/-- what 'keeping' tells -/
def keepOk (ep sq : Int) (l : List Int) : Prop := In0 ep ∧ In0 sq ∧ l.length = 4 ∧ ∀ x ∈ l, In0 x
def keepK (ep sq : Int) (l : List Int) : Kp := ⟨ep, sq, l.getD 0 0, l.getD 1 0, l.getD 2 0, l.getD 3 0⟩
theorem keep_may {ep sq : Int} {l : List Int} (h : keepOk ep sq l) : MayK (keepK ep sq l) := by
  obtain ⟨h1, h2, h3, h4⟩ := h
  match l, h3 with
  | [a, b, c, d], _ => exact ⟨h1, h2, h4 a (by simp), h4 b (by simp), h4 c (by simp), h4 d (by simp)⟩

theorem keeping_no1 (w : World) (ep sq : Int) (a : Option Addr) (n cap : Nat) (h : ¬ (In0 ep ∧ In0 sq ∧ n = 4)) :
    Calls Tryz.prog 53 #[.agg #[.int .i64 ep, .int .i64 sq], .slice a n cap] w fun r w' => r = .returned (.tuple #[kp0.val, .bool false]) ∧ Below w.heap.size w w' := by
  have W1 := Lib.hid (fun w' => within0 w' ep)
  have W2 := Lib.hid (fun w' => within0 w' sq)
  have HB : Hid (Below w.heap.size w ((w.alloc (.cells #[.int .i64 ep, .int .i64 sq] 30)).alloc (.cells #[.int .i64 0, .int .i64 0, .int .i64 0, .int .i64 0, .int .i64 0, .int .i64 0] 92))) := Lib.hid (((Below.refl _ w).alloc (Nat.le_refl _) _).alloc (by simp) _)
  unfold kp0 Kp.val
  by_cases c1 : In0 ep
  · simp only [decide_eq_true c1] at W1
    by_cases c2 : In0 sq
    · simp only [decide_eq_true c2] at W2
      have hne : ((n : Int) != 4) = true := by
        simp only [bne_iff_ne, ne_eq]
        intro h4
        exact h ⟨c1, c2, by omega⟩
      clear h c1 c2
      go_enter Tryz.func53, Tryz.ntmps53
      go_wp2_with (first
        | (go_at_call 70; with_reducible refine (W1.out _).mono ?_; rintro e w' ⟨rfl, rfl⟩)
        | (go_at_call 70; with_reducible refine (W2.out _).mono ?_; rintro e w' ⟨rfl, rfl⟩))
      refine bodyPost_ret_by ?_ rfl ⟨rfl, HB.out⟩
      simp [results, Tryz.results53, go_sem]
    · simp only [decide_eq_false c2] at W2
      clear h c1 c2
      go_enter Tryz.func53, Tryz.ntmps53
      go_wp2_with (first
        | (go_at_call 70; with_reducible refine (W1.out _).mono ?_; rintro e w' ⟨rfl, rfl⟩)
        | (go_at_call 70; with_reducible refine (W2.out _).mono ?_; rintro e w' ⟨rfl, rfl⟩))
      refine bodyPost_ret_by ?_ rfl ⟨rfl, HB.out⟩
      simp [results, Tryz.results53, go_sem]
  · simp only [decide_eq_false c1] at W1
    clear h c1
    go_enter Tryz.func53, Tryz.ntmps53
    go_wp2_with (first
      | (go_at_call 70; with_reducible refine (W1.out _).mono ?_; rintro e w' ⟨rfl, rfl⟩))
    refine bodyPost_ret_by ?_ rfl ⟨rfl, HB.out⟩
    simp [results, Tryz.results53, go_sem]

/-- where the version and the length are well: the loop -/
theorem keeping_4 (w : World) (ep sq : Int) (a : Option Addr) (cap : Nat) (l : List Int) (hr : C.Row w a 4 cap (C.i64s l)) (hl : l.length = 4) (h1 : In0 ep) (h2 : In0 sq) (b : Bool) (kv : Kp)
    (hb : (b = true ∧ (∀ x ∈ l, In0 x) ∧ kv = keepK ep sq l) ∨ (b = false ∧ ¬ (∀ x ∈ l, In0 x) ∧ kv = kp0)) :
    Calls Tryz.prog 53 #[.agg #[.int .i64 ep, .int .i64 sq], .slice a 4 cap] w fun r w' => r = .returned (.tuple #[kv.val, .bool b]) ∧ Below w.heap.size w w' := by
  have W1 : Hid (∀ w', Calls Tryz.prog 70 #[.int .i64 ep, .int .i64 0] w' fun e w'' => e = .returned (.bool true) ∧ w' = w'') := Lib.hid fun w' => by have := within0 w' ep; rwa [decide_eq_true h1] at this
  have W2 : Hid (∀ w', Calls Tryz.prog 70 #[.int .i64 sq, .int .i64 0] w' fun e w'' => e = .returned (.bool true) ∧ w' = w'') := Lib.hid fun w' => by have := within0 w' sq; rwa [decide_eq_true h2] at this
  have HB : Hid (Below w.heap.size w ((w.alloc (.cells #[.int .i64 ep, .int .i64 sq] 30)).alloc (.cells #[.int .i64 0, .int .i64 0, .int .i64 0, .int .i64 0, .int .i64 0, .int .i64 0] 92))) := Lib.hid (((Below.refl _ w).alloc (Nat.le_refl _) _).alloc (by simp) _)
  have HR := Lib.hid hr
  have HL := Lib.hid hl
  have Hb := Lib.hid hb
  obtain ⟨k1, k2, k3, k4, k5, k6⟩ := kv
  unfold Kp.val
  obtain ⟨g0, o0, y0, ea, hlt0, e0, q0⟩ := C.row_i64 hr 0 (by omega)
  subst ea
  clear hr hl hb h1 h2 hlt0 e0 q0
  have HQ : Hid (∀ j v, l[j]? = some v → w.cell? ⟨g0, o0 + j, none⟩ = some (.int .i64 v) ∧ g0 < w.heap.size) := Lib.hid fun j v hj => by
    obtain ⟨g, o, y, e1, e2, e3, e4⟩ := C.row_i64 HR.out j (by have := (List.getElem?_eq_some_iff.1 hj).1; have := HL.out; omega)
    rw [hj] at e3
    injection e3 with e3
    subst e3
    injection e1 with e1
    injection e1 with e5 e6
    subst e5 e6
    exact ⟨e4, e2⟩
  have HW : Hid (∀ w', Below w.heap.size w w' → ∀ j v, l[j]? = some v → w'.cell? ⟨g0, o0 + j, none⟩ = some (.int .i64 v)) := Lib.hid fun w' hb j v hj => by
    rw [hb.cell (p := ⟨g0, o0 + j, none⟩) (HQ.out j v hj).2]; exact (HQ.out j v hj).1
  go_enter Tryz.func53, Tryz.ntmps53
  go_wp2_with (first
    | (go_at_call 70; with_reducible refine (W1.out _).mono ?_; rintro e w' ⟨rfl, rfl⟩)
    | (go_at_call 70; with_reducible refine (W2.out _).mono ?_; rintro e w' ⟨rfl, rfl⟩))
  go_loopw [26] (fun i wr => ∃ (k : Nat), k ≤ 4 ∧ Hid (∀ j x, j < k → l[j]? = some x → In0 x) ∧ i = .int .i64 k ∧ wr = ((w.alloc (.cells #[.int .i64 ep, .int .i64 sq] 30)).alloc (.cells #[.int .i64 0, .int .i64 0, .int .i64 0, .int .i64 0, .int .i64 0, .int .i64 0] 92))) (fun i _ => 4 - (RowKit.intOf i).toNat)
  case atStart => exact ⟨0, by omega, Lib.hid (fun j x h => absurd h (by omega)), rfl, rfl⟩
  case round =>
    obtain ⟨k, hk, HI, rfl, rfl⟩ := hrel
    by_cases hlt : k < 4
    · have hltI : (k : Int) < 4 := by omega
      obtain ⟨x, hx⟩ : ∃ x, l[k]? = some x := ⟨_, List.getElem?_eq_getElem (by have := HL.out; omega)⟩
      have qx := HW.out _ HB.out k x hx
      have HX := Lib.hid hx
      have HK := Lib.hid hlt
      clear hx hlt
      have W3 := Lib.hid (fun w' => within0 w' x)
      by_cases hin : In0 x
      · simp only [decide_eq_true hin] at W3
        have HIn := Lib.hid hin
        clear hin
        go_wp2_with (go_at_call 70; with_reducible refine (W3.out _).mono ?_; rintro e w' ⟨rfl, rfl⟩)
        go_roundw
        case rel =>
          refine ⟨k + 1, by have := HK.out; omega, Lib.hid (fun j y hj hy => ?_), by go_num, (by first | rfl | trivial)⟩
          by_cases hjk : j = k
          · subst hjk
            rw [HX.out] at hy
            injection hy with hy
            subst hy
            exact HIn.out
          · exact HI.out j y (by omega) hy
        case measure => have := HK.out; simp [RowKit.intOf]; omega
      · simp only [decide_eq_false hin] at W3
        have hf : b = false ∧ (⟨k1, k2, k3, k4, k5, k6⟩ : Kp) = kp0 := by
          rcases Hb.out with ⟨_, h2, _⟩ | ⟨h1, _, h3⟩
          · exact absurd (h2 x (List.mem_of_getElem? HX.out)) hin
          · exact ⟨h1, h3⟩
        obtain ⟨rfl, hf⟩ := hf
        simp only [kp0, Kp.mk.injEq] at hf
        obtain ⟨rfl, rfl, rfl, rfl, rfl, rfl⟩ := hf
        clear hin
        go_wp2_with (go_at_call 70; with_reducible refine (W3.out _).mono ?_; rintro e w' ⟨rfl, rfl⟩)
        refine bodyPost_ret_by ?_ rfl ⟨rfl, HB.out⟩
        simp [results, Tryz.results53, go_sem]
    · obtain rfl : k = 4 := by omega
      have hf : b = true ∧ (⟨k1, k2, k3, k4, k5, k6⟩ : Kp) = keepK ep sq l := by
        rcases Hb.out with ⟨h1, _, h3⟩ | ⟨_, h2, _⟩
        · exact ⟨h1, h3⟩
        · refine absurd (fun x hx => ?_) h2
          obtain ⟨j, hj⟩ := List.mem_iff_getElem?.1 hx
          exact HI.out j x (by have := (List.getElem?_eq_some_iff.1 hj).1; have := HL.out; omega) hj
      obtain ⟨rfl, hf⟩ := hf
      have hll := HL.out
      match l, hll, HW, HI, HQ, Hb, HR, HL, hf with
      | [x0, x1, x2, x3], _, HW, HI, HQ, Hb, HR, HL, hf =>
      have c0 := HW.out _ HB.out 0 x0 rfl
      rw [Nat.add_zero] at c0
      have c1 := HW.out _ HB.out 1 x1 rfl
      have c2 := HW.out _ HB.out 2 x2 rfl
      have c3 := HW.out _ HB.out 3 x3 rfl
      simp only [keepK, List.getD_cons_zero, List.getD_cons_succ, Kp.mk.injEq] at hf
      obtain ⟨rfl, rfl, rfl, rfl, rfl, rfl⟩ := hf
      clear hlt
      have hat : ∀ w', (Instr.arrayAt 31 (.slice (some ⟨g0, o0, none⟩) 4 cap)).run Tryz.prog w' = .ok (.pointer (some ⟨g0, o0, none⟩)) w' := fun w' => run_arrayAt w' 31 _ 4 _ 4 cap Tryz.underlying31 (Nat.le_refl _)
      go_wp2_with fail
      go_region
      go_wp2_with fail
      refine bodyPost_ret_by ?_ rfl ⟨rfl, (((Below.refl _ w).alloc (Nat.le_refl _) _).alloc (by simp) _).drew⟩
      simp [results, Tryz.results53, go_sem]

theorem keeping_yes (w : World) (ep sq : Int) (a : Option Addr) (n cap : Nat) (l : List Int) (hr : C.Row w a n cap (C.i64s l)) (h : keepOk ep sq l) :
    Calls Tryz.prog 53 #[.agg #[.int .i64 ep, .int .i64 sq], .slice a n cap] w fun r w' => r = .returned (.tuple #[(keepK ep sq l).val, .bool true]) ∧ Below w.heap.size w w' := by
  obtain ⟨h1, h2, h3, h4⟩ := h
  have hn : n = 4 := by have := hr.1; rw [C.i64s_length] at this; omega
  subst hn
  exact keeping_4 w ep sq a cap l hr h3 h1 h2 true _ (.inl ⟨rfl, h4, rfl⟩)
theorem keeping_no (w : World) (ep sq : Int) (a : Option Addr) (n cap : Nat) (l : List Int) (hr : C.Row w a n cap (C.i64s l)) (h : ¬ keepOk ep sq l) :
    Calls Tryz.prog 53 #[.agg #[.int .i64 ep, .int .i64 sq], .slice a n cap] w fun r w' => r = .returned (.tuple #[kp0.val, .bool false]) ∧ Below w.heap.size w w' := by
  have hn : l.length = n := by have := hr.1; rw [C.i64s_length] at this; omega
  by_cases c : In0 ep ∧ In0 sq ∧ n = 4
  · obtain ⟨h1, h2, rfl⟩ := c
    exact keeping_4 w ep sq a cap l hr hn h1 h2 false _ (.inr ⟨rfl, fun z => h ⟨h1, h2, hn, z⟩, rfl⟩)
  · exact keeping_no1 w ep sq a n cap c
end Q
end Go.Proofs.YtmcalgnpinolmaaGreat
namespace Go.Proofs.YtmcalgnpinolmaaGreat
open Go.RowKit Go.Maps
set_option linter.unusedVariables false
set_option linter.unusedSimpArgs false
set_option maxRecDepth 20000
namespace Q

def La.val (x : La) : Value := .agg #[.int .i64 x.e.b, .int .i64 x.e.ep, .int .i64 x.e.sq, .string x.e.data, .bool x.e.dirty, .int .i64 x.e.cl, .int .i64 x.e.n, .int .i64 x.pos]
def La.code (x : La) : DataW Unit := .agg [.lit (.int .i64 x.e.b), .lit (.int .i64 x.e.ep), .lit (.int .i64 x.e.sq), .lit (.string x.e.data.data.toList), .lit (.bool x.e.dirty), .lit (.int .i64 x.e.cl), .lit (.int .i64 x.e.n), .lit (.int .i64 x.pos)]
def zeroL : La := ⟨zeroE, 0⟩

theorem La.val_inj {x y : La} (h : x.val = y.val) : x = y := by
  obtain ⟨⟨b, ep, sq, data, dirty, cl, n⟩, pos⟩ := x
  obtain ⟨⟨b', ep', sq', data', dirty', cl', n'⟩, pos'⟩ := y
  simp [La.val] at h
  obtain ⟨rfl, rfl, rfl, rfl, rfl, rfl, rfl, rfl⟩ := h
  rfl
theorem La.code_inj {x y : La} (h : x.code = y.code) : x = y := by
  obtain ⟨⟨b, ep, sq, data, dirty, cl, n⟩, pos⟩ := x
  obtain ⟨⟨b', ep', sq', data', dirty', cl', n'⟩, pos'⟩ := y
  simp [La.code] at h
  obtain ⟨rfl, rfl, rfl, h4, rfl, rfl, rfl, rfl⟩ := h
  obtain ⟨⟨l⟩⟩ := data
  obtain ⟨⟨l'⟩⟩ := data'
  simp at h4
  subst h4
  rfl

theorem laid_info : (Tryz.prog.info? 108).map (·.zero) = some (some zeroL.val) := by kernel_rfl
theorem laid_zero (w : World) : (zeroValue 108).run Tryz.prog w = .ok zeroL.val w := by
  have h := laid_info
  cases hi : Tryz.prog.info? 108 with
  | none => simp [hi] at h
  | some i =>
    simp only [hi, Option.map_some, Option.some.injEq] at h
    simp [zeroValue, typeInfo, hi, h]

open Classical in
noncomputable def laidR (v : Value) : Option (DataW Unit × List MemPlace) :=
  if h : ∃ x : La, v = x.val then some (h.choose.code, []) else none
theorem laidR_mk (x : La) : laidR x.val = some (x.code, []) := by
  have hx : ∃ y : La, x.val = y.val := ⟨x, rfl⟩
  unfold laidR
  rw [dif_pos hx]
  have e : x = hx.choose := La.val_inj hx.choose_spec
  exact congrArg (fun y => some (La.code y, ([] : List MemPlace))) e.symm
theorem laidR_inv {v : Value} {y : DataW Unit × List MemPlace} (h : laidR v = some y) : ∃ x : La, v = x.val ∧ y = (x.code, []) := by
  unfold laidR at h
  split at h
  · rename_i hx
    injection h with h
    exact ⟨hx.choose, hx.choose_spec, h.symm⟩
  · cases h

def Rds (D : DataW Unit) (E : Mp) : Prop := IsMap D ∧ (∀ k, has D (.int .i64 k) = (E k).isSome) ∧ ∀ k x, E k = some x → ∀ z, D.atKey (.int .i64 k) z = x.code
def MapQ (w : World) (mb : Nat) (E : Mp) : Prop := ∃ N D, w.ownsMap (H := Unit) Tryz.prog 3 laidR mb N D ∧ Rds D E

theorem rds_none : Rds (.map []) none0 := ⟨isMap_empty, fun k => rfl, fun k s h => by cases h⟩
theorem rds_put {D : DataW Unit} {E : Mp} (h : Rds D E) {i : Int} (h1 : -9223372036854775808 ≤ i) (h2 : i ≤ 9223372036854775807) (x : La) : Rds (D.put (.int .i64 i) x.code) (upd E i (some x)) := by
  obtain ⟨ha, hb, hc⟩ := h
  refine ⟨ha.put _ _, fun k => ?_, fun k t hk z => ?_⟩
  · by_cases e : k = i
    · subst e; simp [upd, has_put_same ha (is_key h1 h2)]
    · rw [has_put_other (fun e' => e (by injection e')), hb k]; simp [upd, e]
  · by_cases e : k = i
    · subst e
      simp only [upd, if_true, Option.some.injEq] at hk
      subst hk
      exact atKey_put_same ha (is_key h1 h2) _ _
    · rw [atKey_put_other (fun e' => e (by injection e'))]
      simp only [upd, if_neg e] at hk
      exact hc k t hk z
theorem rds_del {D : DataW Unit} {E : Mp} (h : Rds D E) (i : Int) : Rds (D.del (.int .i64 i)) (upd E i none) := by
  obtain ⟨ha, hb, hc⟩ := h
  refine ⟨ha.del _, fun k => ?_, fun k t hk z => ?_⟩
  · by_cases e : k = i
    · subst e; simp [upd, has_del_same]
    · rw [has_del_other (fun e' => e (by injection e')), hb k]; simp [upd, e]
  · by_cases e : k = i
    · subst e; simp [upd] at hk
    · rw [atKey_del_other (fun e' => e (by injection e'))]
      simp only [upd, if_neg e] at hk
      exact hc k t hk z

theorem mapq_made (w : World) : MapQ (w.alloc (.map #[] 0)) w.heap.size none0 := ⟨0, _, World.ownsMap_made w _ _ _, rds_none⟩
theorem MapQ.lt {w : World} {mb : Nat} {E : Mp} (h : MapQ w mb E) : mb < w.heap.size := by
  obtain ⟨N, D, h, _⟩ := h
  exact h.lt
theorem MapQ.of_block {w w' : World} {mb : Nat} {E : Mp} (h : MapQ w mb E) (hb : w'.heap[mb]? = w.heap[mb]?) : MapQ w' mb E := by
  obtain ⟨N, D, ⟨es, clock, h1, h2⟩, h3⟩ := h
  exact ⟨N, D, ⟨es, clock, hb.trans h1, h2⟩, h3⟩
theorem MapQ.but {w w' : World} {mb : Nat} {E : Mp} (h : MapQ w mb E) {l : List Nat} (hb : But l w w') (hn : mb ∉ l) : MapQ w' mb E := h.of_block (hb.block _ h.lt hn)

def keysQ (nb : Nat) (E : Mp) : List Int := ((List.range nb).map Int.ofNat).filter fun k => (E k).isSome

theorem mem_keysQ {nb : Nat} {E : Mp} (h : ∀ k x, E k = some x → 0 ≤ k ∧ k < (nb : Int)) (k : Int) : k ∈ keysQ nb E ↔ (E k).isSome = true := by
  unfold keysQ
  rw [List.mem_filter, List.mem_map]
  constructor
  · exact fun h => h.2
  · intro hk
    refine ⟨?_, hk⟩
    obtain ⟨s, hs⟩ := Option.isSome_iff_exists.1 hk
    have := h k s hs
    exact ⟨k.toNat, List.mem_range.2 (by omega), by show ((k.toNat : Nat) : Int) = k; omega⟩
theorem keysQ_rising (nb : Nat) (E : Mp) : (keysQ nb E).Pairwise (· < ·) := (M.range_rising nb).filter _
theorem keysQ_succ (nb : Nat) (E : Mp) : keysQ (nb + 1) E = keysQ nb E ++ (if (E (nb : Int)).isSome then [(nb : Int)] else []) := by
  unfold keysQ
  rw [List.range_succ, List.map_append, List.filter_append]
  congr 1
  simp only [List.map_cons, List.map_nil, List.filter_cons, List.filter_nil]
  rfl
theorem keysQ_len (nb : Nat) (E : Mp) : (keysQ nb E).length = num nb (vis E) := by
  unfold num
  induction nb with
  | zero => rfl
  | succ n ih =>
    rw [keysQ_succ, List.length_append, ih]
    show _ = cnt n (fun b => (vis E b).isSome) + (if (vis E (n : Int)).isSome then 1 else 0)
    congr 1
    unfold vis
    cases E (n : Int) <;> simp

/-- the entry of a key -/
def entOf (E : Mp) (b : Int) : En := ((E b).map (·.e)).getD zeroE
theorem keysQ_all (nb : Nat) (E : Mp) : (keysQ nb E).map (entOf E) = allV nb (vis E) := by
  induction nb with
  | zero => rfl
  | succ n ih =>
    rw [keysQ_succ, List.map_append, ih]
    show _ = allV n (vis E) ++ (match vis E (n : Int) with | some x => [x] | none => [])
    congr 1
    unfold vis
    cases hE : E (n : Int) <;> simp [entOf, hE]

theorem keysQ_sorted {w : World} {mb N nb : Nat} {D : DataW Unit} {E : Mp} (hown : w.ownsMap (H := Unit) Tryz.prog 3 laidR mb N D) (hr : Rds D E) (hP : ∀ k s, E k = some s → 0 ≤ k ∧ k < (nb : Int)) :
    (intKeys D).mergeSort (fun x y => decide (x ≤ y)) = keysQ nb E := by
  obtain ⟨es, rfl, hp, hk⟩ := hown.entries (int_keyed Tryz.underlying3)
  obtain ⟨es', e, hk'⟩ := hown.keysOf
  injection e with e
  subst e
  have hk2 : ∀ p ∈ es, ∃ x, p.1 = .int .i64 x := fun p hp' => by
    obtain ⟨v, hv⟩ := hk' p hp'
    obtain ⟨x, _, hx, _⟩ := Maps.keyOf_i64 Tryz.underlying3 hv
    exact ⟨x, hx⟩
  have hperm : (keysQ nb E).Perm (intKeys (.map es)) := by
    refine perm_intKeys hp hk2 ?_ fun x => ?_
    · exact (keysQ_rising nb E).imp fun h => by omega
    · rw [mem_keysQ hP, hr.2.1]
  rw [← mergeSort_of_perm_i hperm]
  refine List.mergeSort_of_pairwise ?_
  exact (keysQ_rising nb E).imp fun h => by simp; omega

theorem size_num {w : World} {mb N nb : Nat} {D : DataW Unit} {E : Mp} (hown : w.ownsMap (H := Unit) Tryz.prog 3 laidR mb N D) (hr : Rds D E) (hP : ∀ k s, E k = some s → 0 ≤ k ∧ k < (nb : Int)) : Maps.size D = num nb (vis E) := by
  have h := congrArg List.length (keysQ_sorted hown hr hP)
  rw [List.length_mergeSort, keysQ_len] at h
  obtain ⟨es, rfl, _, _⟩ := hown.entries (int_keyed Tryz.underlying3)
  have h3 : (intKeys (.map es : DataW Unit)).length = es.length := by simp [intKeys]
  rw [size_eq]
  omega

theorem ownq_bound {w : World} {mb N n : Nat} {D : DataW Unit} (hown : w.ownsMap (H := Unit) Tryz.prog 3 laidR mb N D) (hn : Maps.size D ≤ n) : w.ownsMap (H := Unit) Tryz.prog 3 laidR mb n D := by
  obtain ⟨es, clock, hb, F, _, rfl⟩ := hown
  refine ⟨es, clock, hb, F, ?_, rfl⟩
  simpa [Maps.size, length_sorted] using hn

theorem mapq_look {w : World} {mb : Nat} {E : Mp} (h : MapQ w mb E) {i : Int} (h1 : -9223372036854775808 ≤ i) (h2 : i ≤ 9223372036854775807) :
    (Instr.lookup 90 (.map (some mb)) (.int .i64 i) true).run Tryz.prog w = .ok (.tuple #[((E i).getD zeroL).val, .bool (E i).isSome]) w ∧
    (Instr.lookup 90 (.map (some mb)) (.int .i64 i) false).run Tryz.prog w = .ok ((E i).getD zeroL).val w := by
  obtain ⟨N, D, hown, hr⟩ := h
  have key : ∀ {v : Value} {ps : List MemPlace}, laidR v = some (D.atKey (.int .i64 i) zeroL.code, ps) → v = ((E i).getD zeroL).val := by
    intro v ps hv
    obtain ⟨x, rfl, e⟩ := laidR_inv hv
    simp only [Prod.mk.injEq] at e
    cases hp : E i with
    | none =>
      have : has D (.int .i64 i) = false := by rw [hr.2.1, hp]; rfl
      rw [atKey_of_not_has this] at e
      rw [← La.code_inj e.1]; rfl
    | some t =>
      rw [hr.2.2 i t hp] at e
      rw [← La.code_inj e.1]; rfl
  obtain ⟨v, ps, hrun, hv⟩ := hown.look_ok (int_keyed Tryz.underlying3) Tryz.underlying90 (laid_zero w) (laidR_mk zeroL) (key_ok h1 h2)
  obtain ⟨v', ps', hrun', hv'⟩ := hown.lookup (int_keyed Tryz.underlying3) Tryz.underlying90 (laid_zero w) (laidR_mk zeroL) (key_ok h1 h2)
  rw [key hv, hr.2.1] at hrun
  rw [key hv'] at hrun'
  exact ⟨hrun, hrun'⟩

theorem mapq_store {w : World} {mb nb : Nat} {E : Mp} (h : MapQ w mb E) (hP : ∀ k s, E k = some s → 0 ≤ k ∧ k < (nb : Int)) (hn : nb ≤ 1000000) {i : Int} (h1 : -9223372036854775808 ≤ i) (h2 : i ≤ 9223372036854775807) (x : La) :
    ∃ w', (Instr.mapUpdate 90 (.map (some mb)) (.int .i64 i) x.val).run Tryz.prog w = .ok () w' ∧ MapQ w' mb (upd E i (some x)) ∧ But [mb] w w' := by
  obtain ⟨N, D, hown, hr⟩ := h
  have hsz := size_num hown hr hP
  have hle : num nb (vis E) ≤ nb := cnt_le _ _
  obtain ⟨w', r1, r2, r3⟩ := (ownq_bound hown (Nat.le_of_eq hsz)).update (int_keyed Tryz.underlying3) Tryz.underlying90 (by simp only [maxLen]; omega) (key_ok h1 h2) (laidR_mk x)
  exact ⟨w', r1, ⟨_, _, r2, rds_put hr h1 h2 x⟩, (But.refl _ _).grown r3 fun k hk => by injection hk with hk; subst hk; exact .inl (by simp)⟩

theorem mapq_del {w : World} {mb : Nat} {E : Mp} (h : MapQ w mb E) {i : Int} (h1 : -9223372036854775808 ≤ i) (h2 : i ≤ 9223372036854775807) (ty : TypeId) :
    ∃ w', (Builtin.delete_ #[90, 3] ty #[.map (some mb), .int .i64 i]).run Tryz.prog w = .ok (.tuple #[]) w' ∧ MapQ w' mb (upd E i none) ∧ But [mb] w w' := by
  obtain ⟨N, D, hown, hr⟩ := h
  obtain ⟨w', r1, r2, r3⟩ := hown.drop (int_keyed Tryz.underlying3) Tryz.underlying90 (key_ok h1 h2) ty
  exact ⟨w', r1, ⟨_, _, r2, rds_del hr i⟩, (But.refl _ _).grown r3.grown fun k hk => by injection hk with hk; subst hk; exact .inl (by simp)⟩

theorem mapq_len {w : World} {mb nb : Nat} {E : Mp} (h : MapQ w mb E) (hP : ∀ k s, E k = some s → 0 ≤ k ∧ k < (nb : Int)) (ty : TypeId) :
    (Builtin.len_ #[90] ty #[.map (some mb)]).run Tryz.prog w = .ok (.int .i64 (num nb (vis E))) w := by
  obtain ⟨N, D, hown, hr⟩ := h
  rw [hown.len Tryz.underlying90 ty, size_num hown hr hP]
end Q
end Go.Proofs.YtmcalgnpinolmaaGreat
namespace Go.Proofs.YtmcalgnpinolmaaGreat
open Go.RowKit Go.Maps
set_option linter.unusedVariables false
set_option linter.unusedSimpArgs false
set_option maxRecDepth 20000
namespace Q
variable {qB lB N nb mE : Nat} {k : Kp} {E : Mp}

def Deed.val : Deed → Value
  | .lay e => .iface 117 e.val
  | .clean b ep sq => .iface 120 (.agg #[.int .i64 b, .int .i64 ep, .int .i64 sq])
  | .drop b => .iface 115 (.agg #[.int .i64 b])
  | .note => .iface 124 (.agg #[])
def recV (d : Deed) (k : Kp) : Value := .agg #[d.val, .int .i64 k.ep, .int .i64 k.sq, .int .i64 k.t0, .int .i64 k.t1, .int .i64 k.t2, .int .i64 k.t3]
def recC (d : Deed) (k : Kp) : Array Value := #[d.val, .int .i64 k.ep, .int .i64 k.sq, .int .i64 k.t0, .int .i64 k.t1, .int .i64 k.t2, .int .i64 k.t3]

/-- the cells of what is kept, set anew -/
def setK (w : World) (qB : Nat) (k : Kp) : World := (((((w.setCell ⟨qB, 4, none⟩ (.int .i64 k.ep)).setCell ⟨qB, 5, none⟩ (.int .i64 k.sq)).setCell ⟨qB, 6, none⟩ (.int .i64 k.t0)).setCell ⟨qB, 7, none⟩ (.int .i64 k.t1)).setCell ⟨qB, 8, none⟩ (.int .i64 k.t2)).setCell ⟨qB, 9, none⟩ (.int .i64 k.t3)
theorem setK_is (w : World) (qB : Nat) (k : Kp) : setK w qB k = w.setCells qB 4 [.int .i64 k.ep, .int .i64 k.sq, .int .i64 k.t0, .int .i64 k.t1, .int .i64 k.t2, .int .i64 k.t3] := rfl
theorem setK_but (w : World) (qB : Nat) (k : Kp) : But [qB] w (setK w qB k) := by
  rw [setK_is]; exact (But.refl _ _).sets _ _ _ (.inl (by simp))
theorem CacheC.setK {w : World} (g : CacheC w qB lB N nb mE k) (k' : Kp) : CacheC (setK w qB k') qB lB N nb mE k' := by
  have ht : w.there qB 4 6 := fun j hj => by
    refine ⟨?_, g.fz _⟩
    match j, hj with
    | 0, _ => rw [show 4 + 0 = 4 from rfl, g.p4]; rfl
    | 1, _ => rw [show 4 + 1 = 5 from rfl, g.p5]; rfl
    | 2, _ => rw [show 4 + 2 = 6 from rfl, g.p6]; rfl
    | 3, _ => rw [show 4 + 3 = 7 from rfl, g.p7]; rfl
    | 4, _ => rw [show 4 + 4 = 8 from rfl, g.p8]; rfl
    | 5, _ => rw [show 4 + 5 = 9 from rfl, g.p9]; rfl
  have hr := World.rangeAt_setCells_same w qB 4 [.int .i64 k'.ep, .int .i64 k'.sq, .int .i64 k'.t0, .int .i64 k'.t1, .int .i64 k'.t2, .int .i64 k'.t3] ht
  rw [← setK_is] at hr
  have ho : ∀ o, o < 4 → (Q.setK w qB k').cell? ⟨qB, o, none⟩ = w.cell? ⟨qB, o, none⟩ := fun o h => by
    unfold Q.setK
    have hn : ∀ q, 4 ≤ q → (⟨qB, q, none⟩ : Addr) ≠ ⟨qB, o, none⟩ := fun q hq he => by injection he; omega
    rw [World.cell?_setCell_other _ _ _ _ (hn 9 (by omega)), World.cell?_setCell_other _ _ _ _ (hn 8 (by omega)), World.cell?_setCell_other _ _ _ _ (hn 7 (by omega)), World.cell?_setCell_other _ _ _ _ (hn 6 (by omega)), World.cell?_setCell_other _ _ _ _ (hn 5 (by omega)), World.cell?_setCell_other _ _ _ _ (hn 4 (by omega))]
  exact ⟨by rw [ho 0 (by omega)]; exact g.p0, by rw [ho 1 (by omega)]; exact g.p1, by rw [ho 2 (by omega)]; exact g.p2, by rw [ho 3 (by omega)]; exact g.p3, hr 0 _ rfl, hr 1 _ rfl, hr 2 _ rfl, hr 3 _ rfl, hr 4 _ rfl, hr 5 _ rfl, fun o => by
    rw [setK_is]; simpa [World.setCells] using g.fz o⟩

theorem as_ll (v : Value) (w : World) : (Instr.typeAssert (.iface 117 v) 20 117 true).run Tryz.prog w = .ok (.tuple #[v, .bool true]) w := by kernel_rfl
theorem as_cl (v : Value) (w : World) : (Instr.typeAssert (.iface 120 v) 20 117 true).run Tryz.prog w = .ok (.tuple #[.agg #[.int .i64 0, .int .i64 0, .int .i64 0, .string ⟨#[]⟩, .bool false, .int .i64 0, .int .i64 0], .bool false]) w := by kernel_rfl
theorem as_cc (v : Value) (w : World) : (Instr.typeAssert (.iface 120 v) 20 120 true).run Tryz.prog w = .ok (.tuple #[v, .bool true]) w := by kernel_rfl
theorem as_dl (v : Value) (w : World) : (Instr.typeAssert (.iface 115 v) 20 117 true).run Tryz.prog w = .ok (.tuple #[.agg #[.int .i64 0, .int .i64 0, .int .i64 0, .string ⟨#[]⟩, .bool false, .int .i64 0, .int .i64 0], .bool false]) w := by kernel_rfl
theorem as_dc (v : Value) (w : World) : (Instr.typeAssert (.iface 115 v) 20 120 true).run Tryz.prog w = .ok (.tuple #[.agg #[.int .i64 0, .int .i64 0, .int .i64 0], .bool false]) w := by kernel_rfl
theorem as_dd (v : Value) (w : World) : (Instr.typeAssert (.iface 115 v) 20 115 true).run Tryz.prog w = .ok (.tuple #[v, .bool true]) w := by kernel_rfl
theorem as_nl (v : Value) (w : World) : (Instr.typeAssert (.iface 124 v) 20 117 true).run Tryz.prog w = .ok (.tuple #[.agg #[.int .i64 0, .int .i64 0, .int .i64 0, .string ⟨#[]⟩, .bool false, .int .i64 0, .int .i64 0], .bool false]) w := by kernel_rfl
theorem as_nc (v : Value) (w : World) : (Instr.typeAssert (.iface 124 v) 20 120 true).run Tryz.prog w = .ok (.tuple #[.agg #[.int .i64 0, .int .i64 0, .int .i64 0], .bool false]) w := by kernel_rfl
theorem as_nd (v : Value) (w : World) : (Instr.typeAssert (.iface 124 v) 20 115 true).run Tryz.prog w = .ok (.tuple #[.agg #[.int .i64 0], .bool false]) w := by kernel_rfl

theorem CacheC.drew {w : World} (g : CacheC w qB lB N nb mE k) : CacheC w.drew qB lB N nb mE k := g.of_block rfl
theorem MapQ.drew {w : World} (h : MapQ w mE E) : MapQ w.drew mE E := h.of_block rfl
/-- what is known behind the cells that are set anew, and a draw -/
theorem fin_drew {w w1 : World} (hb : But [qB, mE] w w1) (g : CacheC w1 qB lB N nb mE k) (hm : MapQ w1 mE E) (hne : qB ≠ mE) (k' : Kp) : CacheC (setK w1 qB k').drew qB lB N nb mE k' ∧ MapQ (setK w1 qB k').drew mE E ∧ But [qB, mE] w (setK w1 qB k').drew :=
  ⟨(g.setK k').drew, (hm.but (setK_but _ qB k') (by simpa using Ne.symm hne)).drew, (hb.trans ((setK_but _ qB k').mono (by simp))).drew⟩

theorem do_note (w : World) (g : CacheC w qB lB N nb mE k) (hm : MapQ w mE E) (hne : qB ≠ mE) (k' : Kp) (at' : Int) :
    Calls Tryz.prog 44 #[.pointer (some ⟨qB, 0, none⟩), recV .note k', .int .i64 at'] w fun e w' => e = .returned (.tuple #[]) ∧ CacheC w' qB lB N nb mE k' ∧ MapQ w' mE E ∧ But [qB, mE] w w' := by
  have HB : Hid (Below w.heap.size w (w.alloc (.cells (recC .note k') 98))) := Lib.hid ((Below.refl _ w).alloc (Nat.le_refl _) _)
  have HG := Lib.hid (g.below HB.out g.lt)
  have HM := Lib.hid (hm.but (But.of_below HB.out) (by simp))
  have Hne := Lib.hid hne
  unfold recC at *
  unfold recV
  unfold Deed.val at *
  have f := HG.out.fz
  have p4 := HG.out.p4
  have p5 := HG.out.p5
  have p6 := HG.out.p6
  have p7 := HG.out.p7
  have p8 := HG.out.p8
  have p9 := HG.out.p9
  have t1 := as_nl (.agg #[])
  have t2 := as_nc (.agg #[])
  have t3 := as_nd (.agg #[])
  clear g hm hne
  go_enter Tryz.func44, Tryz.ntmps44
  go_wp2_with fail
  go_end0
  exact ⟨rfl, HG.out.setK k', (HM.out.but (setK_but _ qB k') (by simpa using Hne.out.symm)), ((But.refl [qB, mE] w).below HB.out (Nat.le_refl _)).trans ((setK_but _ qB k').mono (by simp))⟩

set_option maxHeartbeats 1000000 in
theorem do_lay (w : World) (g : CacheC w qB lB N nb mE k) (hm : MapQ w mE E) (hne : qB ≠ mE) (hE : ∀ k s, E k = some s → 0 ≤ k ∧ k < (nb : Int)) (hnb : nb ≤ 32) (x : En) (hx : 0 ≤ x.b ∧ x.b < (nb : Int)) (k' : Kp) (at' : Int) :
    Calls Tryz.prog 44 #[.pointer (some ⟨qB, 0, none⟩), recV (.lay x) k', .int .i64 at'] w fun e w' => e = .returned (.tuple #[]) ∧ CacheC w' qB lB N nb mE k' ∧ MapQ w' mE (step E (.lay x) at') ∧ But [qB, mE] w w' := by
  have HB0 : Hid (Below w.heap.size w ((w.alloc (.cells (recC (.lay x) k') 98)).alloc (.cells x.cells 117))) := Lib.hid (((Below.refl _ w).alloc (Nat.le_refl _) _).alloc (by simp) _)
  have HB : Hid (Below w.heap.size w ((w.alloc (.cells (recC (.lay x) k') 98)).alloc (.cells x.cells 117)).drew) := Lib.hid HB0.out.drew
  have HG0 := Lib.hid (g.below HB0.out g.lt)
  have HG := Lib.hid (g.below HB.out g.lt)
  have HM := Lib.hid (hm.but (But.of_below HB.out) (by simp))
  obtain ⟨w9, r9, m9, b9⟩ := mapq_store HM.out hE (by omega) (i := x.b) (by omega) (by omega) ⟨x, at'⟩
  have HG9 := Lib.hid (HG.out.but b9 (by simpa using hne))
  have HM9 := Lib.hid m9
  have HB9 : Hid (But [qB, mE] w w9) := Lib.hid (((But.refl [qB, mE] w).below HB.out (Nat.le_refl _)).trans (b9.mono (by simp)))
  have Hne := Lib.hid hne
  have hrc : w9.cell? ⟨w.heap.size, 0, none⟩ = some (Deed.lay x).val ∧ w9.cell? ⟨w.heap.size, 1, none⟩ = some (.int .i64 k'.ep) ∧ w9.cell? ⟨w.heap.size, 2, none⟩ = some (.int .i64 k'.sq) ∧ w9.cell? ⟨w.heap.size, 3, none⟩ = some (.int .i64 k'.t0) ∧ w9.cell? ⟨w.heap.size, 4, none⟩ = some (.int .i64 k'.t1) ∧ w9.cell? ⟨w.heap.size, 5, none⟩ = some (.int .i64 k'.t2) ∧ w9.cell? ⟨w.heap.size, 6, none⟩ = some (.int .i64 k'.t3) := by
    have hlt := hm.lt
    have e : ∀ o, w9.cell? ⟨w.heap.size, o, none⟩ = (w.alloc (.cells (recC (.lay x) k') 98)).cell? ⟨w.heap.size, o, none⟩ := fun o => by
      rw [b9.cell (by simp; omega) (by simp; omega)]
      show ((w.alloc (.cells (recC (.lay x) k') 98)).alloc (.cells x.cells 117)).cell? _ = _
      rw [World.cell?_alloc_lt _ _ _ (by simp)]
    refine ⟨?_, ?_, ?_, ?_, ?_, ?_, ?_⟩ <;> (rw [e, World.cell?_alloc_mark]; rfl)
  obtain ⟨z0, z1, z2, z3, z4, z5, z6⟩ := hrc
  unfold recC at *
  unfold recV
  unfold Deed.val at *
  obtain ⟨b, ep, sq, data, dirty, cl, n⟩ := x
  unfold En.cells at *
  unfold La.val at *
  unfold En.val at *
  simp only at *
  have p3 := HG0.out.p3
  have f := HG9.out.fz
  have p4 := HG9.out.p4
  have p5 := HG9.out.p5
  have p6 := HG9.out.p6
  have p7 := HG9.out.p7
  have p8 := HG9.out.p8
  have p9 := HG9.out.p9
  have t1 := as_ll (.agg #[.int .i64 b, .int .i64 ep, .int .i64 sq, .string data, .bool dirty, .int .i64 cl, .int .i64 n])
  clear g hm hne b9 m9 hx
  go_enter Tryz.func44, Tryz.ntmps44
  go_wp2_with fail
  go_region
  go_wp2_with fail
  go_end0
  exact ⟨rfl, HG9.out.setK k', (HM9.out.but (setK_but _ qB k') (by simpa using Hne.out.symm)), HB9.out.trans ((setK_but _ qB k').mono (by simp))⟩

set_option maxHeartbeats 1000000 in
theorem do_drop (w : World) (g : CacheC w qB lB N nb mE k) (hm : MapQ w mE E) (hne : qB ≠ mE) (b : Int) (hb0 : -9223372036854775808 ≤ b) (hb1 : b ≤ 9223372036854775807) (k' : Kp) (at' : Int) :
    Calls Tryz.prog 44 #[.pointer (some ⟨qB, 0, none⟩), recV (.drop b) k', .int .i64 at'] w fun e w' => e = .returned (.tuple #[]) ∧ CacheC w' qB lB N nb mE k' ∧ MapQ w' mE (step E (.drop b) at') ∧ But [qB, mE] w w' := by
  have HB0 : Hid (Below w.heap.size w ((w.alloc (.cells (recC (.drop b) k') 98)).alloc (.cells #[.int .i64 b] 115))) := Lib.hid (((Below.refl _ w).alloc (Nat.le_refl _) _).alloc (by simp) _)
  have HB : Hid (Below w.heap.size w ((w.alloc (.cells (recC (.drop b) k') 98)).alloc (.cells #[.int .i64 b] 115)).drew) := Lib.hid HB0.out.drew
  have HG0 := Lib.hid (g.below HB0.out g.lt)
  have HG := Lib.hid (g.below HB.out g.lt)
  have HM := Lib.hid (hm.but (But.of_below HB.out) (by simp))
  obtain ⟨w9, r9, m9, b9⟩ := mapq_del HM.out (i := b) hb0 hb1 0
  have HG9 := Lib.hid (HG.out.but b9 (by simpa using hne))
  have HM9 := Lib.hid m9
  have HB9 : Hid (But [qB, mE] w w9) := Lib.hid (((But.refl [qB, mE] w).below HB.out (Nat.le_refl _)).trans (b9.mono (by simp)))
  have Hne := Lib.hid hne
  have hrc : w9.cell? ⟨w.heap.size, 0, none⟩ = some (Deed.drop b).val ∧ w9.cell? ⟨w.heap.size, 1, none⟩ = some (.int .i64 k'.ep) ∧ w9.cell? ⟨w.heap.size, 2, none⟩ = some (.int .i64 k'.sq) ∧ w9.cell? ⟨w.heap.size, 3, none⟩ = some (.int .i64 k'.t0) ∧ w9.cell? ⟨w.heap.size, 4, none⟩ = some (.int .i64 k'.t1) ∧ w9.cell? ⟨w.heap.size, 5, none⟩ = some (.int .i64 k'.t2) ∧ w9.cell? ⟨w.heap.size, 6, none⟩ = some (.int .i64 k'.t3) := by
    have hlt := hm.lt
    have e : ∀ o, w9.cell? ⟨w.heap.size, o, none⟩ = (w.alloc (.cells (recC (.drop b) k') 98)).cell? ⟨w.heap.size, o, none⟩ := fun o => by
      rw [b9.cell (by simp; omega) (by simp; omega)]
      show ((w.alloc (.cells (recC (.drop b) k') 98)).alloc (.cells #[.int .i64 b] 115)).cell? _ = _
      rw [World.cell?_alloc_lt _ _ _ (by simp)]
    refine ⟨?_, ?_, ?_, ?_, ?_, ?_, ?_⟩ <;> (rw [e, World.cell?_alloc_mark]; rfl)
  obtain ⟨z0, z1, z2, z3, z4, z5, z6⟩ := hrc
  unfold recC at *
  unfold recV
  unfold Deed.val at *
  have p3 := HG0.out.p3
  have f := HG9.out.fz
  have p4 := HG9.out.p4
  have p5 := HG9.out.p5
  have p6 := HG9.out.p6
  have p7 := HG9.out.p7
  have p8 := HG9.out.p8
  have p9 := HG9.out.p9
  have t1 := as_dl (.agg #[.int .i64 b])
  have t2 := as_dc (.agg #[.int .i64 b])
  have t3 := as_dd (.agg #[.int .i64 b])
  clear g hm hne b9 m9 hb0 hb1
  go_enter Tryz.func44, Tryz.ntmps44
  go_wp2_with fail
  go_region
  go_wp2_with fail
  go_end0
  exact ⟨rfl, HG9.out.setK k', (HM9.out.but (setK_but _ qB k') (by simpa using Hne.out.symm)), HB9.out.trans ((setK_but _ qB k').mono (by simp))⟩

set_option maxHeartbeats 1000000 in
theorem do_clean (w : World) (g : CacheC w qB lB N nb mE k) (hm : MapQ w mE E) (hne : qB ≠ mE) (hE : ∀ k s, E k = some s → 0 ≤ k ∧ k < (nb : Int)) (hnb : nb ≤ 32) (b ep sq : Int) (hb0 : -9223372036854775808 ≤ b) (hb1 : b ≤ 9223372036854775807) (k' : Kp) (at' : Int) :
    Calls Tryz.prog 44 #[.pointer (some ⟨qB, 0, none⟩), recV (.clean b ep sq) k', .int .i64 at'] w fun e w' => e = .returned (.tuple #[]) ∧ CacheC w' qB lB N nb mE k' ∧ MapQ w' mE (step E (.clean b ep sq) at') ∧ But [qB, mE] w w' := by
  have HB0 : Hid (Below w.heap.size w ((w.alloc (.cells (recC (.clean b ep sq) k') 98)).alloc (.cells #[.int .i64 b, .int .i64 ep, .int .i64 sq] 120))) := Lib.hid (((Below.refl _ w).alloc (Nat.le_refl _) _).alloc (by simp) _)
  have HG0 := Lib.hid (g.below HB0.out g.lt)
  have HM0 := Lib.hid (hm.but (But.of_below HB0.out) (by simp))
  have Hne := Lib.hid hne
  have HB1 : Hid (Below w.heap.size w (((w.alloc (.cells (recC (.clean b ep sq) k') 98)).alloc (.cells #[.int .i64 b, .int .i64 ep, .int .i64 sq] 120)).alloc (.cells #[.int .i64 0, .int .i64 0, .int .i64 0, .string ⟨#[]⟩, .bool false, .int .i64 0, .int .i64 0, .int .i64 0] 108))) := Lib.hid (HB0.out.alloc HB0.out.size _)
  have HG1 := Lib.hid (g.below HB1.out g.lt)
  have HM1 := Lib.hid (hm.but (But.of_below HB1.out) (by simp))
  have hlk := (mapq_look (w := ((w.alloc (.cells (recC (.clean b ep sq) k') 98)).alloc (.cells #[.int .i64 b, .int .i64 ep, .int .i64 sq] 120)).drew) HM0.out hb0 hb1).1
  have hlk1 := (mapq_look (w := (((w.alloc (.cells (recC (.clean b ep sq) k') 98)).alloc (.cells #[.int .i64 b, .int .i64 ep, .int .i64 sq] 120)).alloc (.cells #[.int .i64 0, .int .i64 0, .int .i64 0, .string ⟨#[]⟩, .bool false, .int .i64 0, .int .i64 0, .int .i64 0] 108)).drew) HM1.out hb0 hb1).1
  have HX : Hid (∀ x : La, Below w.heap.size w (((w.alloc (.cells (recC (.clean b ep sq) k') 98)).alloc (.cells #[.int .i64 b, .int .i64 ep, .int .i64 sq] 120)).alloc (.cells #[.int .i64 x.e.b, .int .i64 x.e.ep, .int .i64 x.e.sq, .string x.e.data, .bool x.e.dirty, .int .i64 x.e.cl, .int .i64 x.e.n, .int .i64 x.pos] 108)).drew) := Lib.hid fun x => (HB0.out.alloc HB0.out.size _).drew
  unfold recC at *
  unfold recV
  unfold Deed.val at *
  have p3 := HG0.out.p3
  have p3b := HG1.out.p3
  have t1 := as_cl (.agg #[.int .i64 b, .int .i64 ep, .int .i64 sq])
  have t2 := as_cc (.agg #[.int .i64 b, .int .i64 ep, .int .i64 sq])
  cases hEb : E b with
  | none =>
    rw [hEb] at hlk hlk1
    have hst : step E (.clean b ep sq) at' = E := by simp [step, hEb]
    rw [hst]
    simp only [Option.getD_none, Option.isSome_none, La.val, zeroL, zeroE] at hlk hlk1
    have f := HG1.out.fz
    have p4 := HG1.out.p4
    have p5 := HG1.out.p5
    have p6 := HG1.out.p6
    have p7 := HG1.out.p7
    have p8 := HG1.out.p8
    have p9 := HG1.out.p9
    clear hst
    have HF := Lib.hid (fin_drew (((But.refl [qB, mE] w).below HB1.out (Nat.le_refl _))) HG1.out HM1.out Hne.out k')
    clear g hm hne hb0 hb1 hEb HG0 HM0 HG1 HM1 HB0 HB1 HX
    go_enter Tryz.func44, Tryz.ntmps44
    go_wp2_with fail
    go_region
    all_goals
      go_wp2_with fail
      go_end0
      exact ⟨rfl, HF.out⟩
  | some x =>
    rw [hEb] at hlk hlk1
    obtain ⟨⟨xb, xp, xq, xd, xy, xc, xn⟩, xpos⟩ := x
    simp only [Option.getD_some, Option.isSome_some, La.val] at hlk hlk1
    have HB2 : Hid (Below w.heap.size w (((w.alloc (.cells #[.iface 120 (.agg #[.int .i64 b, .int .i64 ep, .int .i64 sq]), .int .i64 k'.ep, .int .i64 k'.sq, .int .i64 k'.t0, .int .i64 k'.t1, .int .i64 k'.t2, .int .i64 k'.t3] 98)).alloc (.cells #[.int .i64 b, .int .i64 ep, .int .i64 sq] 120)).alloc (.cells #[.int .i64 xb, .int .i64 xp, .int .i64 xq, .string xd, .bool xy, .int .i64 xc, .int .i64 xn, .int .i64 xpos] 108))) := Lib.hid (HB0.out.alloc HB0.out.size _)
    have HG2 := Lib.hid (g.below HB2.out g.lt)
    have HM2 := Lib.hid (hm.but (But.of_below HB2.out) (by simp))
    by_cases hv : xp = ep ∧ xq = sq
    · obtain ⟨rfl, rfl⟩ := hv
      have hst : step E (.clean b xp xq) at' = upd E b (some ⟨⟨xb, xp, xq, xd, false, xc, xn⟩, xpos⟩) := by simp [step, hEb]
      rw [hst]
      have HB3 : Hid (Below w.heap.size w (((w.alloc (.cells #[.iface 120 (.agg #[.int .i64 b, .int .i64 xp, .int .i64 xq]), .int .i64 k'.ep, .int .i64 k'.sq, .int .i64 k'.t0, .int .i64 k'.t1, .int .i64 k'.t2, .int .i64 k'.t3] 98)).alloc (.cells #[.int .i64 b, .int .i64 xp, .int .i64 xq] 120)).alloc (.cells #[.int .i64 xb, .int .i64 xp, .int .i64 xq, .string xd, .bool false, .int .i64 xc, .int .i64 xn, .int .i64 xpos] 108)).drew.drew) := Lib.hid (HB0.out.alloc HB0.out.size _).drew.drew
      have HG3 := Lib.hid (g.below HB3.out g.lt)
      have HM3 := Lib.hid (hm.but (But.of_below HB3.out) (by simp))
      obtain ⟨w9, r9, m9, b9⟩ := mapq_store HM3.out hE (by omega) (i := b) hb0 hb1 ⟨⟨xb, xp, xq, xd, false, xc, xn⟩, xpos⟩
      have HG9 := Lib.hid (HG3.out.but b9 (by simpa using hne))
      have HB9 : Hid (But [qB, mE] w w9) := Lib.hid (((But.refl [qB, mE] w).below HB3.out (Nat.le_refl _)).trans (b9.mono (by simp)))
      have hrc : w9.cell? ⟨w.heap.size, 0, none⟩ = some (Deed.clean b xp xq).val ∧ w9.cell? ⟨w.heap.size, 1, none⟩ = some (.int .i64 k'.ep) ∧ w9.cell? ⟨w.heap.size, 2, none⟩ = some (.int .i64 k'.sq) ∧ w9.cell? ⟨w.heap.size, 3, none⟩ = some (.int .i64 k'.t0) ∧ w9.cell? ⟨w.heap.size, 4, none⟩ = some (.int .i64 k'.t1) ∧ w9.cell? ⟨w.heap.size, 5, none⟩ = some (.int .i64 k'.t2) ∧ w9.cell? ⟨w.heap.size, 6, none⟩ = some (.int .i64 k'.t3) := by
        have hlt := hm.lt
        have e : ∀ o, w9.cell? ⟨w.heap.size, o, none⟩ = (w.alloc (.cells (recC (.clean b xp xq) k') 98)).cell? ⟨w.heap.size, o, none⟩ := fun o => by
          rw [b9.cell (by simp; omega) (by simp; omega)]
          show ((((w.alloc (.cells (recC (.clean b xp xq) k') 98)).alloc (.cells #[.int .i64 b, .int .i64 xp, .int .i64 xq] 120)).alloc _)).cell? _ = _
          rw [World.cell?_alloc_lt _ _ _ (by simp; omega), World.cell?_alloc_lt _ _ _ (by simp)]
        refine ⟨?_, ?_, ?_, ?_, ?_, ?_, ?_⟩ <;> (rw [e, World.cell?_alloc_mark]; rfl)
      obtain ⟨z0, z1, z2, z3, z4, z5, z6⟩ := hrc
      unfold Deed.val at *
      simp only [La.val] at r9
      have p3c := HG2.out.p3
      have p3d := HG3.out.p3
      have f := HG9.out.fz
      have p4 := HG9.out.p4
      have p5 := HG9.out.p5
      have p6 := HG9.out.p6
      have p7 := HG9.out.p7
      have p8 := HG9.out.p8
      have p9 := HG9.out.p9
      have HF : Hid (CacheC (setK w9 qB k') qB lB N nb mE k' ∧ MapQ (setK w9 qB k') mE (upd E b (some ⟨⟨xb, xp, xq, xd, false, xc, xn⟩, xpos⟩)) ∧ But [qB, mE] w (setK w9 qB k')) := Lib.hid ⟨HG9.out.setK k', m9.but (setK_but _ qB k') (by simpa using Ne.symm hne), HB9.out.trans ((setK_but _ qB k').mono (by simp))⟩
      clear hst g hm hne hb0 hb1 hEb HG0 HM0 HG1 HM1 HB0 HB1 HX HB2 HG2 HM2 HB3 HG3 HM3 HG9 HB9 m9 b9
      go_enter Tryz.func44, Tryz.ntmps44
      go_wp2_with fail
      go_region
      all_goals
        go_wp2_with fail
        go_region
        go_wp2_with fail
        go_end0
        exact ⟨rfl, HF.out⟩
    · have hst : step E (.clean b ep sq) at' = E := by simp [step, hEb, hv]
      rw [hst]
      by_cases h1 : xp = ep
      · subst h1
        have h2 : ¬ xq = sq := fun z => hv ⟨rfl, z⟩
        have f := HG2.out.fz
        have p4 := HG2.out.p4
        have p5 := HG2.out.p5
        have p6 := HG2.out.p6
        have p7 := HG2.out.p7
        have p8 := HG2.out.p8
        have p9 := HG2.out.p9
        have HF := Lib.hid (fin_drew (((But.refl [qB, mE] w).below HB2.out (Nat.le_refl _))) HG2.out HM2.out Hne.out k')
        clear hst g hm hne hb0 hb1 hEb HG0 HM0 HG1 HM1 HB0 HB1 HX HB2 HG2 HM2 hv
        go_enter Tryz.func44, Tryz.ntmps44
        go_wp2_with fail
        go_region
        all_goals
          go_wp2_with fail
          go_end0
          exact ⟨rfl, HF.out⟩
      · have f := HG2.out.fz
        have p4 := HG2.out.p4
        have p5 := HG2.out.p5
        have p6 := HG2.out.p6
        have p7 := HG2.out.p7
        have p8 := HG2.out.p8
        have p9 := HG2.out.p9
        have HF := Lib.hid (fin_drew (((But.refl [qB, mE] w).below HB2.out (Nat.le_refl _))) HG2.out HM2.out Hne.out k')
        clear hst g hm hne hb0 hb1 hEb HG0 HM0 HG1 HM1 HB0 HB1 HX HB2 HG2 HM2 hv
        go_enter Tryz.func44, Tryz.ntmps44
        go_wp2_with fail
        go_region
        all_goals
          go_wp2_with fail
          go_end0
          exact ⟨rfl, HF.out⟩
end Q
end Go.Proofs.YtmcalgnpinolmaaGreat
namespace Go.Proofs.YtmcalgnpinolmaaGreat
open Go.RowKit Go.Maps
set_option linter.unusedVariables false
set_option linter.unusedSimpArgs false
set_option maxRecDepth 20000
namespace Q

theorem append_i64 (w : World) {ops : Array Oper} {rest : List Oper} {o : Oper} {act : Act} {Q : Exit → Act → World → Prop} (hgd : o.guard = none) (s x : Operand)
    (ho : o.op = .call { callee := .builtin .append, args := #[s, x], argTypes := #[38, 38] })
    (a : Option Addr) (n cap : Nat) (l : List Int) (hs : act.eval s = .slice a n cap) (hown : C.Own 2 w 0 a n cap (C.i64s l))
    (A : Option Addr) (m c : Nat) (y : List Int) (hx : act.eval x = .slice A m c) (hr : C.Row w A m c (C.i64s y)) (hsum : n + m ≤ 1048576)
    (h : ∀ a' cap' w', C.Own 2 w' 0 a' (n + m) cap' (C.i64s (l ++ y)) → w.grownBy w' (Value.slice a n cap).ownBlock → ((Value.slice a' (n + m) cap').ownBlock = (Value.slice a n cap).ownBlock ∨ (Value.slice a' (n + m) cap').ownBlock = some w.heap.size) → wpList Tryz.prog ops Q rest (act.put o.dst (.slice a' (n + m) cap')) w') : wpList Tryz.prog ops Q (o :: rest) act w := by
  refine wpList_plain hgd fun K hK => ?_
  obtain ⟨a', cap', w', hrun, h2, h3, h4, h5⟩ := C.run_append_i64 w o.type 0 a n cap l hown A m c y hr hsum (Nat.zero_le _)
  unfold Oper.wp execOp
  simp only [ho, resolve, invoke, builtin, Sem.run_bind, Sem.run_pure, Result.andThen_ok, List.map_toArray, List.map_cons, List.map_nil, hs, hx, hrun]
  exact hK _ _ (h a' cap' w' h2 h4 h5)
theorem step_i64 (w : World) {ops : Array Oper} {o : Oper} {act : Act} {K : Act → World → Prop} {Q : Exit → Act → World → Prop} {E : Prop} (hgd : o.guard = none) (s x : Operand)
    (ho : o.op = .call { callee := .builtin .append, args := #[s, x], argTypes := #[38, 38] })
    (a : Option Addr) (n cap : Nat) (l : List Int) (hs : act.eval s = .slice a n cap) (hown : C.Own 2 w 0 a n cap (C.i64s l))
    (A : Option Addr) (m c : Nat) (y : List Int) (hx : act.eval x = .slice A m c) (hr : C.Row w A m c (C.i64s y)) (hsum : n + m ≤ 1048576)
    (h : ∀ a' cap' w', C.Own 2 w' 0 a' (n + m) cap' (C.i64s (l ++ y)) → w.grownBy w' (Value.slice a n cap).ownBlock → ((Value.slice a' (n + m) cap').ownBlock = (Value.slice a n cap).ownBlock ∨ (Value.slice a' (n + m) cap').ownBlock = some w.heap.size) → K (act.put o.dst (.slice a' (n + m) cap')) w') :
    if Region.wanted o (yielded ops act.tmps) = true then Oper.wp Tryz.prog o act w K Q else E := by
  have hw : Region.wanted o (yielded ops act.tmps) = true := by simp [Region.wanted, hgd]
  rw [if_pos hw]
  obtain ⟨a', cap', w', hrun, h2, h3, h4, h5⟩ := C.run_append_i64 w o.type 0 a n cap l hown A m c y hr hsum (Nat.zero_le _)
  unfold Oper.wp execOp
  simp only [ho, resolve, invoke, builtin, Sem.run_bind, Sem.run_pure, Result.andThen_ok, List.map_toArray, List.map_cons, List.map_nil, hs, hx, hrun]
  exact h a' cap' w' h2 h4 h5

/-- a row that lies in a block of its own -/
theorem own_at {w : World} {g : Nat} {e : TypeId} {vs : List Value} (h : w.heap[g]? = some (.cells vs.toArray e (0, 0))) (hn : vs.length ≤ 1000) : C.Own e w 0 (some ⟨g, 0, none⟩) vs.length vs.length vs :=
  ⟨⟨by simp, .inr ⟨g, vs.length, vs.toArray, rfl, Nat.zero_le _, h, Nat.le_refl _, by simp only [maxLen]; omega, by simp, by simp⟩⟩, rfl, by omega⟩
theorem heap_at (X : World) {g : Nat} (hg : X.heap.size = g) (o : Obj) : (X.alloc o).heap[g]? = some o := by subst hg; exact heap_alloc_new X o
theorem heap_up {X : World} {g : Nat} {o : Obj} (h : X.heap[g]? = some o) (p : Obj) : (X.alloc p).heap[g]? = some o := by
  rw [Below.heap_alloc _ _ _ (lt_of_heap h)]; exact h
theorem size_up {X : World} {g : Nat} (hg : X.heap.size = g) (o : Obj) : (X.alloc o).heap.size = g + 1 := by simp [hg]

/-- before the numbers of what is kept are appended: the record's box at P, the record itself at R; its numbers, its texts -/
structure TextAt (w : World) (P R : Nat) (k : Kp) (kd : Int) (a : Option Addr) (n cap : Nat) (l : List Int) (tv : Value) (tx : Option (Nat × ByteArray)) : Prop where
  b1 : w.cell? ⟨P, 1, none⟩ = some (.int .i64 k.ep)
  b2 : w.cell? ⟨P, 2, none⟩ = some (.int .i64 k.sq)
  b3 : w.cell? ⟨P, 3, none⟩ = some (.int .i64 k.t0)
  b4 : w.cell? ⟨P, 4, none⟩ = some (.int .i64 k.t1)
  b5 : w.cell? ⟨P, 5, none⟩ = some (.int .i64 k.t2)
  b6 : w.cell? ⟨P, 6, none⟩ = some (.int .i64 k.t3)
  r0 : w.cell? ⟨R, 0, none⟩ = some (.int .i64 kd)
  r1 : w.cell? ⟨R, 1, none⟩ = some (.slice a n cap)
  r2 : w.cell? ⟨R, 2, none⟩ = some tv
  fz : ∀ o, w.frozen? ⟨R, o, none⟩ = false
  ne : P < R
  tc : ∀ T d, tx = some (T, d) → w.cell? ⟨T, 0, none⟩ = some (.string d)
variable {P R : Nat} {k : Kp} {kd : Int} {a : Option Addr} {n cap : Nat} {l : List Int} {tv : Value} {tx : Option (Nat × ByteArray)}
theorem TextAt.but {w w' : World} (h : TextAt w P R k kd a n cap l tv tx) {q : List Nat} (hb : But q w w') (hP : P ∉ q) (hR : R ∉ q) (hT : ∀ T d, tx = some (T, d) → T ∉ q) : TextAt w' P R k kd a n cap l tv tx := by
  have lp := World.block_lt_of_cell? w _ h.b1
  have lr := World.block_lt_of_cell? w _ h.r0
  exact ⟨by rw [hb.cell lp hP]; exact h.b1, by rw [hb.cell lp hP]; exact h.b2, by rw [hb.cell lp hP]; exact h.b3, by rw [hb.cell lp hP]; exact h.b4, by rw [hb.cell lp hP]; exact h.b5, by rw [hb.cell lp hP]; exact h.b6,
   by rw [hb.cell lr hR]; exact h.r0, by rw [hb.cell lr hR]; exact h.r1, by rw [hb.cell lr hR]; exact h.r2, fun o => by rw [hb.frozen lr hR]; exact h.fz o, h.ne, fun T d hT' => by
    have := h.tc T d hT'
    rw [hb.cell (World.block_lt_of_cell? w _ this) (hT T d hT')]; exact this⟩
theorem TextAt.set {w : World} (h : TextAt w P R k kd a n cap l tv tx) (hT : ∀ T d, tx = some (T, d) → T ≠ R) (a' : Option Addr) (n' cap' : Nat) (l' : List Int) : TextAt (w.setCell ⟨R, 1, none⟩ (.slice a' n' cap')) P R k kd a' n' cap' l' tv tx := by
  have hp : ∀ q o, q ≠ R → (w.setCell ⟨R, 1, none⟩ (.slice a' n' cap')).cell? ⟨q, o, none⟩ = w.cell? ⟨q, o, none⟩ := fun q o hq => World.cell?_setCell_other _ _ _ _ (fun e => by injection e with e; exact hq e.symm)
  have hne : P ≠ R := by have := h.ne; omega
  exact ⟨by rw [hp _ _ hne]; exact h.b1, by rw [hp _ _ hne]; exact h.b2, by rw [hp _ _ hne]; exact h.b3, by rw [hp _ _ hne]; exact h.b4, by rw [hp _ _ hne]; exact h.b5, by rw [hp _ _ hne]; exact h.b6, by rw [World.cell?_setCell_other _ _ _ _ (by simp)]; exact h.r0, World.cell?_setCell_same _ _ _ h.r1, by rw [World.cell?_setCell_other _ _ _ _ (by simp)]; exact h.r2, fun o => by simpa using h.fz o, h.ne, fun T d hT' => by rw [hp _ _ (hT T d hT')]; exact h.tc T d hT'⟩

/-- an own row is as it was, where its block is -/
theorem own_but {w w' : World} {e : TypeId} {a : Option Addr} {n cap : Nat} {vs : List Value} (h : C.Own e w 0 a n cap vs) {q : List Nat} (hb : But q w w') (hq : ∀ g, (Value.slice a n cap).ownBlock = some g → g ∉ q) : C.Own e w' 0 a n cap vs := by
  obtain ⟨⟨h1, h2⟩, h3⟩ := h
  refine ⟨⟨h1, ?_⟩, h3⟩
  rcases h2 with h2 | ⟨g, c, cur, hv, hB, hh, r⟩
  · exact .inl h2
  · refine .inr ⟨g, c, cur, hv, hB, ?_, r⟩
    rw [hb.block g (lt_of_heap hh) (hq g (by rw [hv]; rfl))]
    exact hh

/-- all numbers of what is kept, appended -/
theorem rowK {w : World} {P : Nat} {k : Kp} (h3 : w.cell? ⟨P, 3, none⟩ = some (.int .i64 k.t0)) (h4 : w.cell? ⟨P, 4, none⟩ = some (.int .i64 k.t1)) (h5 : w.cell? ⟨P, 5, none⟩ = some (.int .i64 k.t2)) (h6 : w.cell? ⟨P, 6, none⟩ = some (.int .i64 k.t3)) : C.Row w (some ⟨P, 3, none⟩) 4 4 (C.i64s [k.t0, k.t1, k.t2, k.t3]) := by
  refine ⟨rfl, Nat.le_refl _, by simp [maxLen], .inr ⟨P, 3, rfl, World.block_lt_of_cell? w _ h3, fun i hi => ?_⟩⟩
  match i, hi with
  | 0, _ => exact h3
  | 1, _ => exact h4
  | 2, _ => exact h5
  | 3, _ => exact h6

theorem rec_at {w : World} {P R : Nat} {k : Kp} {kd : Int} {a : Option Addr} {n cap : Nat} {l : List Int} {r : C.M.Rc} (ho : C.Own 2 w 0 a n cap (C.i64s l)) (hl : r.nums = l) {aT : Option Addr} {nT cT : Nat} (ht : C.Row w aT nT cT (C.strs r.texts)) : C.RecAt w r a n cap aT nT cT :=
  ⟨by rw [hl]; exact (C.own_row ho).1, ht⟩
theorem row_one_str {w : World} {T : Nat} {d : ByteArray} (h : w.cell? ⟨T, 0, none⟩ = some (.string d)) : C.Row w (some ⟨T, 0, none⟩) 1 1 (C.strs [d]) :=
  ⟨rfl, Nat.le_refl _, by simp [maxLen], .inr ⟨T, 0, rfl, World.block_lt_of_cell? w _ h, fun i hi => by
    match i, hi with
    | 0, _ => exact h⟩⟩
theorem row_no_str (w : World) : C.Row w none 0 0 (C.strs []) := ⟨rfl, Nat.le_refl _, by simp [maxLen], .inl rfl⟩

set_option maxHeartbeats 4000000 in
theorem text_lay (w : World) (x : En) (k : Kp) (nb : Nat) (hnb : nb ≤ 32) (hd : MayD nb (.lay x)) (hk : MayK k) :
    Calls Tryz.prog 102 #[recV (.lay x) k] w fun e w' => e = .returned (.string (txQ (.lay x) k)) ∧ Below w.heap.size w w' := by
  have HM := Lib.hid (recQ_may (d := .lay x) hd hnb hk)
  obtain ⟨b, ep, sq, data, dirty, cl, n⟩ := x
  obtain ⟨kp, kq, t0, t1, t2, t3⟩ := k
  unfold recV Deed.val En.val
  simp only
  have ta := as_ll (.agg #[.int .i64 b, .int .i64 ep, .int .i64 sq, .string data, .bool dirty, .int .i64 cl, .int .i64 n])
  clear hd hk
  have hW : ∃ X : World, X = ((((((w.alloc (.cells #[.iface 117 (.agg #[.int .i64 b, .int .i64 ep, .int .i64 sq, .string data, .bool dirty, .int .i64 cl, .int .i64 n]), .int .i64 kp, .int .i64 kq, .int .i64 t0, .int .i64 t1, .int .i64 t2, .int .i64 t3] 98)).alloc (.cells #[.int .i64 10, .slice (some ⟨w.heap.size + 1 + 1 + 1, 0, none⟩) 6 6, .slice (some ⟨w.heap.size + 1 + 1 + 1 + 1, 0, none⟩) 1 1] 141)).alloc (.cells #[.int .i64 b, .int .i64 ep, .int .i64 sq, .string data, .bool dirty, .int .i64 cl, .int .i64 n] 117)).alloc (.cells #[.int .i64 b, .int .i64 ep, .int .i64 sq, .int .i64 (fl dirty), .int .i64 cl, .int .i64 n] 2)).alloc (.cells #[.string data] 9)).alloc (.cells #[.int .i64 kp, .int .i64 kq] 2)).drew := ⟨_, rfl⟩
  obtain ⟨X, hX⟩ := hW
  have HF : Hid (TextAt X (w.heap.size) (w.heap.size + 1) ⟨kp, kq, t0, t1, t2, t3⟩ 10 (some ⟨w.heap.size + 1 + 1 + 1, 0, none⟩) 6 6 [b, ep, sq, fl dirty, cl, n] (.slice (some ⟨w.heap.size + 1 + 1 + 1 + 1, 0, none⟩) 1 1) (some (w.heap.size + 1 + 1 + 1 + 1, data))) := Lib.hid (by
    rw [hX]
    refine ⟨?_, ?_, ?_, ?_, ?_, ?_, ?_, ?_, ?_, fun o => ?_, by omega, fun T d hT => ?_⟩
    iterate 9 go_simp
    · go_simp
    · simp at hT; obtain ⟨rfl, rfl⟩ := hT; go_simp)
  have HO : Hid (C.Own 2 X 0 (some ⟨w.heap.size + 1 + 1 + 1, 0, none⟩) 6 6 (C.i64s [b, ep, sq, fl dirty, cl, n])) := Lib.hid (by rw [hX]; exact (own_at (heap_up (heap_up (heap_at _ (by simp) _) _) _) (by simp [C.i64s])))
  have HP : Hid (C.Row X (some ⟨w.heap.size + 1 + 1 + 1 + 1 + 1, 0, none⟩) 2 2 (C.i64s [kp, kq])) := Lib.hid (by rw [hX]; exact (C.own_row (own_at (vs := C.i64s [kp, kq]) (heap_at _ (by simp) _) (by simp [C.i64s]))).1)
  have HB : Hid (Below w.heap.size w X) := Lib.hid (by
    rw [hX]
    exact (((((((Below.refl _ w).alloc (by simp <;> omega) _).alloc (by simp <;> omega) _).alloc (by simp <;> omega) _).alloc (by simp <;> omega) _).alloc (by simp <;> omega) _).alloc (by simp <;> omega) _).drew)
  have HS : Hid (X.heap.size = w.heap.size + 1 + 1 + 1 + 1 + 1 + 1) := Lib.hid (by rw [hX]; simp)
  go_enter Tryz.func102, Tryz.ntmps102
  go_wp2_with fail
  go_region_held3 (fun w' => w'.cell? ⟨w.heap.size + 1 + 1, 0, none⟩ = some (.int .i64 b) ∧ w'.cell? ⟨w.heap.size + 1 + 1, 1, none⟩ = some (.int .i64 ep) ∧ w'.cell? ⟨w.heap.size + 1 + 1, 2, none⟩ = some (.int .i64 sq) ∧ w'.cell? ⟨w.heap.size + 1 + 1, 4, none⟩ = some (.bool dirty) ∧ w'.cell? ⟨w.heap.size + 1 + 1, 5, none⟩ = some (.int .i64 cl) ∧ w'.cell? ⟨w.heap.size + 1 + 1, 6, none⟩ = some (.int .i64 n))
    (first | (refine ⟨?_, ?_, ?_, ?_, ?_, ?_⟩ <;> go_simp))
    (first
      | (go_at_call 93; with_reducible refine (flag_q _ _).mono ?_; rintro e w' ⟨rfl, rfl⟩))
  go_wp2_with (at_builtin
               rw [← hX]
               refine append_i64 _ rfl (.tmp 60) (.tmp 69) rfl (some ⟨w.heap.size + 1 + 1 + 1, 0, none⟩) 6 6 [b, ep, sq, fl dirty, cl, n] rfl HO.out _ 2 2 [kp, kq] rfl HP.out (by decide) ?_
               intro a2 cap2 w2 hown2 hg2 ho2
               have hb2 : But [w.heap.size + 1 + 1 + 1] X w2 := (But.refl _ X).grown hg2 (fun q hq => by simp [Value.ownBlock] at hq; simp [← hq])
               have HF2 := Lib.hid (HF.out.but hb2 (by simp <;> omega) (by simp <;> omega) (by intro T d hT; simp at hT; obtain ⟨rfl, rfl⟩ := hT; simp))
               have HO2 := Lib.hid hown2
               have HB2 : Hid (Below w.heap.size w w2) := Lib.hid (HB.out.trans (hb2.to_below (by simp <;> omega) HB.out.size))
               have HA2 : Hid (∀ q, (Value.slice a2 (6 + 2) cap2).ownBlock = some q → q = w.heap.size + 1 + 1 + 1 ∨ w.heap.size + 1 + 1 + 1 + 1 + 1 + 1 ≤ q) := Lib.hid (fun q hq => by
                 rcases ho2 with h | h
                 · rw [hq] at h
                   left; simp [Value.ownBlock] at h; omega
                 · rw [hq, HS.out] at h
                   injection h with h
                   right; omega)
               have HS2 : Hid (w.heap.size + 1 + 1 + 1 + 1 + 1 + 1 ≤ w2.heap.size) := Lib.hid (by rw [← HS.out]; exact hb2.size)
               have r1 := HF2.out.r1
               have fz := HF2.out.fz
               clear hown2 hg2 ho2 hb2)
  have HF3 := Lib.hid (HF2.out.set (by intro T d hT; simp at hT; obtain ⟨rfl, rfl⟩ := hT; omega) a2 (6 + 2) cap2 ([b, ep, sq, fl dirty, cl, n] ++ [kp, kq]))
  have HO3 : Hid (C.Own 2 (w2.setCell ⟨w.heap.size + 1, 1, none⟩ (.slice a2 (6 + 2) cap2)) 0 a2 (6 + 2) cap2 (C.i64s ([b, ep, sq, fl dirty, cl, n] ++ [kp, kq]))) := Lib.hid (own_but HO2.out ((But.refl [w.heap.size + 1] _).set _ (.inl (by simp))) (fun q hq => by have := HA2.out q hq; simp <;> omega))
  have HB3 : Hid (Below w.heap.size w (w2.setCell ⟨w.heap.size + 1, 1, none⟩ (.slice a2 (6 + 2) cap2))) := Lib.hid (HB2.out.setCell (by simp <;> omega) _)
  have HS3 : Hid (w.heap.size + 1 + 1 + 1 + 1 + 1 + 1 ≤ (w2.setCell ⟨w.heap.size + 1, 1, none⟩ (.slice a2 (6 + 2) cap2)).heap.size) := Lib.hid (by have := HS2.out; simpa using this)
  generalize w2.setCell ⟨w.heap.size + 1, 1, none⟩ (.slice a2 (6 + 2) cap2) = w3 at *
  clear r1 fz HF2 HO2 HB2 HF HO HP HB hX
  have r1 := HF3.out.r1
  have fz := HF3.out.fz
  have HR3 : Hid (C.Row w3.drew (some ⟨w.heap.size, 3, none⟩) 4 4 (C.i64s [t0, t1, t2, t3])) := Lib.hid (rowK (k := ⟨kp, kq, t0, t1, t2, t3⟩) HF3.out.b3 HF3.out.b4 HF3.out.b5 HF3.out.b6)
  go_region_law (refine step_i64 _ rfl (.tmp 73) (.tmp 76) rfl a2 (6 + 2) cap2 ([b, ep, sq, fl dirty, cl, n] ++ [kp, kq]) rfl HO3.out (some ⟨w.heap.size, 3, none⟩) 4 4 [t0, t1, t2, t3] rfl HR3.out (by decide) ?_
                 intro a4 cap4 w4 hown4 hg4 ho4
                 have hb4 : ∃ q, But q w3 w4 ∧ ∀ x ∈ q, x = w.heap.size + 1 + 1 + 1 ∨ w.heap.size + 1 + 1 + 1 + 1 + 1 + 1 ≤ x := by
                   cases hq : (Value.slice a2 (6 + 2) cap2).ownBlock with
                   | none => exact ⟨[], ((But.refl [] w3).drew).grown hg4 (fun x hx => by rw [hq] at hx; cases hx), by simp⟩
                   | some q => exact ⟨[q], ((But.refl [q] w3).drew).grown hg4 (fun x hx => by rw [hq] at hx; injection hx with hx; subst hx; exact .inl (by simp)), fun x hx => by simp at hx; subst hx; exact HA2.out x hq⟩
                 obtain ⟨qq, hb4, hqq⟩ := hb4
                 have HF4 := Lib.hid (HF3.out.but hb4 (fun z => by have := hqq _ z; omega) (fun z => by have := hqq _ z; omega) (fun T d hT z => by simp at hT; obtain ⟨rfl, rfl⟩ := hT; have := hqq _ z; omega))
                 have HO4 := Lib.hid hown4
                 have HA4 : Hid (∀ q, (Value.slice a4 (6 + 2 + 4) cap4).ownBlock = some q → q = w.heap.size + 1 + 1 + 1 ∨ w.heap.size + 1 + 1 + 1 + 1 + 1 + 1 ≤ q) := Lib.hid (fun q hq => by
                   rcases ho4 with h | h
                   · exact HA2.out q (by rw [← h]; exact hq)
                   · rw [hq] at h
                     injection h with h
                     have h6 := HS3.out
                     have h7 : w3.drew.heap.size = w3.heap.size := rfl
                     omega)
                 have HB4 : Hid (Below w.heap.size w w4) := Lib.hid (HB3.out.trans (hb4.to_below (fun x hx => by have := hqq x hx; omega) HB3.out.size))
                 have r1b := HF4.out.r1
                 have fzb := HF4.out.fz
                 clear hown4 hg4 hb4 hqq ho4)
  have HF5 := Lib.hid (HF4.out.set (by intro T d hT; simp at hT; obtain ⟨rfl, rfl⟩ := hT; omega) a4 (6 + 2 + 4) cap4 ([b, ep, sq, fl dirty, cl, n] ++ [kp, kq] ++ [t0, t1, t2, t3]))
  have HO5 : Hid (C.Own 2 (w4.setCell ⟨w.heap.size + 1, 1, none⟩ (.slice a4 (6 + 2 + 4) cap4)) 0 a4 (6 + 2 + 4) cap4 (C.i64s ([b, ep, sq, fl dirty, cl, n] ++ [kp, kq] ++ [t0, t1, t2, t3]))) := Lib.hid (own_but HO4.out ((But.refl [w.heap.size + 1] _).set _ (.inl (by simp))) (fun q hq => by have := HA4.out q hq; simp <;> omega))
  have HB5 : Hid (Below w.heap.size w (w4.setCell ⟨w.heap.size + 1, 1, none⟩ (.slice a4 (6 + 2 + 4) cap4))) := Lib.hid (HB4.out.setCell (by simp <;> omega) _)
  generalize w4.setCell ⟨w.heap.size + 1, 1, none⟩ (.slice a4 (6 + 2 + 4) cap4) = w5 at *
  clear r1 fz r1b fzb HF4 HO4 HB4 HF3 HO3 HB3 HR3
  have r0 := HF5.out.r0
  have r1 := HF5.out.r1
  have r2 := HF5.out.r2
  have HE : Hid (Calls Tryz.prog 109 #[.agg #[.int .i64 10, .slice a4 (6 + 2 + 4) cap4, .slice (some ⟨w.heap.size + 1 + 1 + 1 + 1, 0, none⟩) 1 1]] w5 fun e w' => ∃ aE capE nE lE, e = .returned (.tuple #[.slice aE nE capE, .int .i64 0]) ∧ lE = C.M.enc (recQ (.lay ⟨b, ep, sq, data, dirty, cl, n⟩) ⟨kp, kq, t0, t1, t2, t3⟩) ∧ Row w' aE nE capE (u8s lE) ∧ Below w5.heap.size w5 w') := Lib.hid (by
    refine (C.encode_yes w5 (recQ (.lay ⟨b, ep, sq, data, dirty, cl, n⟩) ⟨kp, kq, t0, t1, t2, t3⟩) a4 (6 + 2 + 4) cap4 (some ⟨w.heap.size + 1 + 1 + 1 + 1, 0, none⟩) 1 1 (rec_at (P := 0) (R := 0) (k := kp0) (kd := 0) HO5.out rfl (row_one_str (HF5.out.tc _ _ rfl))) HM.out.1 HM.out.2).mono ?_
    rintro e w' ⟨a, cap, rfl, ho, hb⟩
    exact ⟨a, cap, _, _, rfl, rfl, (C.own_row ho).1, hb⟩)
  go_wp2_with (go_at_call 109; refine HE.out.mono ?_; rintro e w6 ⟨a6, cap6, n6, l6, rfl, hl6, ho6, hb6⟩
               have HB6 : Hid (Below w.heap.size w w6) := Lib.hid (HB5.out.trans (hb6.mono HB5.out.size))
               have HL6 := Lib.hid hl6
               have kc := conv_row ho6
               clear ho6 hb6 hl6)
  go_ret
  refine ⟨?_, HB6.out⟩
  rw [show txQ (.lay ⟨b, ep, sq, data, dirty, cl, n⟩) ⟨kp, kq, t0, t1, t2, t3⟩ = str l6 by rw [HL6.out]; rfl]
  rfl

set_option maxHeartbeats 4000000 in
theorem text_clean (w : World) (b ep sq : Int) (k : Kp) (nb : Nat) (hnb : nb ≤ 32) (hd : MayD nb (.clean b ep sq)) (hk : MayK k) :
    Calls Tryz.prog 102 #[recV (.clean b ep sq) k] w fun e w' => e = .returned (.string (txQ (.clean b ep sq) k)) ∧ Below w.heap.size w w' := by
  have HM := Lib.hid (recQ_may (d := .clean b ep sq) hd hnb hk)
  obtain ⟨kp, kq, t0, t1, t2, t3⟩ := k
  unfold recV Deed.val
  simp only
  have ta := as_cl (.agg #[.int .i64 b, .int .i64 ep, .int .i64 sq])
  have tb := as_cc (.agg #[.int .i64 b, .int .i64 ep, .int .i64 sq])
  clear hd hk
  have hW : ∃ X : World, X = (((((w.alloc (.cells #[.iface 120 (.agg #[.int .i64 b, .int .i64 ep, .int .i64 sq]), .int .i64 kp, .int .i64 kq, .int .i64 t0, .int .i64 t1, .int .i64 t2, .int .i64 t3] 98)).alloc (.cells #[.int .i64 11, .slice (some ⟨w.heap.size + 1 + 1 + 1, 0, none⟩) 3 3, .slice none 0 0] 141)).alloc (.cells #[.int .i64 b, .int .i64 ep, .int .i64 sq] 120)).alloc (.cells #[.int .i64 b, .int .i64 ep, .int .i64 sq] 2)).alloc (.cells #[.int .i64 kp, .int .i64 kq] 2)) := ⟨_, rfl⟩
  obtain ⟨X, hX⟩ := hW
  have HF : Hid (TextAt X (w.heap.size) (w.heap.size + 1) ⟨kp, kq, t0, t1, t2, t3⟩ 11 (some ⟨w.heap.size + 1 + 1 + 1, 0, none⟩) 3 3 [b, ep, sq] (.slice none 0 0) (none)) := Lib.hid (by
    rw [hX]
    refine ⟨?_, ?_, ?_, ?_, ?_, ?_, ?_, ?_, ?_, fun o => ?_, by omega, fun T d hT => ?_⟩
    iterate 9 go_simp
    · go_simp
    · cases hT)
  have HO : Hid (C.Own 2 X 0 (some ⟨w.heap.size + 1 + 1 + 1, 0, none⟩) 3 3 (C.i64s [b, ep, sq])) := Lib.hid (by rw [hX]; exact (own_at (heap_up (heap_at _ (by simp) _) _) (by simp [C.i64s])))
  have HP : Hid (C.Row X (some ⟨w.heap.size + 1 + 1 + 1 + 1, 0, none⟩) 2 2 (C.i64s [kp, kq])) := Lib.hid (by rw [hX]; exact (C.own_row (own_at (vs := C.i64s [kp, kq]) (heap_at _ (by simp) _) (by simp [C.i64s]))).1)
  have HB : Hid (Below w.heap.size w X) := Lib.hid (by
    rw [hX]
    exact ((((((Below.refl _ w).alloc (by simp <;> omega) _).alloc (by simp <;> omega) _).alloc (by simp <;> omega) _).alloc (by simp <;> omega) _).alloc (by simp <;> omega) _))
  have HS : Hid (X.heap.size = w.heap.size + 1 + 1 + 1 + 1 + 1) := Lib.hid (by rw [hX]; simp)
  go_enter Tryz.func102, Tryz.ntmps102
  go_wp2_with (at_builtin
               rw [← hX]
               refine append_i64 _ rfl (.tmp 60) (.tmp 69) rfl (some ⟨w.heap.size + 1 + 1 + 1, 0, none⟩) 3 3 [b, ep, sq] rfl HO.out _ 2 2 [kp, kq] rfl HP.out (by decide) ?_
               intro a2 cap2 w2 hown2 hg2 ho2
               have hb2 : But [w.heap.size + 1 + 1 + 1] X w2 := (But.refl _ X).grown hg2 (fun q hq => by simp [Value.ownBlock] at hq; simp [← hq])
               have HF2 := Lib.hid (HF.out.but hb2 (by simp <;> omega) (by simp <;> omega) (by intro T d hT; cases hT))
               have HO2 := Lib.hid hown2
               have HB2 : Hid (Below w.heap.size w w2) := Lib.hid (HB.out.trans (hb2.to_below (by simp <;> omega) HB.out.size))
               have HA2 : Hid (∀ q, (Value.slice a2 (3 + 2) cap2).ownBlock = some q → q = w.heap.size + 1 + 1 + 1 ∨ w.heap.size + 1 + 1 + 1 + 1 + 1 ≤ q) := Lib.hid (fun q hq => by
                 rcases ho2 with h | h
                 · rw [hq] at h
                   left; simp [Value.ownBlock] at h; omega
                 · rw [hq, HS.out] at h
                   injection h with h
                   right; omega)
               have HS2 : Hid (w.heap.size + 1 + 1 + 1 + 1 + 1 ≤ w2.heap.size) := Lib.hid (by rw [← HS.out]; exact hb2.size)
               have r1 := HF2.out.r1
               have fz := HF2.out.fz
               clear hown2 hg2 ho2 hb2)
  have HF3 := Lib.hid (HF2.out.set (by intro T d hT; cases hT) a2 (3 + 2) cap2 ([b, ep, sq] ++ [kp, kq]))
  have HO3 : Hid (C.Own 2 (w2.setCell ⟨w.heap.size + 1, 1, none⟩ (.slice a2 (3 + 2) cap2)) 0 a2 (3 + 2) cap2 (C.i64s ([b, ep, sq] ++ [kp, kq]))) := Lib.hid (own_but HO2.out ((But.refl [w.heap.size + 1] _).set _ (.inl (by simp))) (fun q hq => by have := HA2.out q hq; simp <;> omega))
  have HB3 : Hid (Below w.heap.size w (w2.setCell ⟨w.heap.size + 1, 1, none⟩ (.slice a2 (3 + 2) cap2))) := Lib.hid (HB2.out.setCell (by simp <;> omega) _)
  have HS3 : Hid (w.heap.size + 1 + 1 + 1 + 1 + 1 ≤ (w2.setCell ⟨w.heap.size + 1, 1, none⟩ (.slice a2 (3 + 2) cap2)).heap.size) := Lib.hid (by have := HS2.out; simpa using this)
  generalize w2.setCell ⟨w.heap.size + 1, 1, none⟩ (.slice a2 (3 + 2) cap2) = w3 at *
  clear r1 fz HF2 HO2 HB2 HF HO HP HB hX
  have r1 := HF3.out.r1
  have fz := HF3.out.fz
  have HR3 : Hid (C.Row w3.drew (some ⟨w.heap.size, 3, none⟩) 4 4 (C.i64s [t0, t1, t2, t3])) := Lib.hid (rowK (k := ⟨kp, kq, t0, t1, t2, t3⟩) HF3.out.b3 HF3.out.b4 HF3.out.b5 HF3.out.b6)
  go_region_law (refine step_i64 _ rfl (.tmp 73) (.tmp 76) rfl a2 (3 + 2) cap2 ([b, ep, sq] ++ [kp, kq]) rfl HO3.out (some ⟨w.heap.size, 3, none⟩) 4 4 [t0, t1, t2, t3] rfl HR3.out (by decide) ?_
                 intro a4 cap4 w4 hown4 hg4 ho4
                 have hb4 : ∃ q, But q w3 w4 ∧ ∀ x ∈ q, x = w.heap.size + 1 + 1 + 1 ∨ w.heap.size + 1 + 1 + 1 + 1 + 1 ≤ x := by
                   cases hq : (Value.slice a2 (3 + 2) cap2).ownBlock with
                   | none => exact ⟨[], ((But.refl [] w3).drew).grown hg4 (fun x hx => by rw [hq] at hx; cases hx), by simp⟩
                   | some q => exact ⟨[q], ((But.refl [q] w3).drew).grown hg4 (fun x hx => by rw [hq] at hx; injection hx with hx; subst hx; exact .inl (by simp)), fun x hx => by simp at hx; subst hx; exact HA2.out x hq⟩
                 obtain ⟨qq, hb4, hqq⟩ := hb4
                 have HF4 := Lib.hid (HF3.out.but hb4 (fun z => by have := hqq _ z; omega) (fun z => by have := hqq _ z; omega) (fun T d hT => by cases hT))
                 have HO4 := Lib.hid hown4
                 have HA4 : Hid (∀ q, (Value.slice a4 (3 + 2 + 4) cap4).ownBlock = some q → q = w.heap.size + 1 + 1 + 1 ∨ w.heap.size + 1 + 1 + 1 + 1 + 1 ≤ q) := Lib.hid (fun q hq => by
                   rcases ho4 with h | h
                   · exact HA2.out q (by rw [← h]; exact hq)
                   · rw [hq] at h
                     injection h with h
                     have h6 := HS3.out
                     have h7 : w3.drew.heap.size = w3.heap.size := rfl
                     omega)
                 have HB4 : Hid (Below w.heap.size w w4) := Lib.hid (HB3.out.trans (hb4.to_below (fun x hx => by have := hqq x hx; omega) HB3.out.size))
                 have r1b := HF4.out.r1
                 have fzb := HF4.out.fz
                 clear hown4 hg4 hb4 hqq ho4)
  have HF5 := Lib.hid (HF4.out.set (by intro T d hT; cases hT) a4 (3 + 2 + 4) cap4 ([b, ep, sq] ++ [kp, kq] ++ [t0, t1, t2, t3]))
  have HO5 : Hid (C.Own 2 (w4.setCell ⟨w.heap.size + 1, 1, none⟩ (.slice a4 (3 + 2 + 4) cap4)) 0 a4 (3 + 2 + 4) cap4 (C.i64s ([b, ep, sq] ++ [kp, kq] ++ [t0, t1, t2, t3]))) := Lib.hid (own_but HO4.out ((But.refl [w.heap.size + 1] _).set _ (.inl (by simp))) (fun q hq => by have := HA4.out q hq; simp <;> omega))
  have HB5 : Hid (Below w.heap.size w (w4.setCell ⟨w.heap.size + 1, 1, none⟩ (.slice a4 (3 + 2 + 4) cap4))) := Lib.hid (HB4.out.setCell (by simp <;> omega) _)
  generalize w4.setCell ⟨w.heap.size + 1, 1, none⟩ (.slice a4 (3 + 2 + 4) cap4) = w5 at *
  clear r1 fz r1b fzb HF4 HO4 HB4 HF3 HO3 HB3 HR3
  have r0 := HF5.out.r0
  have r1 := HF5.out.r1
  have r2 := HF5.out.r2
  have HE : Hid (Calls Tryz.prog 109 #[.agg #[.int .i64 11, .slice a4 (3 + 2 + 4) cap4, .slice none 0 0]] w5 fun e w' => ∃ aE capE nE lE, e = .returned (.tuple #[.slice aE nE capE, .int .i64 0]) ∧ lE = C.M.enc (recQ (.clean b ep sq) ⟨kp, kq, t0, t1, t2, t3⟩) ∧ Row w' aE nE capE (u8s lE) ∧ Below w5.heap.size w5 w') := Lib.hid (by
    refine (C.encode_yes w5 (recQ (.clean b ep sq) ⟨kp, kq, t0, t1, t2, t3⟩) a4 (3 + 2 + 4) cap4 none 0 0 (rec_at (P := 0) (R := 0) (k := kp0) (kd := 0) HO5.out rfl (row_no_str _)) HM.out.1 HM.out.2).mono ?_
    rintro e w' ⟨a, cap, rfl, ho, hb⟩
    exact ⟨a, cap, _, _, rfl, rfl, (C.own_row ho).1, hb⟩)
  go_wp2_with (go_at_call 109; refine HE.out.mono ?_; rintro e w6 ⟨a6, cap6, n6, l6, rfl, hl6, ho6, hb6⟩
               have HB6 : Hid (Below w.heap.size w w6) := Lib.hid (HB5.out.trans (hb6.mono HB5.out.size))
               have HL6 := Lib.hid hl6
               have kc := conv_row ho6
               clear ho6 hb6 hl6)
  go_ret
  refine ⟨?_, HB6.out⟩
  rw [show txQ (.clean b ep sq) ⟨kp, kq, t0, t1, t2, t3⟩ = str l6 by rw [HL6.out]; rfl]
  rfl

set_option maxHeartbeats 4000000 in
theorem text_drop (w : World) (b : Int) (k : Kp) (nb : Nat) (hnb : nb ≤ 32) (hd : MayD nb (.drop b)) (hk : MayK k) :
    Calls Tryz.prog 102 #[recV (.drop b) k] w fun e w' => e = .returned (.string (txQ (.drop b) k)) ∧ Below w.heap.size w w' := by
  have HM := Lib.hid (recQ_may (d := .drop b) hd hnb hk)
  obtain ⟨kp, kq, t0, t1, t2, t3⟩ := k
  unfold recV Deed.val
  simp only
  have ta := as_dl (.agg #[.int .i64 b])
  have tb := as_dc (.agg #[.int .i64 b])
  have tc := as_dd (.agg #[.int .i64 b])
  clear hd hk
  have hW : ∃ X : World, X = (((((w.alloc (.cells #[.iface 115 (.agg #[.int .i64 b]), .int .i64 kp, .int .i64 kq, .int .i64 t0, .int .i64 t1, .int .i64 t2, .int .i64 t3] 98)).alloc (.cells #[.int .i64 12, .slice (some ⟨w.heap.size + 1 + 1 + 1, 0, none⟩) 1 1, .slice none 0 0] 141)).alloc (.cells #[.int .i64 b] 115)).alloc (.cells #[.int .i64 b] 2)).alloc (.cells #[.int .i64 kp, .int .i64 kq] 2)) := ⟨_, rfl⟩
  obtain ⟨X, hX⟩ := hW
  have HF : Hid (TextAt X (w.heap.size) (w.heap.size + 1) ⟨kp, kq, t0, t1, t2, t3⟩ 12 (some ⟨w.heap.size + 1 + 1 + 1, 0, none⟩) 1 1 [b] (.slice none 0 0) (none)) := Lib.hid (by
    rw [hX]
    refine ⟨?_, ?_, ?_, ?_, ?_, ?_, ?_, ?_, ?_, fun o => ?_, by omega, fun T d hT => ?_⟩
    iterate 9 go_simp
    · go_simp
    · cases hT)
  have HO : Hid (C.Own 2 X 0 (some ⟨w.heap.size + 1 + 1 + 1, 0, none⟩) 1 1 (C.i64s [b])) := Lib.hid (by rw [hX]; exact (own_at (heap_up (heap_at _ (by simp) _) _) (by simp [C.i64s])))
  have HP : Hid (C.Row X (some ⟨w.heap.size + 1 + 1 + 1 + 1, 0, none⟩) 2 2 (C.i64s [kp, kq])) := Lib.hid (by rw [hX]; exact (C.own_row (own_at (vs := C.i64s [kp, kq]) (heap_at _ (by simp) _) (by simp [C.i64s]))).1)
  have HB : Hid (Below w.heap.size w X) := Lib.hid (by
    rw [hX]
    exact ((((((Below.refl _ w).alloc (by simp <;> omega) _).alloc (by simp <;> omega) _).alloc (by simp <;> omega) _).alloc (by simp <;> omega) _).alloc (by simp <;> omega) _))
  have HS : Hid (X.heap.size = w.heap.size + 1 + 1 + 1 + 1 + 1) := Lib.hid (by rw [hX]; simp)
  go_enter Tryz.func102, Tryz.ntmps102
  go_wp2_with (at_builtin
               rw [← hX]
               refine append_i64 _ rfl (.tmp 60) (.tmp 69) rfl (some ⟨w.heap.size + 1 + 1 + 1, 0, none⟩) 1 1 [b] rfl HO.out _ 2 2 [kp, kq] rfl HP.out (by decide) ?_
               intro a2 cap2 w2 hown2 hg2 ho2
               have hb2 : But [w.heap.size + 1 + 1 + 1] X w2 := (But.refl _ X).grown hg2 (fun q hq => by simp [Value.ownBlock] at hq; simp [← hq])
               have HF2 := Lib.hid (HF.out.but hb2 (by simp <;> omega) (by simp <;> omega) (by intro T d hT; cases hT))
               have HO2 := Lib.hid hown2
               have HB2 : Hid (Below w.heap.size w w2) := Lib.hid (HB.out.trans (hb2.to_below (by simp <;> omega) HB.out.size))
               have HA2 : Hid (∀ q, (Value.slice a2 (1 + 2) cap2).ownBlock = some q → q = w.heap.size + 1 + 1 + 1 ∨ w.heap.size + 1 + 1 + 1 + 1 + 1 ≤ q) := Lib.hid (fun q hq => by
                 rcases ho2 with h | h
                 · rw [hq] at h
                   left; simp [Value.ownBlock] at h; omega
                 · rw [hq, HS.out] at h
                   injection h with h
                   right; omega)
               have HS2 : Hid (w.heap.size + 1 + 1 + 1 + 1 + 1 ≤ w2.heap.size) := Lib.hid (by rw [← HS.out]; exact hb2.size)
               have r1 := HF2.out.r1
               have fz := HF2.out.fz
               clear hown2 hg2 ho2 hb2)
  have HF3 := Lib.hid (HF2.out.set (by intro T d hT; cases hT) a2 (1 + 2) cap2 ([b] ++ [kp, kq]))
  have HO3 : Hid (C.Own 2 (w2.setCell ⟨w.heap.size + 1, 1, none⟩ (.slice a2 (1 + 2) cap2)) 0 a2 (1 + 2) cap2 (C.i64s ([b] ++ [kp, kq]))) := Lib.hid (own_but HO2.out ((But.refl [w.heap.size + 1] _).set _ (.inl (by simp))) (fun q hq => by have := HA2.out q hq; simp <;> omega))
  have HB3 : Hid (Below w.heap.size w (w2.setCell ⟨w.heap.size + 1, 1, none⟩ (.slice a2 (1 + 2) cap2))) := Lib.hid (HB2.out.setCell (by simp <;> omega) _)
  have HS3 : Hid (w.heap.size + 1 + 1 + 1 + 1 + 1 ≤ (w2.setCell ⟨w.heap.size + 1, 1, none⟩ (.slice a2 (1 + 2) cap2)).heap.size) := Lib.hid (by have := HS2.out; simpa using this)
  generalize w2.setCell ⟨w.heap.size + 1, 1, none⟩ (.slice a2 (1 + 2) cap2) = w3 at *
  clear r1 fz HF2 HO2 HB2 HF HO HP HB hX
  have r1 := HF3.out.r1
  have fz := HF3.out.fz
  have HR3 : Hid (C.Row w3.drew (some ⟨w.heap.size, 3, none⟩) 4 4 (C.i64s [t0, t1, t2, t3])) := Lib.hid (rowK (k := ⟨kp, kq, t0, t1, t2, t3⟩) HF3.out.b3 HF3.out.b4 HF3.out.b5 HF3.out.b6)
  go_region_law (refine step_i64 _ rfl (.tmp 73) (.tmp 76) rfl a2 (1 + 2) cap2 ([b] ++ [kp, kq]) rfl HO3.out (some ⟨w.heap.size, 3, none⟩) 4 4 [t0, t1, t2, t3] rfl HR3.out (by decide) ?_
                 intro a4 cap4 w4 hown4 hg4 ho4
                 have hb4 : ∃ q, But q w3 w4 ∧ ∀ x ∈ q, x = w.heap.size + 1 + 1 + 1 ∨ w.heap.size + 1 + 1 + 1 + 1 + 1 ≤ x := by
                   cases hq : (Value.slice a2 (1 + 2) cap2).ownBlock with
                   | none => exact ⟨[], ((But.refl [] w3).drew).grown hg4 (fun x hx => by rw [hq] at hx; cases hx), by simp⟩
                   | some q => exact ⟨[q], ((But.refl [q] w3).drew).grown hg4 (fun x hx => by rw [hq] at hx; injection hx with hx; subst hx; exact .inl (by simp)), fun x hx => by simp at hx; subst hx; exact HA2.out x hq⟩
                 obtain ⟨qq, hb4, hqq⟩ := hb4
                 have HF4 := Lib.hid (HF3.out.but hb4 (fun z => by have := hqq _ z; omega) (fun z => by have := hqq _ z; omega) (fun T d hT => by cases hT))
                 have HO4 := Lib.hid hown4
                 have HA4 : Hid (∀ q, (Value.slice a4 (1 + 2 + 4) cap4).ownBlock = some q → q = w.heap.size + 1 + 1 + 1 ∨ w.heap.size + 1 + 1 + 1 + 1 + 1 ≤ q) := Lib.hid (fun q hq => by
                   rcases ho4 with h | h
                   · exact HA2.out q (by rw [← h]; exact hq)
                   · rw [hq] at h
                     injection h with h
                     have h6 := HS3.out
                     have h7 : w3.drew.heap.size = w3.heap.size := rfl
                     omega)
                 have HB4 : Hid (Below w.heap.size w w4) := Lib.hid (HB3.out.trans (hb4.to_below (fun x hx => by have := hqq x hx; omega) HB3.out.size))
                 have r1b := HF4.out.r1
                 have fzb := HF4.out.fz
                 clear hown4 hg4 hb4 hqq ho4)
  have HF5 := Lib.hid (HF4.out.set (by intro T d hT; cases hT) a4 (1 + 2 + 4) cap4 ([b] ++ [kp, kq] ++ [t0, t1, t2, t3]))
  have HO5 : Hid (C.Own 2 (w4.setCell ⟨w.heap.size + 1, 1, none⟩ (.slice a4 (1 + 2 + 4) cap4)) 0 a4 (1 + 2 + 4) cap4 (C.i64s ([b] ++ [kp, kq] ++ [t0, t1, t2, t3]))) := Lib.hid (own_but HO4.out ((But.refl [w.heap.size + 1] _).set _ (.inl (by simp))) (fun q hq => by have := HA4.out q hq; simp <;> omega))
  have HB5 : Hid (Below w.heap.size w (w4.setCell ⟨w.heap.size + 1, 1, none⟩ (.slice a4 (1 + 2 + 4) cap4))) := Lib.hid (HB4.out.setCell (by simp <;> omega) _)
  generalize w4.setCell ⟨w.heap.size + 1, 1, none⟩ (.slice a4 (1 + 2 + 4) cap4) = w5 at *
  clear r1 fz r1b fzb HF4 HO4 HB4 HF3 HO3 HB3 HR3
  have r0 := HF5.out.r0
  have r1 := HF5.out.r1
  have r2 := HF5.out.r2
  have HE : Hid (Calls Tryz.prog 109 #[.agg #[.int .i64 12, .slice a4 (1 + 2 + 4) cap4, .slice none 0 0]] w5 fun e w' => ∃ aE capE nE lE, e = .returned (.tuple #[.slice aE nE capE, .int .i64 0]) ∧ lE = C.M.enc (recQ (.drop b) ⟨kp, kq, t0, t1, t2, t3⟩) ∧ Row w' aE nE capE (u8s lE) ∧ Below w5.heap.size w5 w') := Lib.hid (by
    refine (C.encode_yes w5 (recQ (.drop b) ⟨kp, kq, t0, t1, t2, t3⟩) a4 (1 + 2 + 4) cap4 none 0 0 (rec_at (P := 0) (R := 0) (k := kp0) (kd := 0) HO5.out rfl (row_no_str _)) HM.out.1 HM.out.2).mono ?_
    rintro e w' ⟨a, cap, rfl, ho, hb⟩
    exact ⟨a, cap, _, _, rfl, rfl, (C.own_row ho).1, hb⟩)
  go_wp2_with (go_at_call 109; refine HE.out.mono ?_; rintro e w6 ⟨a6, cap6, n6, l6, rfl, hl6, ho6, hb6⟩
               have HB6 : Hid (Below w.heap.size w w6) := Lib.hid (HB5.out.trans (hb6.mono HB5.out.size))
               have HL6 := Lib.hid hl6
               have kc := conv_row ho6
               clear ho6 hb6 hl6)
  go_ret
  refine ⟨?_, HB6.out⟩
  rw [show txQ (.drop b) ⟨kp, kq, t0, t1, t2, t3⟩ = str l6 by rw [HL6.out]; rfl]
  rfl

set_option maxHeartbeats 4000000 in
theorem text_note (w : World)  (k : Kp) (nb : Nat) (hnb : nb ≤ 32) (hd : MayD nb (.note)) (hk : MayK k) :
    Calls Tryz.prog 102 #[recV (.note) k] w fun e w' => e = .returned (.string (txQ (.note) k)) ∧ Below w.heap.size w w' := by
  have HM := Lib.hid (recQ_may (d := .note) hd hnb hk)
  obtain ⟨kp, kq, t0, t1, t2, t3⟩ := k
  unfold recV Deed.val
  simp only
  have ta := as_nl (.agg #[])
  have tb := as_nc (.agg #[])
  have tc := as_nd (.agg #[])
  clear hd hk
  have hW : ∃ X : World, X = (((w.alloc (.cells #[.iface 124 (.agg #[]), .int .i64 kp, .int .i64 kq, .int .i64 t0, .int .i64 t1, .int .i64 t2, .int .i64 t3] 98)).alloc (.cells #[.int .i64 13, .slice none 0 0, .slice none 0 0] 141)).alloc (.cells #[.int .i64 kp, .int .i64 kq] 2)) := ⟨_, rfl⟩
  obtain ⟨X, hX⟩ := hW
  have HF : Hid (TextAt X (w.heap.size) (w.heap.size + 1) ⟨kp, kq, t0, t1, t2, t3⟩ 13 none 0 0 [] (.slice none 0 0) (none)) := Lib.hid (by
    rw [hX]
    refine ⟨?_, ?_, ?_, ?_, ?_, ?_, ?_, ?_, ?_, fun o => ?_, by omega, fun T d hT => ?_⟩
    iterate 9 go_simp
    · go_simp
    · cases hT)
  have HO : Hid (C.Own 2 X 0 none 0 0 (C.i64s [])) := Lib.hid (by rw [hX]; exact (C.own_nil 2 _ 0))
  have HP : Hid (C.Row X (some ⟨w.heap.size + 1 + 1, 0, none⟩) 2 2 (C.i64s [kp, kq])) := Lib.hid (by rw [hX]; exact (C.own_row (own_at (vs := C.i64s [kp, kq]) (heap_at _ (by simp) _) (by simp [C.i64s]))).1)
  have HB : Hid (Below w.heap.size w X) := Lib.hid (by
    rw [hX]
    exact ((((Below.refl _ w).alloc (by simp <;> omega) _).alloc (by simp <;> omega) _).alloc (by simp <;> omega) _))
  have HS : Hid (X.heap.size = w.heap.size + 1 + 1 + 1) := Lib.hid (by rw [hX]; simp)
  go_enter Tryz.func102, Tryz.ntmps102
  go_wp2_with (at_builtin
               rw [← hX]
               refine append_i64 _ rfl (.tmp 60) (.tmp 69) rfl none 0 0 [] rfl HO.out _ 2 2 [kp, kq] rfl HP.out (by decide) ?_
               intro a2 cap2 w2 hown2 hg2 ho2
               have hb2 : But [] X w2 := (But.refl _ X).grown hg2 (fun q hq => by simp [Value.ownBlock] at hq)
               have HF2 := Lib.hid (HF.out.but hb2 (by simp <;> omega) (by simp <;> omega) (by intro T d hT; cases hT))
               have HO2 := Lib.hid hown2
               have HB2 : Hid (Below w.heap.size w w2) := Lib.hid (HB.out.trans (hb2.to_below (by simp <;> omega) HB.out.size))
               have HA2 : Hid (∀ q, (Value.slice a2 (0 + 2) cap2).ownBlock = some q → w.heap.size + 1 + 1 + 1 ≤ q) := Lib.hid (fun q hq => by
                 rcases ho2 with h | h
                 · rw [hq] at h
                   simp [Value.ownBlock] at h
                 · rw [hq, HS.out] at h
                   injection h with h
                   omega)
               have HS2 : Hid (w.heap.size + 1 + 1 + 1 ≤ w2.heap.size) := Lib.hid (by rw [← HS.out]; exact hb2.size)
               have r1 := HF2.out.r1
               have fz := HF2.out.fz
               clear hown2 hg2 ho2 hb2)
  have HF3 := Lib.hid (HF2.out.set (by intro T d hT; cases hT) a2 (0 + 2) cap2 ([] ++ [kp, kq]))
  have HO3 : Hid (C.Own 2 (w2.setCell ⟨w.heap.size + 1, 1, none⟩ (.slice a2 (0 + 2) cap2)) 0 a2 (0 + 2) cap2 (C.i64s ([] ++ [kp, kq]))) := Lib.hid (own_but HO2.out ((But.refl [w.heap.size + 1] _).set _ (.inl (by simp))) (fun q hq => by have := HA2.out q hq; simp <;> omega))
  have HB3 : Hid (Below w.heap.size w (w2.setCell ⟨w.heap.size + 1, 1, none⟩ (.slice a2 (0 + 2) cap2))) := Lib.hid (HB2.out.setCell (by simp <;> omega) _)
  have HS3 : Hid (w.heap.size + 1 + 1 + 1 ≤ (w2.setCell ⟨w.heap.size + 1, 1, none⟩ (.slice a2 (0 + 2) cap2)).heap.size) := Lib.hid (by have := HS2.out; simpa using this)
  generalize w2.setCell ⟨w.heap.size + 1, 1, none⟩ (.slice a2 (0 + 2) cap2) = w3 at *
  clear r1 fz HF2 HO2 HB2 HF HO HP HB hX
  have r1 := HF3.out.r1
  have fz := HF3.out.fz
  have HR3 : Hid (C.Row w3.drew (some ⟨w.heap.size, 3, none⟩) 4 4 (C.i64s [t0, t1, t2, t3])) := Lib.hid (rowK (k := ⟨kp, kq, t0, t1, t2, t3⟩) HF3.out.b3 HF3.out.b4 HF3.out.b5 HF3.out.b6)
  go_region_law (refine step_i64 _ rfl (.tmp 73) (.tmp 76) rfl a2 (0 + 2) cap2 ([] ++ [kp, kq]) rfl HO3.out (some ⟨w.heap.size, 3, none⟩) 4 4 [t0, t1, t2, t3] rfl HR3.out (by decide) ?_
                 intro a4 cap4 w4 hown4 hg4 ho4
                 have hb4 : ∃ q, But q w3 w4 ∧ ∀ x ∈ q, w.heap.size + 1 + 1 + 1 ≤ x := by
                   cases hq : (Value.slice a2 (0 + 2) cap2).ownBlock with
                   | none => exact ⟨[], ((But.refl [] w3).drew).grown hg4 (fun x hx => by rw [hq] at hx; cases hx), by simp⟩
                   | some q => exact ⟨[q], ((But.refl [q] w3).drew).grown hg4 (fun x hx => by rw [hq] at hx; injection hx with hx; subst hx; exact .inl (by simp)), fun x hx => by simp at hx; subst hx; exact HA2.out x hq⟩
                 obtain ⟨qq, hb4, hqq⟩ := hb4
                 have HF4 := Lib.hid (HF3.out.but hb4 (fun z => by have := hqq _ z; omega) (fun z => by have := hqq _ z; omega) (fun T d hT => by cases hT))
                 have HO4 := Lib.hid hown4
                 have HA4 : Hid (∀ q, (Value.slice a4 (0 + 2 + 4) cap4).ownBlock = some q → w.heap.size + 1 + 1 + 1 ≤ q) := Lib.hid (fun q hq => by
                   rcases ho4 with h | h
                   · exact HA2.out q (by rw [← h]; exact hq)
                   · rw [hq] at h
                     injection h with h
                     have h6 := HS3.out
                     have h7 : w3.drew.heap.size = w3.heap.size := rfl
                     omega)
                 have HB4 : Hid (Below w.heap.size w w4) := Lib.hid (HB3.out.trans (hb4.to_below (fun x hx => by have := hqq x hx; omega) HB3.out.size))
                 have r1b := HF4.out.r1
                 have fzb := HF4.out.fz
                 clear hown4 hg4 hb4 hqq ho4)
  have HF5 := Lib.hid (HF4.out.set (by intro T d hT; cases hT) a4 (0 + 2 + 4) cap4 ([] ++ [kp, kq] ++ [t0, t1, t2, t3]))
  have HO5 : Hid (C.Own 2 (w4.setCell ⟨w.heap.size + 1, 1, none⟩ (.slice a4 (0 + 2 + 4) cap4)) 0 a4 (0 + 2 + 4) cap4 (C.i64s ([] ++ [kp, kq] ++ [t0, t1, t2, t3]))) := Lib.hid (own_but HO4.out ((But.refl [w.heap.size + 1] _).set _ (.inl (by simp))) (fun q hq => by have := HA4.out q hq; simp <;> omega))
  have HB5 : Hid (Below w.heap.size w (w4.setCell ⟨w.heap.size + 1, 1, none⟩ (.slice a4 (0 + 2 + 4) cap4))) := Lib.hid (HB4.out.setCell (by simp <;> omega) _)
  generalize w4.setCell ⟨w.heap.size + 1, 1, none⟩ (.slice a4 (0 + 2 + 4) cap4) = w5 at *
  clear r1 fz r1b fzb HF4 HO4 HB4 HF3 HO3 HB3 HR3
  have r0 := HF5.out.r0
  have r1 := HF5.out.r1
  have r2 := HF5.out.r2
  have HE : Hid (Calls Tryz.prog 109 #[.agg #[.int .i64 13, .slice a4 (0 + 2 + 4) cap4, .slice none 0 0]] w5 fun e w' => ∃ aE capE nE lE, e = .returned (.tuple #[.slice aE nE capE, .int .i64 0]) ∧ lE = C.M.enc (recQ (.note) ⟨kp, kq, t0, t1, t2, t3⟩) ∧ Row w' aE nE capE (u8s lE) ∧ Below w5.heap.size w5 w') := Lib.hid (by
    refine (C.encode_yes w5 (recQ (.note) ⟨kp, kq, t0, t1, t2, t3⟩) a4 (0 + 2 + 4) cap4 none 0 0 (rec_at (P := 0) (R := 0) (k := kp0) (kd := 0) HO5.out rfl (row_no_str _)) HM.out.1 HM.out.2).mono ?_
    rintro e w' ⟨a, cap, rfl, ho, hb⟩
    exact ⟨a, cap, _, _, rfl, rfl, (C.own_row ho).1, hb⟩)
  go_wp2_with (go_at_call 109; refine HE.out.mono ?_; rintro e w6 ⟨a6, cap6, n6, l6, rfl, hl6, ho6, hb6⟩
               have HB6 : Hid (Below w.heap.size w w6) := Lib.hid (HB5.out.trans (hb6.mono HB5.out.size))
               have HL6 := Lib.hid hl6
               have kc := conv_row ho6
               clear ho6 hb6 hl6)
  go_ret
  refine ⟨?_, HB6.out⟩
  rw [show txQ (.note) ⟨kp, kq, t0, t1, t2, t3⟩ = str l6 by rw [HL6.out]; rfl]
  rfl

theorem text_q (w : World) (d : Deed) (k : Kp) (nb : Nat) (hnb : nb ≤ 32) (hd : MayD nb d) (hk : MayK k) :
    Calls Tryz.prog 102 #[recV d k] w fun e w' => e = .returned (.string (txQ d k)) ∧ Below w.heap.size w w' := by
  cases d with
  | lay x => exact text_lay w x k nb hnb hd hk
  | clean b ep sq => exact text_clean w b ep sq k nb hnb hd hk
  | drop b => exact text_drop w b k nb hnb hd hk
  | note => exact text_note w k nb hnb hd hk
end Q
end Go.Proofs.YtmcalgnpinolmaaGreat
namespace Go.Proofs.YtmcalgnpinolmaaGreat
open Go.RowKit Go.Maps
set_option linter.unusedVariables false
set_option linter.unusedSimpArgs false
set_option maxRecDepth 20000
namespace Q
variable {qB lB N nb mE : Nat} {k : Kp} {E : Mp}

theorem ranges_but {w w' : World} {b r N : Nat} {D : DataW Unit} {left : Lit → Bool} {cnt : Nat} (h : w.ranges (H := Unit) Tryz.prog 3 laidR b r N D left cnt) {l : List Nat} (hb : But l w w') (h1 : b ∉ l) (h2 : r ∉ l) : w'.ranges (H := Unit) Tryz.prog 3 laidR b r N D left cnt := by
  have l1 := h.owns.lt
  have l2 := h.lt
  obtain ⟨es, clock, since, seen, c0, hb1, F, hs, hD, hr, rest⟩ := h
  exact ⟨es, clock, since, seen, c0, (hb.block b l1 h1).trans hb1, F, hs, hD, (hb.block r l2 h2).trans hr, rest⟩

/-- an entry that is handed back out of its block, and a mark -/
theorem ret_entry {fn : Func} (hres : fn.results = #[.cell 4 37, .tmp 5]) {R : Ending → World → Prop} {a : Act} {w : World} {b : Nat} (e : En) (v : Value) (h4 : a.tmps.getD 4 undef = .pointer (some ⟨b, 0, none⟩)) (h5 : a.tmps.getD 5 undef = v) (hd : a.defers = []) (hrow : w.rangeAt b 0 e.cells.toList)
    (hR : R (.returned (.tuple #[e.val, v])) w) : bodyPost Tryz.prog fn R .ret a w := by
  obtain ⟨eb, ep, sq, data, dirty, cl, n⟩ := e
  have k0 : w.cell? ⟨b, 0, none⟩ = _ := hrow 0 _ rfl
  have k1 : w.cell? ⟨b, 1, none⟩ = _ := hrow 1 _ rfl
  have k2 : w.cell? ⟨b, 2, none⟩ = _ := hrow 2 _ rfl
  have k3 : w.cell? ⟨b, 3, none⟩ = _ := hrow 3 _ rfl
  have k4 : w.cell? ⟨b, 4, none⟩ = _ := hrow 4 _ rfl
  have k5 : w.cell? ⟨b, 5, none⟩ = _ := hrow 5 _ rfl
  have k6 : w.cell? ⟨b, 6, none⟩ = _ := hrow 6 _ rfl
  simp only [Array.getD_eq_getD_getElem?] at h4 h5
  simp only at k0 k1 k2 k3 k4 k5 k6
  refine bodyPost_ret_by ?_ hd hR
  simp [results, hres, h4, h5, go_sem, k0, k1, k2, k3, k4, k5, k6, En.val]

/-- seven cells of a block -/
theorem seven {w : World} {b : Nat} {T : TypeId} {v0 v1 v2 v3 v4 v5 v6 : Value} (h : w.heap[b]? = some (.cells #[v0, v1, v2, v3, v4, v5, v6] T (0, 0))) : w.cell? ⟨b, 0, none⟩ = some v0 ∧ w.cell? ⟨b, 1, none⟩ = some v1 ∧ w.cell? ⟨b, 2, none⟩ = some v2 ∧ w.cell? ⟨b, 3, none⟩ = some v3 ∧ w.cell? ⟨b, 4, none⟩ = some v4 ∧ w.cell? ⟨b, 5, none⟩ = some v5 ∧ w.cell? ⟨b, 6, none⟩ = some v6 ∧ (∀ o, w.frozen? ⟨b, o, none⟩ = false) ∧ w.there b 0 7 := by
  have hf : ∀ o, w.frozen? ⟨b, o, none⟩ = false := fun o => by simp [World.frozen?, h]
  refine ⟨by simp [World.cell?, h], by simp [World.cell?, h], by simp [World.cell?, h], by simp [World.cell?, h], by simp [World.cell?, h], by simp [World.cell?, h], by simp [World.cell?, h], hf, fun j hj => ⟨?_, hf _⟩⟩
  match j, hj with
  | 0, _ => simp [World.cell?, h]
  | 1, _ => simp [World.cell?, h]
  | 2, _ => simp [World.cell?, h]
  | 3, _ => simp [World.cell?, h]
  | 4, _ => simp [World.cell?, h]
  | 5, _ => simp [World.cell?, h]
  | 6, _ => simp [World.cell?, h]

/-- what 'laidBy' may tell -/
def LaidBy (E : Mp) (at' : Int) (v : Value) : Prop :=
  (∃ b x, E b = some x ∧ x.pos = at' ∧ v = .tuple #[x.e.val, .bool true]) ∨ ((∀ b x, E b = some x → x.pos ≠ at') ∧ v = .tuple #[zeroE.val, .bool false])

theorem kinv : ∀ key kl, keyOf Tryz.prog 3 key = some kl → ∃ x, key = Value.int .i64 x := fun key kl hk => by obtain ⟨x, hx, _⟩ := Maps.keyOf_i64 Tryz.underlying3 hk; exact ⟨x, hx⟩
theorem vinv : ∀ v y, laidR v = some y → ∃ c, v = La.val c := fun v y hv => by obtain ⟨s, hs, _⟩ := laidR_inv hv; exact ⟨s, hs⟩
set_option maxHeartbeats 2000000 in
theorem laidBy_q (w : World) (g : CacheC w qB lB N nb mE k) (hm : MapQ w mE E) (at' : Int) :
    Calls Tryz.prog 125 #[.pointer (some ⟨qB, 0, none⟩), .int .i64 at'] w fun e w' => ∃ v, e = .returned v ∧ LaidBy E at' v ∧ Below w.heap.size w w' := by
  have HB0 : Hid (Below w.heap.size w (w.alloc (.cells zeroE.cells 37))) := Lib.hid ((Below.refl _ w).alloc (Nat.le_refl _) _)
  have p3 := (g.below HB0.out g.lt).p3
  obtain ⟨NN, D, hown, hrd⟩ := hm.but (But.of_below HB0.out) (by simp)
  have HO := Lib.hid hown
  have HR := Lib.hid hrd
  have Hm : Hid (mE < w.heap.size) := Lib.hid hm.lt
  unfold zeroE En.cells at HB0 p3 HO hown
  clear g hm hown hrd
  go_enter Tryz.func125, Tryz.ntmps125
  go_wp2_with (first
    | (at_range; refine wpList_range_own _ rfl (.tmp 11) 90 rfl 3 108 (int_keyed Tryz.underlying3) Tryz.underlying90 laidR mE NN D rfl HO.out ?_; intro w0 hrg0 hg0 hs0))
  have HB1 : Hid (Below w.heap.size w w0) := Lib.hid (((But.refl [] w).below HB0.out (Nat.le_refl _)).grown hg0 (by simp) |>.to_below (by simp) (Nat.le_refl _))
  have HRg0 := Lib.hid hrg0
  have HR0 : Hid (w0.heap[w.heap.size]? = some (.cells #[.int .i64 0, .int .i64 0, .int .i64 0, .string ⟨#[]⟩, .bool false, .int .i64 0, .int .i64 0] 37 (0, 0))) := Lib.hid (by
    have hb := (But.refl [] (w.alloc (.cells #[.int .i64 0, .int .i64 0, .int .i64 0, .string ⟨#[]⟩, .bool false, .int .i64 0, .int .i64 0] 37))).grown hg0 (by simp)
    rw [hb.block w.heap.size (by simp) (by simp)]
    exact heap_alloc_new w _)
  clear hrg0 hg0 hs0 p3
  rw [show (w.alloc (.cells #[.int .i64 0, .int .i64 0, .int .i64 0, .string ⟨#[]⟩, .bool false, .int .i64 0, .int .i64 0] 37)).heap.size = w.heap.size + 1 by simp] at HRg0
  clear HO HB0
  go_loopw [13] (fun _ wr => ∃ (left : Lit → Bool) (cnt : Nat), wr.ranges (H := Unit) Tryz.prog 3 laidR mE (w.heap.size + 1) NN D left cnt ∧ Below w.heap.size w wr ∧ wr.heap[w.heap.size]? = some (.cells #[.int .i64 0, .int .i64 0, .int .i64 0, .string ⟨#[]⟩, .bool false, .int .i64 0, .int .i64 0] 37 (0, 0)) ∧ Hid (∀ b x, E b = some x → left (.int .i64 b) = false → x.pos ≠ at')) (fun _ wr => wr.rangeLeft mE (w.heap.size + 1))
  case atStart =>
    refine ⟨_, _, HRg0.out, HB1.out, HR0.out, Lib.hid (fun b x hx hl => ?_)⟩
    rw [HR.out.2.1, hx] at hl
    cases hl
  case round =>
    obtain ⟨left, cnt, hrg, hb, hz, HL⟩ := hrel
    have HRg := Lib.hid hrg
    have HB := Lib.hid hb
    have HZ := Lib.hid hz
    clear hrg hb hz HRg0 HB1 HR0
    go_wp2_with (at_next; refine wpList_next_ranges _ rfl (.tmp 12) rfl 3 (int_keyed Tryz.underlying3) laidR (Value.int .i64) La.val kinv vinv mE (w.heap.size + 1) NN D left cnt rfl HRg.out ?_ ?_)
    · intro hc0 hl0
      have HL0 := Lib.hid hl0
      obtain ⟨m0, m1, m2, m3, m4, m5, m6, fz, ht⟩ := seven HZ.out
      have HT := Lib.hid ht
      clear hc0 hl0 ht
      go_wp2
      refine ret_entry Tryz.results125 zeroE (.bool false) rfl rfl rfl (World.rangeAt_setCells_same _ _ 0 [.int .i64 0, .int .i64 0, .int .i64 0, .string ⟨#[]⟩, .bool false, .int .i64 0, .int .i64 0] HT.out) ⟨_, rfl, .inr ⟨fun b x hx => HL.out b x hx (HL0.out _), rfl⟩, ?_⟩
      exact HB.out.trans (((But.refl [w.heap.size] wr).sets w.heap.size 0 [.int .i64 0, .int .i64 0, .int .i64 0, .string ⟨#[]⟩, .bool false, .int .i64 0, .int .i64 0] (.inl (by simp))).to_below (by simp) HB.out.size)
    · intro x c kl yd yp w2 cnt2 hkey hlk hv hat hrg2 hlt hg2 hs2 hen
      obtain ⟨x', ex, rfl, hwx⟩ := Maps.keyOf_i64 Tryz.underlying3 hkey
      obtain rfl : x = x' := encZ_inj ex
      obtain ⟨s, hcs, hyy⟩ := laidR_inv hv
      injection hyy with hyy hyp
      subst hyp
      obtain rfl : c = s := La.val_inj hcs
      have hEx : E x = some c := by
        have hx1 := has_true_of_atKey hat
        rw [HR.out.2.1] at hx1
        obtain ⟨t, ht⟩ := Option.isSome_iff_exists.1 hx1
        have h2 := HR.out.2.2 x t ht (.lit (.string []))
        rw [hat, hyy] at h2
        rw [ht, La.code_inj h2]
      have HEx := Lib.hid hEx
      have hb2 := (But.refl [w.heap.size + 1] wr).grown hg2 (by simp)
      have HB2 : Hid (Below w.heap.size w w2) := Lib.hid (HB.out.trans (hb2.to_below (by simp) HB.out.size))
      have hz2 : w2.heap[w.heap.size]? = _ := (hb2.block _ (lt_of_heap HZ.out) (by simp)).trans HZ.out
      have HZ2 := Lib.hid hz2
      have HRg2 := Lib.hid (And.intro hrg2 hlt)
      clear ex hwx hcs hv hkey hlk hat hyy hEx hb2 hz2 hrg2 hlt hg2 hs2
      obtain ⟨⟨xb, xp, xq, xd, xy, xc, xn⟩, xpos⟩ := c
      simp only [La.val] at hen
      have HB3 : Hid (Below w.heap.size w (w2.alloc (.cells #[.int .i64 xb, .int .i64 xp, .int .i64 xq, .string xd, .bool xy, .int .i64 xc, .int .i64 xn, .int .i64 xpos] 108))) := Lib.hid (HB2.out.alloc HB2.out.size _)
      have hz3 : (w2.alloc (.cells #[.int .i64 xb, .int .i64 xp, .int .i64 xq, .string xd, .bool xy, .int .i64 xc, .int .i64 xn, .int .i64 xpos] 108)).heap[w.heap.size]? = _ := (Below.heap_alloc _ _ _ (lt_of_heap HZ2.out)).trans HZ2.out
      by_cases hp : xpos = at'
      · subst hp
        obtain ⟨m0, m1, m2, m3, m4, m5, m6, fz, ht⟩ := seven hz3
        have HT := Lib.hid ht
        clear ht hz3
        go_wp2
        refine ret_entry Tryz.results125 ⟨xb, xp, xq, xd, xy, xc, xn⟩ (.bool true) rfl rfl rfl (World.rangeAt_setCells_same _ _ 0 [.int .i64 xb, .int .i64 xp, .int .i64 xq, .string xd, .bool xy, .int .i64 xc, .int .i64 xn] HT.out) ⟨_, rfl, .inl ⟨x, _, HEx.out, rfl, rfl⟩, ?_⟩
        exact HB3.out.trans (((But.refl [w.heap.size] _).sets w.heap.size 0 [.int .i64 xb, .int .i64 xp, .int .i64 xq, .string xd, .bool xy, .int .i64 xc, .int .i64 xn] (.inl (by simp))).to_below (by simp) HB3.out.size)
      · have Hz3 := Lib.hid hz3
        have hpb : (xpos == at') = false := by simpa using hp
        have HP := Lib.hid hp
        have HRg3 := Lib.hid (ranges_but HRg2.out.1 (But.of_below ((Below.refl w2.heap.size w2).alloc (Nat.le_refl _) (.cells #[.int .i64 xb, .int .i64 xp, .int .i64 xq, .string xd, .bool xy, .int .i64 xc, .int .i64 xn, .int .i64 xpos] 108))) (by simp) (by simp))
        clear hz3 hp
        go_wp2
        go_roundw
        case rel =>
          refine ⟨_, cnt2, HRg3.out, HB3.out, Hz3.out, Lib.hid (fun b y hy hl => ?_)⟩
          by_cases hbx : b = x
          · subst hbx
            rw [HEx.out] at hy
            injection hy with hy
            subst hy
            exact HP.out
          · refine HL.out b y hy ?_
            have : (Lit.int .i64 b).sameKey (.int .i64 x) = false := sameKey_ne (by intro h; injection h with _ h; exact hbx h)
            simpa [this] using hl
        case measure =>
          rw [HRg3.out.left_eq, HRg.out.left_eq]
          exact HRg2.out.2
end Q
end Go.Proofs.YtmcalgnpinolmaaGreat
set_option linter.unusedVariables false
namespace Go.Proofs.YtmcalgnpinolmaaGreat.Q

/-- the log's records say what the cache has -/
def Says (nb : Nat) (L : M.Lg) (E : Mp) (k : Kp) : Prop :=
  ∃ ds : List (Deed × Kp), L.rs.map (·.s) = ds.map (fun x => txQ x.1 x.2) ∧ (∀ x ∈ ds, MayD nb x.1 ∧ MayK x.2) ∧ E = run L.head none0 ds ∧ k = lastK kp0 ds

structure Hold (nb N : Nat) (L : M.Lg) (E : Mp) (k : Kp) : Prop where
  says : Says nb L E k
  cn : num nb (vis E) ≤ N - 6
  n8 : 8 ≤ N
  nb : nb ≤ 32
  kk : MayK k

theorem Says.ok {nb : Nat} {L : M.Lg} {E : Mp} {k : Kp} (h : Says nb L E k) : OkE nb L.head L.tail E := by
  obtain ⟨ds, h1, h2, h3, h4⟩ := h
  have hl : L.rs.length = ds.length := by have := congrArg List.length h1; simpa using this
  have := run_ok (OkE.none nb L.head) (Int.le_refl _) (l := ds) (fun x hx => (h2 x hx).1)
  rw [h3]
  unfold M.Lg.tail
  rw [hl]
  exact this
theorem Hold.ok {nb N : Nat} {L : M.Lg} {E : Mp} {k : Kp} (h : Hold nb N L E k) : OkE nb L.head L.tail E := h.says.ok

theorem mayK0 : MayK kp0 := by refine ⟨?_, ?_, ?_, ?_, ?_, ?_⟩ <;> exact ⟨by decide, by decide⟩

theorem Says.fresh (nb : Nat) (L : M.Lg) (h : L.rs = []) : Says nb L none0 kp0 := ⟨[], by simp [h], by simp, rfl, rfl⟩

theorem Says.come {nb : Nat} {L : M.Lg} {E : Mp} {k : Kp} (h : Says nb L E k) {d : Deed} {k' : Kp} (hd : MayD nb d) (hk : MayK k') : Says nb (L.add (txQ d k')) (step E d L.tail) k' := by
  obtain ⟨ds, h1, h2, h3, h4⟩ := h
  have hl : L.rs.length = ds.length := by have := congrArg List.length h1; simpa using this
  refine ⟨ds ++ [(d, k')], by simp [M.Lg.add, h1], fun x hx => ?_, ?_, by rw [lastK_snoc]⟩
  · rcases List.mem_append.1 hx with hx | hx
    · exact h2 x hx
    · obtain rfl : x = (d, k') := by simpa using hx
      exact ⟨hd, hk⟩
  · rw [run_snoc, h3]
    unfold M.Lg.tail
    rw [hl]
    rfl

theorem Says.cut {nb : Nat} {L : M.Lg} {E : Mp} {k : Kp} (h : Says nb L E k) (h2 : 2 ≤ L.rs.length) (hn : ∀ b x, E b = some x → x.pos ≠ L.head) : Says nb (L.cut 1) E k := by
  obtain ⟨ds, g1, g2, g3, g4⟩ := h
  have hl : L.rs.length = ds.length := by have := congrArg List.length g1; simpa using this
  have hd2 : 2 ≤ ds.length := by omega
  match ds, hd2, g1, g2, g3, g4 with
  | x :: y :: l, hd2, g1, g2, g3, g4 =>
    refine ⟨y :: l, ?_, fun z hz => g2 z (by simp at hz ⊢; right; exact hz), ?_, ?_⟩
    · show (L.rs.drop 1).map (·.s) = _
      rw [List.map_drop, g1]; rfl
    · show E = run (L.head + 1) none0 (y :: l)
      rw [run_tail (x := x), g3]
      intro b z hz
      exact hn b z (by rw [g3]; exact hz)
    · rw [g4, lastK_tail _ _ _ (by simp)]
  | [x], hd2, g1, g2, g3, g4 => simp at hd2
  | [], hd2, g1, g2, g3, g4 => simp at hd2

/-- an entry laid anew -/
theorem vis_lay {E : Mp} {b : Int} {x : La} (hx : E b = some x) (hb : x.e.b = b) (p : Int) : vis (step E (.lay x.e) p) = vis E := by
  simp only [step]
  rw [vis_upd]
  funext c
  unfold updV
  split
  · rename_i hc; rw [hc, hb]; unfold vis; rw [hx]; rfl
  · rfl

/-- how many entries were laid from a number on -/
def since (nb : Nat) (E : Mp) (t : Int) : Nat := cnt nb fun b => match E b with
  | some x => decide (t ≤ x.pos)
  | none => false
theorem since_le (nb : Nat) (E : Mp) (t : Int) : since nb E t ≤ num nb (vis E) := by
  refine cnt_mono fun b _ _ h => ?_
  unfold vis
  cases hb : E b with
  | none => rw [hb] at h; cases h
  | some x => rfl
theorem since_none {nb : Nat} {h t : Int} {E : Mp} (o : OkE nb h t E) : since nb E t = 0 := by
  unfold since
  have : ∀ n, cnt n (fun b => match E b with | some x => decide (t ≤ x.pos) | none => false) = 0 := by
    intro n
    induction n with
    | zero => rfl
    | succ n ih =>
      unfold cnt
      rw [ih]
      cases hb : E (n : Int) with
      | none => simp [hb]
      | some x =>
        have := o.pos _ _ hb
        have : ¬ t ≤ x.pos := by omega
        simp [hb, this]
  exact this nb
theorem since_lay {nb : Nat} {E : Mp} {b : Int} {x : La} {t p : Int} (hx : E b = some x) (hb : x.e.b = b) (h0 : 0 ≤ b) (h1 : b < (nb : Int)) (h2 : x.pos < t) (h3 : t ≤ p) : since nb (step E (.lay x.e) p) t = since nb E t + 1 := by
  unfold since
  refine cnt_set h0 h1 ?_ ?_ fun c hc => ?_
  · rw [hx]; simp only [decide_eq_false_iff_not]; omega
  · simp only [step, hb, upd_same, decide_eq_true_eq]; omega
  · simp only [step, hb]; rw [upd_other _ _ hc]

/-- room that is being made: what was there before, how many rounds -/
structure Under (nb N : Nat) (L0 : M.Lg) (V : Vm) (k : Kp) (i : Nat) (L : M.Lg) (E : Mp) : Prop where
  hold : Hold nb N L E k
  vis : Q.vis E = V
  head : L.head = L0.head + i
  len : i + L.rs.length = since nb E L0.tail + L0.rs.length
  le : L.rs.length ≤ L0.rs.length
  l0 : L0.rs.length ≤ N - 2

theorem Under.start {nb N : Nat} {L : M.Lg} {E : Mp} {k : Kp} (h : Hold nb N L E k) (hl : L.rs.length ≤ N - 2) : Under nb N L (Q.vis E) k 0 L E :=
  ⟨h, rfl, by simp, by rw [since_none h.ok], Nat.le_refl _, hl⟩

/-- where there is little room still, rounds are left, and the first record is an elder one -/
theorem Under.few {nb N : Nat} {L0 : M.Lg} {V : Vm} {k : Kp} {i : Nat} {L : M.Lg} {E : Mp} (u : Under nb N L0 V k i L E) (hf : N - 3 ≤ L.rs.length) : i + 5 ≤ N ∧ L.head < L0.tail ∧ 2 ≤ L.rs.length := by
  have h1 := since_le nb E L0.tail
  have h2 := u.hold.cn
  have h3 := u.len
  have h4 := u.le
  have h5 := u.l0
  have h6 := u.hold.n8
  have h7 := u.head
  have hh : i + 5 ≤ N := by omega
  refine ⟨hh, ?_, by omega⟩
  unfold M.Lg.tail
  omega

theorem Under.dead {nb N : Nat} {L0 : M.Lg} {V : Vm} {k : Kp} {i : Nat} {L : M.Lg} {E : Mp} (u : Under nb N L0 V k i L E) (hf : N - 3 ≤ L.rs.length) (hn : ∀ b x, E b = some x → x.pos ≠ L.head) : Under nb N L0 V k (i + 1) (L.cut 1) E := by
  obtain ⟨f1, f2, f3⟩ := u.few hf
  have hlen : (L.cut 1).rs.length = L.rs.length - 1 := by simp [M.Lg.cut]
  refine ⟨⟨u.hold.says.cut f3 hn, u.hold.cn, u.hold.n8, u.hold.nb, u.hold.kk⟩, u.vis, ?_, ?_, ?_, u.l0⟩
  · show L.head + 1 = _; rw [u.head]; omega
  · rw [hlen]; have := u.len; omega
  · rw [hlen]; have := u.le; omega

theorem Under.live {nb N : Nat} {L0 : M.Lg} {V : Vm} {k : Kp} {i : Nat} {L : M.Lg} {E : Mp} (u : Under nb N L0 V k i L E) (hf : N - 3 ≤ L.rs.length) {b : Int} {x : La} (hx : E b = some x) (hp : x.pos = L.head) :
    MayE nb x.e ∧ Under nb N L0 V k (i + 1) ((L.add (txQ (.lay x.e) k)).cut 1) (step E (.lay x.e) L.tail) ∧ (∀ c y, step E (.lay x.e) L.tail c = some y → y.pos ≠ L.head) := by
  obtain ⟨f1, f2, f3⟩ := u.few hf
  have o := u.hold.ok
  have hb := o.key b x hx
  have hm := o.may b x hx
  have hr := o.range hx
  have hlen : ((L.add (txQ (.lay x.e) k)).cut 1).rs.length = L.rs.length := by simp [M.Lg.cut, M.Lg.add]
  have hlen2 : (L.add (txQ (.lay x.e) k)).rs.length = L.rs.length + 1 := by simp [M.Lg.add]
  have htl : L.tail = L.head + L.rs.length := rfl
  have ht : L0.tail ≤ L.tail := by
    have h1 := u.head
    have h2 := u.len
    have : L0.tail = L0.head + L0.rs.length := rfl
    omega
  have hn : ∀ c y, step E (.lay x.e) L.tail c = some y → y.pos ≠ L.head := by
    intro c y hy
    simp only [step, upd] at hy
    split at hy
    · injection hy with hy; subst hy; simp only; omega
    · rename_i hc
      intro he
      have := o.inj c b y x hy hx (by omega)
      omega
  have hs : Says nb (L.add (txQ (.lay x.e) k)) (step E (.lay x.e) L.tail) k := u.hold.says.come hm u.hold.kk
  have hv := vis_lay hx hb L.tail
  refine ⟨hm, ⟨⟨hs.cut (by omega) (by show ∀ b x_1, _ → _ ≠ L.head; exact hn), by rw [hv]; exact u.hold.cn, u.hold.n8, u.hold.nb, u.hold.kk⟩, by rw [hv]; exact u.vis, ?_, ?_, ?_, u.l0⟩, hn⟩
  · show L.head + 1 = _; rw [u.head]; omega
  · rw [hlen, since_lay hx hb hr.1 hr.2 (by omega) ht]; have := u.len; omega
  · rw [hlen]; exact u.le
end Go.Proofs.YtmcalgnpinolmaaGreat.Q
