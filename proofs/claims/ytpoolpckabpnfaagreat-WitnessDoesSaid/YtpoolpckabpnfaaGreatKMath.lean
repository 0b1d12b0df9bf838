/-
  The plain mathematics of the sum of package crc: halving is linear and loses nothing, so that bytes gone on with, rows joined and bits turned are known. No program is named here.
-/
namespace Go.Proofs.YtpoolpckabpnfaaGreat.K.M

/-- what halving tells apart when a one has left -/
def poly : BitVec 32 := 0x82f63b78#32
def half (x : BitVec 32) : BitVec 32 := if x &&& 1#32 = 1#32 then (x >>> 1) ^^^ poly else x >>> 1

def iter : Nat → BitVec 32 → BitVec 32
  | 0, x => x
  | n + 1, x => iter n (half x)

def step (s : BitVec 32) (c : Int) : BitVec 32 := iter 8 (s ^^^ BitVec.ofInt 32 c)
def run (s : BitVec 32) (l : List Int) : BitVec 32 := l.foldl step s
def more (s : BitVec 32) (l : List Int) : BitVec 32 := ~~~ run (~~~ s) l
def join (a b : BitVec 32) (n : Int) : BitVec 32 := if n < 1 then a else iter (8 * n.toNat) a ^^^ b

theorem and_one (x : BitVec 32) : x &&& 1#32 = 1#32 ↔ x.getLsbD 0 = true := by
  constructor
  · intro h
    have := congrArg (fun y : BitVec 32 => y.getLsbD 0) h
    simpa using this
  · intro h
    apply BitVec.eq_of_getLsbD_eq
    intro i hi
    cases i with
    | zero => simp [h]
    | succ j => simp [BitVec.getLsbD_one]

theorem half_eq (x : BitVec 32) : half x = (x >>> 1) ^^^ (if x.getLsbD 0 then poly else 0#32) := by
  unfold half
  by_cases h : x.getLsbD 0 = true
  · rw [if_pos ((and_one x).2 h), if_pos h]
  · rw [if_neg (fun g => h ((and_one x).1 g)), if_neg h]; simp

theorem half_xor (x y : BitVec 32) : half (x ^^^ y) = half x ^^^ half y := by
  rw [half_eq, half_eq, half_eq, BitVec.ushiftRight_xor_distrib, BitVec.getLsbD_xor]
  cases h : x.getLsbD 0 <;> cases g : y.getLsbD 0 <;> simp
  · ac_rfl
  · ac_rfl
  · rw [show x >>> 1 ^^^ poly ^^^ (y >>> 1 ^^^ poly) = (x >>> 1 ^^^ y >>> 1) ^^^ (poly ^^^ poly) from by ac_rfl]; simp

theorem half_zero : half 0#32 = 0#32 := by decide +kernel

theorem half_eq_zero {x : BitVec 32} (h : half x = 0#32) : x = 0#32 := by
  rw [half_eq] at h
  have h31 := congrArg (fun y : BitVec 32 => y.getLsbD 31) h
  by_cases g : x.getLsbD 0 = true
  · rw [if_pos g] at h31
    simp [poly] at h31
  · rw [if_neg g, BitVec.xor_zero] at h
    apply BitVec.eq_of_getLsbD_eq
    intro i hi
    cases i with
    | zero => simpa using g
    | succ j =>
      have := congrArg (fun y : BitVec 32 => y.getLsbD j) h
      simp at this
      simp
      rw [Nat.add_comm]; exact this

theorem xor_eq_zero {x y : BitVec 32} (h : x ^^^ y = 0#32) : x = y := by
  have : x ^^^ y ^^^ y = 0#32 ^^^ y := by rw [h]
  simpa [BitVec.xor_assoc] using this

theorem half_inj {x y : BitVec 32} (h : half x = half y) : x = y := by
  apply xor_eq_zero
  apply half_eq_zero
  rw [half_xor, h]; simp

theorem iter_xor (n : Nat) (x y : BitVec 32) : iter n (x ^^^ y) = iter n x ^^^ iter n y := by
  induction n generalizing x y with
  | zero => rfl
  | succ n ih => show iter n (half (x ^^^ y)) = _; rw [half_xor, ih]; rfl

theorem iter_zero (n : Nat) : iter n 0#32 = 0#32 := by
  induction n with
  | zero => rfl
  | succ n ih => show iter n (half 0#32) = _; rw [half_zero, ih]

theorem iter_inj {n : Nat} {x y : BitVec 32} (h : iter n x = iter n y) : x = y := by
  induction n generalizing x y with
  | zero => exact h
  | succ n ih => exact half_inj (ih h)

theorem iter_ne {n : Nat} {x : BitVec 32} (h : x ≠ 0#32) : iter n x ≠ 0#32 := by
  intro g; exact h (iter_inj (n := n) (by rw [g, iter_zero]))

theorem iter_add (n m : Nat) (x : BitVec 32) : iter (n + m) x = iter m (iter n x) := by
  induction n generalizing x with
  | zero => simp [iter]
  | succ n ih => rw [Nat.succ_add]; exact ih (half x)

theorem iter_half (n : Nat) (x : BitVec 32) : iter n (half x) = half (iter n x) := by
  have h1 := iter_add 1 n x
  have h2 := iter_add n 1 x
  rw [Nat.add_comm] at h1
  rw [h1] at h2
  exact h2

theorem step_inj {s t : BitVec 32} {c : Int} (h : step s c = step t c) : s = t := by
  have := iter_inj h
  have g : s ^^^ BitVec.ofInt 32 c ^^^ BitVec.ofInt 32 c = t ^^^ BitVec.ofInt 32 c ^^^ BitVec.ofInt 32 c := by rw [this]
  simpa [BitVec.xor_assoc] using g

theorem run_inj {l : List Int} {s t : BitVec 32} (h : run s l = run t l) : s = t := by
  induction l generalizing s t with
  | nil => exact h
  | cons c l ih => exact step_inj (ih h)

theorem not_inj {x y : BitVec 32} (h : ~~~ x = ~~~ y) : x = y := by
  have : ~~~ ~~~ x = ~~~ ~~~ y := by rw [h]
  simpa using this

theorem more_inj {l : List Int} {s t : BitVec 32} (h : more s l = more t l) : s = t :=
  not_inj (run_inj (not_inj h))

theorem more_eq_iff (l : List Int) (s t : BitVec 32) : more s l = more t l ↔ s = t :=
  ⟨more_inj, fun h => by rw [h]⟩

theorem run_append (s : BitVec 32) (l m : List Int) : run s (l ++ m) = run (run s l) m := by
  simp [run]

theorem more_append (s : BitVec 32) (l m : List Int) : more s (l ++ m) = more (more s l) m := by
  simp [more, run_append]

theorem more_nil (s : BitVec 32) : more s [] = s := by simp [more, run]

/-- a state told apart at the beginning is told apart at the end, that many bytes later -/
theorem run_xor (l : List Int) (s t : BitVec 32) : run (s ^^^ t) l = run s l ^^^ iter (8 * l.length) t := by
  induction l generalizing s t with
  | nil => rfl
  | cons c l ih =>
    show run (step (s ^^^ t) c) l = run (step s c) l ^^^ _
    have : step (s ^^^ t) c = step s c ^^^ iter 8 t := by
      unfold step
      rw [← iter_xor]; congr 1; ac_rfl
    rw [this, ih, ← iter_add]
    congr 2
    simp; omega

theorem not_xor (s t : BitVec 32) : ~~~ (s ^^^ t) = ~~~ s ^^^ t := by
  apply BitVec.eq_of_getLsbD_eq
  intro i hi
  simp [hi]

theorem more_shift (l : List Int) (s : BitVec 32) : more s l = iter (8 * l.length) s ^^^ more 0#32 l := by
  unfold more
  have : ~~~ s = ~~~ 0#32 ^^^ s := by rw [← not_xor]; simp
  rw [this, run_xor, not_xor]; ac_rfl

theorem join_more (l : List Int) (s : BitVec 32) (n : Int) (hn : n = l.length) : join s (more 0#32 l) n = more s l := by
  subst hn
  unfold join
  by_cases h : ((l.length : Int) < 1)
  · rw [if_pos h]
    have : l = [] := by apply List.eq_nil_of_length_eq_zero; omega
    subst this
    exact (more_nil s).symm
  · rw [if_neg h, Int.toNat_natCast, ← more_shift]

theorem join_brackets (a b c : BitVec 32) (n m : Int) (hn : 1 ≤ n) (hm : 1 ≤ m) : join (join a b n) c m = join a (join b c m) (n + m) := by
  unfold join
  rw [if_neg (by omega), if_neg (by omega), if_neg (by omega), if_neg (by omega), iter_xor, ← iter_add]
  have : 8 * n.toNat + 8 * m.toNat = 8 * (n + m).toNat := by omega
  rw [this]; ac_rfl

/-- three rows told apart -/
theorem run_rows (x y z : Nat → Int) (n : Nat) (s t u : BitVec 32)
    (d : Nat → Int) (hd : ∀ i, i < n → BitVec.ofInt 32 (d i) = BitVec.ofInt 32 (x i) ^^^ BitVec.ofInt 32 (y i) ^^^ BitVec.ofInt 32 (z i)) :
    run (s ^^^ t ^^^ u) ((List.range n).map d) = run s ((List.range n).map x) ^^^ run t ((List.range n).map y) ^^^ run u ((List.range n).map z) := by
  induction n with
  | zero => simp [run]
  | succ n ih =>
    simp only [List.range_succ, List.map_append, List.map_cons, List.map_nil, run_append]
    rw [ih (fun i hi => hd i (by omega))]
    show step _ _ = step _ _ ^^^ step _ _ ^^^ step _ _
    unfold step
    rw [hd n (by omega), ← iter_xor, ← iter_xor]
    congr 1; ac_rfl

/-- a byte turned at one place -/
theorem run_set (l : List Int) (i : Nat) (hi : i < l.length) (v : Int) (s : BitVec 32) :
    run s (l.set i v) = run s l ^^^ iter (8 * (l.length - i)) (BitVec.ofInt 32 v ^^^ BitVec.ofInt 32 (l.getD i 0)) := by
  induction l generalizing i s with
  | nil => simp at hi
  | cons c l ih =>
    cases i with
    | zero =>
      show run (step s v) l = run (step s c) l ^^^ _
      have : step s v = step s c ^^^ iter 8 (BitVec.ofInt 32 v ^^^ BitVec.ofInt 32 c) := by
        unfold step
        rw [← iter_xor]; congr 1
        rw [show s ^^^ BitVec.ofInt 32 c ^^^ (BitVec.ofInt 32 v ^^^ BitVec.ofInt 32 c) = (s ^^^ BitVec.ofInt 32 v) ^^^ (BitVec.ofInt 32 c ^^^ BitVec.ofInt 32 c) from by ac_rfl]
        simp
      rw [this, run_xor, ← iter_add]
      congr 2
      simp; omega
    | succ i =>
      show run (step s c) (l.set i v) = run (step s c) l ^^^ _
      rw [ih i (by simpa using hi)]
      congr 2
      simp

theorem more_set (l : List Int) (i : Nat) (hi : i < l.length) (v : Int) (s : BitVec 32) :
    more s (l.set i v) = more s l ^^^ iter (8 * (l.length - i)) (BitVec.ofInt 32 v ^^^ BitVec.ofInt 32 (l.getD i 0)) := by
  unfold more
  rw [run_set l i hi, not_xor]

/-! multiplication -/
def one31 : BitVec 32 := 0x80000000#32

/-- the loop of multiplication: from place i on, so much to go -/
def mulLoop (a : BitVec 32) : Nat → Nat → BitVec 32 → BitVec 32 → BitVec 32
  | 0, _, p, _ => p
  | k + 1, i, p, b => mulLoop a k (i + 1) (if a.getLsbD (31 - i) then p ^^^ b else p) (half b)
def mul (a b : BitVec 32) : BitVec 32 := mulLoop a 32 0 0#32 b

theorem mulLoop_half (a : BitVec 32) (k i : Nat) (p b : BitVec 32) : mulLoop a k i (half p) (half b) = half (mulLoop a k i p b) := by
  induction k generalizing i p b with
  | zero => rfl
  | succ k ih =>
    show mulLoop a k (i + 1) (if _ then half p ^^^ half b else half p) (half (half b)) = half (mulLoop a k (i + 1) _ (half b))
    rw [← ih]
    congr 1
    split
    · rw [half_xor]
    · rfl

theorem mul_half (a b : BitVec 32) : mul a (half b) = half (mul a b) := by
  have := mulLoop_half a 32 0 0#32 b
  rw [half_zero] at this
  exact this

theorem mul_iter (a b : BitVec 32) (n : Nat) : mul a (iter n b) = iter n (mul a b) := by
  induction n generalizing b with
  | zero => rfl
  | succ n ih => show mul a (iter n (half b)) = iter n (half (mul a b)); rw [ih, mul_half]

/-- what lies above a place -/
def above (a : BitVec 32) (i : Nat) : BitVec 32 := (a >>> (32 - i)) <<< (32 - i)

theorem half_shift (i : Nat) (hi : i < 31) : half (one31 >>> i) = one31 >>> (i + 1) := by
  have : ∀ j : Fin 31, half (one31 >>> j.val) = one31 >>> (j.val + 1) := by decide +kernel
  exact this ⟨i, hi⟩

theorem above_succ (a : BitVec 32) (i : Nat) (hi : i < 32) : (if a.getLsbD (31 - i) then above a i ^^^ (one31 >>> i) else above a i) = above a (i + 1) := by
  apply BitVec.eq_of_getLsbD_eq
  intro j hj
  have h1 : (one31 >>> i).getLsbD j = decide (j = 31 - i) := by
    have : ∀ i j : Fin 32, (one31 >>> i.val).getLsbD j.val = decide (j.val = 31 - i.val) := by decide +kernel
    exact this ⟨i, hi⟩ ⟨j, hj⟩
  have h2 : ∀ k, k ≤ 32 → (above a k).getLsbD j = (decide (32 - k ≤ j) && a.getLsbD j) := by
    intro k hk
    simp only [above, BitVec.getLsbD_shiftLeft, BitVec.getLsbD_ushiftRight, hj, decide_true, Bool.true_and]
    by_cases g : j < 32 - k
    · rw [decide_eq_true g, decide_eq_false (by omega)]; rfl
    · rw [decide_eq_false g, decide_eq_true (by omega)]
      rw [show 32 - k + (j - (32 - k)) = j from by omega]; rfl
  rw [h2 (i + 1) (by omega)]
  by_cases g : j = 31 - i
  · subst g
    by_cases h : a.getLsbD (31 - i) = true
    · rw [if_pos h, BitVec.getLsbD_xor, h1, h2 i (by omega), h, decide_eq_true (rfl : 31 - i = 31 - i), decide_eq_false (by omega : ¬ 32 - i ≤ 31 - i), decide_eq_true (by omega : 32 - (i + 1) ≤ 31 - i)]; rfl
    · rw [if_neg h, h2 i (by omega)]
      simp only [Bool.not_eq_true] at h
      rw [h]; simp
  · have e : decide (32 - i ≤ j) = decide (32 - (i + 1) ≤ j) := by
      by_cases q : 32 - i ≤ j
      · rw [decide_eq_true q, decide_eq_true (by omega)]
      · rw [decide_eq_false q, decide_eq_false (by omega)]
    split
    · rw [BitVec.getLsbD_xor, h1, h2 i (by omega), decide_eq_false g, e]; simp
    · rw [h2 i (by omega), e]

theorem mulLoop_one (a : BitVec 32) (k i : Nat) (h : i + k = 32) (b : BitVec 32) (hb : i < 32 → b = one31 >>> i) : mulLoop a k i (above a i) b = a := by
  induction k generalizing i b with
  | zero =>
    have : i = 32 := by omega
    subst this
    show above a 32 = a
    simp [above]
  | succ k ih =>
    show mulLoop a k (i + 1) (if a.getLsbD (31 - i) then above a i ^^^ b else above a i) (half b) = a
    rw [hb (by omega), above_succ a i (by omega)]
    apply ih (i + 1) (by omega)
    intro h2
    exact half_shift i (by omega)

theorem mul_one (a : BitVec 32) : mul a one31 = a := by
  have := mulLoop_one a 32 0 rfl one31 (fun _ => rfl)
  have e : above a 0 = 0#32 := by
    apply BitVec.eq_of_getLsbD_eq
    intro j hj
    simp [above]
  rw [e] at this
  exact this

theorem mul_pow (a : BitVec 32) (n : Nat) : mul a (iter n one31) = iter n a := by
  rw [mul_iter, mul_one]

theorem eighth_eq : 0x800000#32 = iter 8 one31 := by decide +kernel

/-- halving takes a lone bit down to the lowest place -/
theorem iter_bit (k : Nat) (hk : k < 32) : iter k (1#32 <<< k) = 1#32 := by
  have : ∀ j : Fin 32, iter j.val (1#32 <<< j.val) = 1#32 := by decide +kernel
  exact this ⟨k, hk⟩

theorem more_zero_nil : more 0#32 [] = 0#32 := more_nil _

end Go.Proofs.YtpoolpckabpnfaaGreat.K.M
