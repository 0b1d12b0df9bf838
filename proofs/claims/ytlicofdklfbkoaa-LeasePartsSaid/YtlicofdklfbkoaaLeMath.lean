/-
  Plain mathematics of two clocks' ticks and of how long to wait.
-/
import Derived.WalkKit
namespace Go.Proofs.Ytlicofdklfbkoaa.Le
set_option linter.unusedVariables false

/-- a number of thousandths by which clocks may go together -/
def isD (d : Int) : Bool := decide (0 ≤ d) && decide (d ≤ 999)
theorem isD_iff {d : Int} : isD d = true ↔ 0 ≤ d ∧ d ≤ 999 := by simp [isD]

/-! how long to wait -/
def wq (n d : Int) : Int := (n * (1000 + d)).tdiv (1000 - d)
def waitOk (n d : Int) : Bool := decide (0 ≤ n) && decide (n ≤ 1099511627776) && isD d
theorem waitOk_iff {n d : Int} : waitOk n d = true ↔ 0 ≤ n ∧ n ≤ 1099511627776 ∧ 0 ≤ d ∧ d ≤ 999 := by simp [waitOk, isD, and_assoc]
def waitV (n d : Int) : Int := if waitOk n d then wq n d + 1 else 0
def waitE (n d : Int) : Int := if waitOk n d then 0 else 1

/-- the number whose product fits -/
theorem wq_le {n d : Int} (hn : 0 ≤ n) (h0 : 0 ≤ d) (h9 : d ≤ 999) : wq n d * (1000 - d) ≤ n * (1000 + d) := by
  unfold wq
  have hp : 0 ≤ n * (1000 + d) := Int.mul_nonneg hn (by omega)
  rw [Int.tdiv_eq_ediv_of_nonneg hp]
  exact Int.ediv_mul_le _ (by omega)
theorem wq_lt {n d : Int} (hn : 0 ≤ n) (h0 : 0 ≤ d) (h9 : d ≤ 999) : n * (1000 + d) < (wq n d + 1) * (1000 - d) := by
  unfold wq
  have hp : 0 ≤ n * (1000 + d) := Int.mul_nonneg hn (by omega)
  rw [Int.tdiv_eq_ediv_of_nonneg hp]
  exact Int.lt_ediv_add_one_mul_self _ (by omega)
theorem le_wq {n d q : Int} (hn : 0 ≤ n) (h0 : 0 ≤ d) (h9 : d ≤ 999) (h : q * (1000 - d) ≤ n * (1000 + d)) : q ≤ wq n d := by
  have h1 := wq_lt hn h0 h9
  have h2 : q * (1000 - d) < (wq n d + 1) * (1000 - d) := by omega
  have h3 := Int.lt_of_mul_lt_mul_right h2 (by omega)
  omega
theorem wq_nonneg {n d : Int} (hn : 0 ≤ n) (h0 : 0 ≤ d) (h9 : d ≤ 999) : 0 ≤ wq n d :=
  le_wq hn h0 h9 (by have := Int.mul_nonneg hn (show 0 ≤ 1000 + d by omega); omega)
/-- the bounds of what is reckoned -/
theorem prod_le {n d : Int} (hn : 0 ≤ n) (hm : n ≤ 1099511627776) (h0 : 0 ≤ d) (h9 : d ≤ 999) : 0 ≤ n * (1000 + d) ∧ n * (1000 + d) ≤ 2197923743924224 := by
  refine ⟨Int.mul_nonneg hn (by omega), ?_⟩
  have h1 : n * (1000 + d) ≤ n * 1999 := Int.mul_le_mul_of_nonneg_left (by omega) hn
  omega
theorem wq_max {n d : Int} (hn : 0 ≤ n) (hm : n ≤ 1099511627776) (h0 : 0 ≤ d) (h9 : d ≤ 999) : wq n d ≤ 2197923743924224 := by
  have h1 := wq_le hn h0 h9
  have h2 := prod_le hn hm h0 h9
  have h3 := wq_nonneg hn h0 h9
  have h4 : wq n d * 1 ≤ wq n d * (1000 - d) := Int.mul_le_mul_of_nonneg_left (by omega) h3
  omega
theorem wq_ge {n d : Int} (hn : 0 ≤ n) (h0 : 0 ≤ d) (h9 : d ≤ 999) : n ≤ wq n d :=
  le_wq hn h0 h9 (Int.mul_le_mul_of_nonneg_left (by omega) hn)
theorem wq_zero {n : Int} (hn : 0 ≤ n) : wq n 0 = n := by
  have h1 := wq_ge hn (show (0 : Int) ≤ 0 by omega) (by omega)
  have h2 := wq_le hn (show (0 : Int) ≤ 0 by omega) (by omega)
  omega
theorem wq_mono {n m d f : Int} (hn : 0 ≤ n) (hd : 0 ≤ d) (hf : f ≤ 999) (h1 : n ≤ m) (h2 : d ≤ f) : wq n d ≤ wq m f := by
  have hq := wq_nonneg hn hd (show d ≤ 999 by omega)
  refine le_wq (by omega) (by omega) hf ?_
  have a1 : wq n d * (1000 - f) ≤ wq n d * (1000 - d) := Int.mul_le_mul_of_nonneg_left (by omega) hq
  have a2 := wq_le hn hd (show d ≤ 999 by omega)
  have a3 : n * (1000 + d) ≤ n * (1000 + f) := Int.mul_le_mul_of_nonneg_left (by omega) hn
  have a4 : n * (1000 + f) ≤ m * (1000 + f) := Int.mul_le_mul_of_nonneg_right h1 (by omega)
  omega
theorem wq_add {n m d : Int} (hn : 0 ≤ n) (hm : 0 ≤ m) (h0 : 0 ≤ d) (h9 : d ≤ 999) : wq n d + wq m d ≤ wq (n + m) d ∧ wq (n + m) d ≤ wq n d + wq m d + 1 := by
  refine ⟨le_wq (by omega) h0 h9 ?_, ?_⟩
  · have a1 := wq_le hn h0 h9
    have a2 := wq_le hm h0 h9
    rw [Int.add_mul, Int.add_mul]
    omega
  · have a1 := wq_lt hn h0 h9
    have a2 := wq_lt hm h0 h9
    have a3 := wq_le (show 0 ≤ n + m by omega) h0 h9
    rw [Int.add_mul] at a3
    have a4 : wq (n + m) d * (1000 - d) < (wq n d + 1 + (wq m d + 1)) * (1000 - d) := by rw [Int.add_mul]; omega
    have := Int.lt_of_mul_lt_mul_right a4 (by omega)
    omega
/-- who has waited so long has seen the other one's ticks -/
theorem safe {n d a b : Int} (hn : 0 ≤ n) (h0 : 0 ≤ d) (h9 : d ≤ 999) (hg : a * (1000 - d) ≤ (b + 1) * (1000 + d)) (ha : wq n d + 1 ≤ a) : n ≤ b := by
  have a1 := wq_lt hn h0 h9
  have a2 : (wq n d + 1) * (1000 - d) ≤ a * (1000 - d) := Int.mul_le_mul_of_nonneg_right ha (by omega)
  have a3 : n * (1000 + d) < (b + 1) * (1000 + d) := by omega
  have := Int.lt_of_mul_lt_mul_right a3 (by omega)
  omega

/-! how far one clock comes ahead: the program's loop -/
def sc (ah : Bool) (d : Int) (t : Bool) : Int := if t = ah then 1000 - d else -(1000 + d)
def run (ah : Bool) (d : Int) : Int → Int → List Bool → Int
  | _, m, [] => m
  | n, m, t :: l => run ah d (max (n + sc ah d t) 0) (max m (max (n + sc ah d t) 0)) l
def lead (l : List Bool) (ah : Bool) (d : Int) : Int := run ah d 0 0 l
def tog (l : List Bool) (d : Int) : Bool := isD d && (decide (lead l true d ≤ 1000 + d) && decide (lead l false d ≤ 1000 + d))

theorem run_mono (ah : Bool) {d f : Int} (hdf : d ≤ f) : ∀ (l : List Bool) (n n' m m' : Int), n' ≤ n → m' ≤ m → run ah f n' m' l ≤ run ah d n m l
  | [], _, _, _, _, _, hm => hm
  | t :: l, n, n', m, m', hn, hm => by
    have hs : sc ah f t ≤ sc ah d t := by unfold sc; split <;> omega
    exact run_mono ah hdf l _ _ _ _ (by omega) (by omega)
theorem run_ge (ah : Bool) (d : Int) : ∀ (l : List Bool) (n m : Int), m ≤ run ah d n m l
  | [], _, _ => Int.le_refl _
  | t :: l, n, m => by
    have := run_ge ah d l (max (n + sc ah d t) 0) (max m (max (n + sc ah d t) 0))
    simp only [run]
    omega
theorem run_take (ah : Bool) (d : Int) : ∀ (l : List Bool) (c : Nat) (n m : Int), run ah d n m (l.take c) ≤ run ah d n m l
  | l, 0, n, m => by simpa [run] using run_ge ah d l n m
  | [], c + 1, n, m => by simp
  | t :: l, c + 1, n, m => by simpa only [List.take_succ_cons, run] using run_take ah d l c _ _
theorem run_drop (ah : Bool) (d : Int) : ∀ (l : List Bool) (c : Nat) (n m : Int), 0 ≤ n → 0 ≤ m → run ah d 0 0 (l.drop c) ≤ run ah d n m l
  | l, 0, n, m, hn, hm => by rw [List.drop_zero]; exact run_mono ah (Int.le_refl _) l n 0 m 0 hn hm
  | [], c + 1, n, m, hn, hm => by simpa [run] using hm
  | t :: l, c + 1, n, m, hn, hm => by
    simp only [List.drop_succ_cons, run]
    exact run_drop ah d l c _ _ (by omega) (by omega)
theorem lead_part (l : List Bool) (a c : Nat) (ah : Bool) (d : Int) : lead ((l.drop a).take c) ah d ≤ lead l ah d :=
  Int.le_trans (run_take ah d _ c 0 0) (run_drop ah d l a 0 0 (Int.le_refl _) (Int.le_refl _))
theorem tog_part {l : List Bool} {d : Int} (a c : Nat) (h : tog l d = true) : tog ((l.drop a).take c) d = true := by
  unfold tog at h ⊢
  simp only [Bool.and_eq_true, decide_eq_true_eq] at h ⊢
  exact ⟨h.1, Int.le_trans (lead_part l a c true d) h.2.1, Int.le_trans (lead_part l a c false d) h.2.2⟩
theorem run_not (ah : Bool) (d : Int) : ∀ (l : List Bool) (n m : Int), run ah d n m (l.map (!·)) = run (!ah) d n m l
  | [], _, _ => rfl
  | t :: l, n, m => by
    have hs : sc ah d (!t) = sc (!ah) d t := by cases t <;> cases ah <;> rfl
    simp only [List.map_cons, run, hs]
    exact run_not ah d l _ _
theorem tog_not (l : List Bool) (d : Int) : tog (l.map (!·)) d = tog l d := by
  unfold tog lead
  rw [run_not, run_not, Bool.not_true, Bool.not_false, Bool.and_comm (decide _)]
theorem tog_more {l : List Bool} {d f : Int} (hdf : d ≤ f) (hf : f ≤ 999) (h : tog l d = true) : tog l f = true := by
  unfold tog at h ⊢
  simp only [Bool.and_eq_true, decide_eq_true_eq, isD_iff] at h ⊢
  have m1 : lead l true f ≤ lead l true d := run_mono true hdf l 0 0 0 0 (Int.le_refl _) (Int.le_refl _)
  have m2 : lead l false f ≤ lead l false d := run_mono false hdf l 0 0 0 0 (Int.le_refl _) (Int.le_refl _)
  omega
/-- ticks in turn -/
def alt : Bool → Nat → List Bool
  | _, 0 => []
  | b, k + 1 => b :: alt (!b) k
theorem run_alt (ah : Bool) {d : Int} (h0 : 0 ≤ d) (h9 : d ≤ 999) : ∀ (k : Nat) (b : Bool) (n m : Int), m ≤ 1000 - d → 0 ≤ n → n ≤ 1000 - d → (b = ah → n = 0) → run ah d n m (alt b k) ≤ 1000 - d
  | 0, b, n, m, hm, _, _, _ => hm
  | k + 1, b, n, m, hm, h1, h2, hb => by
    simp only [alt, run]
    by_cases e : b = ah
    · have := hb e
      have hs : sc ah d b = 1000 - d := by unfold sc; rw [if_pos e]
      rw [hs]
      exact run_alt ah h0 h9 k (!b) _ _ (by omega) (by omega) (by omega) (fun g => by subst e; cases b <;> simp at g)
    · have hs : sc ah d b = -(1000 + d) := by unfold sc; rw [if_neg e]
      rw [hs]
      exact run_alt ah h0 h9 k (!b) _ _ (by omega) (by omega) (by omega) (fun _ => by omega)
theorem alt_eq : ∀ (k : Nat) (b : Bool), alt b k = (List.range k).map fun i => (i % 2 == 0) == b
  | 0, _ => rfl
  | k + 1, b => by
    rw [alt, alt_eq k, List.range_succ_eq_map, List.map_cons, List.map_map]
    congr 1
    · cases b <;> rfl
    · apply List.map_congr_left
      intro i _
      simp only [Function.comp, Nat.succ_eq_add_one]
      rcases Nat.mod_two_eq_zero_or_one i with h | h <;> (have h' : (i + 1) % 2 = 1 - i % 2 := by omega) <;> rw [h', h] <;> cases b <;> rfl
theorem tog_alt {d : Int} (h0 : 0 ≤ d) (h9 : d ≤ 999) (k : Nat) : tog ((List.range k).map fun i => i % 2 == 0) d = true := by
  have e : ((List.range k).map fun i => i % 2 == 0) = alt true k := by
    rw [alt_eq]
    apply List.map_congr_left
    intro i _
    simp
  rw [e]
  unfold tog lead
  simp only [Bool.and_eq_true, decide_eq_true_eq, isD_iff]
  have m1 := run_alt true h0 h9 k true 0 0 (by omega) (by omega) (by omega) (fun _ => rfl)
  have m2 := run_alt false h0 h9 k true 0 0 (by omega) (by omega) (by omega) (fun _ => rfl)
  omega

/-! the document's own count -/
/-- how many ticks of one clock from place `i` up to place `k` -/
def cn (l : List Bool) (i k : Nat) (x : Bool) : Nat := ((l.take k).drop i).count x
theorem cn_self (l : List Bool) (i : Nat) (x : Bool) : cn l i i x = 0 := by
  unfold cn
  rw [List.drop_eq_nil_of_le (by simp; omega)]
  rfl
theorem cn_step {l : List Bool} {i k : Nat} {t : Bool} (h : l[k]? = some t) (hi : i ≤ k) (x : Bool) : cn l i (k + 1) x = cn l i k x + if t = x then 1 else 0 := by
  unfold cn
  have hk := (List.getElem?_eq_some_iff.1 h).1
  rw [List.take_add_one, h, List.drop_append_of_le_length (by simp; omega)]
  simp [List.count_append, List.count_cons]
theorem cn_le (l : List Bool) (i k : Nat) (x : Bool) : cn l i k x ≤ k := by
  unfold cn
  refine Nat.le_trans List.count_le_length ?_
  simp
  omega
/-- what the document asks of ticks -/
def Ok (l : List Bool) (d : Int) (i k : Nat) : Prop := (cn l i k true : Int) * (1000 - d) ≤ ((cn l i k false : Int) + 1) * (1000 + d)
def Go (l : List Bool) (d : Int) : Prop := (0 ≤ d ∧ d ≤ 999) ∧ ∀ i k, i ≤ k → k ≤ l.length → Ok l d i k
theorem ok_self {l : List Bool} {d : Int} (h0 : 0 ≤ d) (i : Nat) : Ok l d i i := by
  unfold Ok
  rw [cn_self, cn_self]
  simp
  omega
end Go.Proofs.Ytlicofdklfbkoaa.Le
