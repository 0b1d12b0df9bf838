/-
  Plain mathematics of rows of places: the marks of a row are the bits of one number; what is marked, what comes next, a row's text, and which row a text is.
-/
namespace Go.Proofs.YtcofahpeinkhfaaGreat.B.M
set_option linter.unusedVariables false
set_option linter.unusedSimpArgs false

/-- which are marked, rising -/
def all (n m : Nat) : List Nat := (List.range n).filter fun k => m.testBit k

theorem all_zero (m : Nat) : all 0 m = [] := rfl
theorem all_yes {k m : Nat} (h : m.testBit k = true) : all (k + 1) m = all k m ++ [k] := by simp [all, List.range_succ, List.filter_append, h]
theorem all_no {k m : Nat} (h : m.testBit k = false) : all (k + 1) m = all k m := by simp [all, List.range_succ, List.filter_append, h]
theorem all_len (n m : Nat) : (all n m).length ≤ n := by
  have := List.length_filter_le (fun k => m.testBit k) (List.range n)
  simpa [all] using this
theorem all_mem {n m k : Nat} : k ∈ all n m ↔ k < n ∧ m.testBit k = true := by simp [all]
theorem all_none (n : Nat) : all n 0 = [] := by simp [all]
theorem all_gap {m : Nat} : ∀ {k j : Nat}, j ≤ k → (∀ x, j ≤ x → x < k → m.testBit x = false) → all k m = all j m
  | 0, j, hj, _ => by obtain rfl : j = 0 := by omega
                      rfl
  | k + 1, j, hj, h => by
    rcases Nat.lt_or_ge j (k + 1) with hlt | hge
    · rw [all_no (h k (by omega) (by omega))]
      exact all_gap (by omega) fun x h1 h2 => h x h1 (by omega)
    · obtain rfl : j = k + 1 := by omega
      rfl
theorem all_more {m m' : Nat} (h : ∀ k, m.testBit k = true → m'.testBit k = true) (n : Nat) : (all n m).length ≤ (all n m').length := by
  unfold all
  rw [← List.countP_eq_length_filter, ← List.countP_eq_length_filter]
  exact List.countP_mono_left fun x _ hx => h x hx

/-- the first marked one from i on -/
def next (n m : Nat) (i : Int) : Option Nat := (List.range n).find? fun k => decide (i ≤ (k : Int)) && m.testBit k
def nextI (n m : Nat) (i : Int) : Int := match next n m i with | some k => (k : Int) | none => 0
def nextB (n m : Nat) (i : Int) : Bool := (next n m i).isSome

theorem next_some {n m k : Nat} {i : Int} (hk : k < n) (h1 : i ≤ (k : Int)) (h2 : m.testBit k = true) (h3 : ∀ j, j < k → i ≤ (j : Int) → m.testBit j = false) : next n m i = some k := by
  unfold next
  rw [List.find?_range_eq_some]
  refine ⟨by simp [h1, h2], by simpa using hk, fun j hj => ?_⟩
  by_cases hi : i ≤ (j : Int)
  · simp [h3 j hj hi]
  · simp [hi]
theorem next_none {n m : Nat} {i : Int} (h3 : ∀ j, j < n → i ≤ (j : Int) → m.testBit j = false) : next n m i = none := by
  unfold next
  rw [List.find?_eq_none]
  intro j hj
  have hj := List.mem_range.1 hj
  by_cases hi : i ≤ (j : Int)
  · simp [h3 j hj hi]
  · simp [hi]
theorem next_is {n m k : Nat} {i : Int} (h : next n m i = some k) : k < n ∧ i ≤ (k : Int) ∧ m.testBit k = true ∧ ∀ j, j < k → i ≤ (j : Int) → m.testBit j = false := by
  unfold next at h
  rw [List.find?_range_eq_some] at h
  obtain ⟨h1, h2, h3⟩ := h
  simp at h1 h2 h3
  refine ⟨h2, h1.1, h1.2, fun j hj hi => ?_⟩
  have := h3 j hj
  rcases this with h | h
  · omega
  · exact h
theorem next_isn {n m : Nat} {i : Int} (h : next n m i = none) : ∀ j, j < n → i ≤ (j : Int) → m.testBit j = false := by
  intro j hj hi
  unfold next at h
  rw [List.find?_eq_none] at h
  have := h j (List.mem_range.2 hj)
  simpa [hi] using this

/-! one place turned -/
def put (m i : Nat) : Nat := m ||| 2 ^ i
def del (m i : Nat) : Nat := m &&& (18446744073709551615 - 2 ^ i)
theorem put_bit (m i j : Nat) : (put m i).testBit j = (m.testBit j || decide (i = j)) := by simp [put, Nat.testBit_or, Nat.testBit_two_pow]
theorem del_bit {m i : Nat} (hi : i < 64) (hm : m < 2 ^ 64) (j : Nat) : (del m i).testBit j = (m.testBit j && !decide (i = j)) := by
  have hp : 2 ^ i < 2 ^ 64 := Nat.pow_lt_pow_right (by omega) hi
  have e : 18446744073709551615 - 2 ^ i = 2 ^ 64 - (2 ^ i + 1) := by omega
  unfold del
  rw [Nat.testBit_and, e, Nat.testBit_two_pow_sub_succ hp, Nat.testBit_two_pow]
  by_cases hj : j < 64
  · simp [hj]
  · have : m.testBit j = false := Nat.testBit_lt_two_pow (Nat.lt_of_lt_of_le hm (Nat.pow_le_pow_right (by omega) (by omega)))
    simp [this]
theorem put_lt {n m i : Nat} (hm : m < 2 ^ n) (hi : i < n) : put m i < 2 ^ n := Nat.or_lt_two_pow hm (Nat.pow_lt_pow_right (by omega) hi)
theorem del_lt {n m i : Nat} (hm : m < 2 ^ n) : del m i < 2 ^ n := Nat.lt_of_le_of_lt Nat.and_le_left hm
theorem or_lt {n m k : Nat} (hm : m < 2 ^ n) (hk : k < 2 ^ n) : m ||| k < 2 ^ n := Nat.or_lt_two_pow hm hk
theorem lt64 {n m : Nat} (hn : n ≤ 64) (hm : m < 2 ^ n) : m < 2 ^ 64 := Nat.lt_of_lt_of_le hm (Nat.pow_le_pow_right (by omega) hn)
theorem bit_off {n m j : Nat} (hm : m < 2 ^ n) (hj : n ≤ j) : m.testBit j = false := Nat.testBit_lt_two_pow (Nat.lt_of_lt_of_le hm (Nat.pow_le_pow_right (by omega) hj))
theorem same_bits {m k : Nat} (h : ∀ j, m.testBit j = k.testBit j) : m = k := Nat.eq_of_testBit_eq h
theorem del_put {m i : Nat} (hi : i < 64) (hm : m < 2 ^ 64) : del (put m i) i = del m i := by
  have hp : put m i < 2 ^ 64 := put_lt hm hi
  refine same_bits fun j => ?_
  rw [del_bit hi hp, del_bit hi hm, put_bit]
  by_cases h : i = j <;> simp [h]
theorem put_more (m i k : Nat) (h : m.testBit k = true) : (put m i).testBit k = true := by rw [put_bit, h]; rfl
theorem mod_succ_yes {b k : Nat} (h : b.testBit k = true) : b % 2 ^ (k + 1) = put (b % 2 ^ k) k := by
  refine same_bits fun j => ?_
  rw [put_bit, Nat.testBit_mod_two_pow, Nat.testBit_mod_two_pow]
  by_cases e : k = j
  · subst e; simp [h]
  · by_cases hj : j < k
    · have h1 : j < k + 1 := by omega
      simp [hj, h1, e]
    · have h1 : ¬ j < k + 1 := by omega
      simp [hj, h1, e]
theorem mod_succ_no {b k : Nat} (h : b.testBit k = false) : b % 2 ^ (k + 1) = b % 2 ^ k := by
  refine same_bits fun j => ?_
  rw [Nat.testBit_mod_two_pow, Nat.testBit_mod_two_pow]
  by_cases e : k = j
  · subst e; simp [h]
  · by_cases hj : j < k
    · have h1 : j < k + 1 := by omega
      simp [hj, h1]
    · have h1 : ¬ j < k + 1 := by omega
      simp [hj, h1]
theorem bit_is (m i : Nat) : m.testBit i = decide (m / 2 ^ i % 2 = 1) := Nat.testBit_eq_decide_div_mod_eq

/-! bytes -/
def byte (m j : Nat) : UInt8 := UInt8.ofNat (m >>> (8 * j))
def bytes (c m : Nat) : List UInt8 := (List.range c).map (byte m)
def size (n : Nat) : Nat := 1 + (n + 7) / 8
def txt (n m : Nat) : List UInt8 := UInt8.ofNat n :: bytes ((n + 7) / 8) m
theorem bytes_len (c m : Nat) : (bytes c m).length = c := by simp [bytes]
theorem txt_len (n m : Nat) : (txt n m).length = size n := by simp [txt, bytes_len, size]; omega
theorem byte_bit (m j k : Nat) : (byte m j).toNat.testBit k = (decide (k < 8) && m.testBit (8 * j + k)) := by
  unfold byte
  rw [UInt8.toNat_ofNat', Nat.testBit_mod_two_pow, Nat.testBit_shiftRight]
theorem byte_put (m i j : Nat) : (byte (put m i) j).toNat = if j = i / 8 then (byte m j).toNat ||| 2 ^ (i % 8) else (byte m j).toNat := by
  refine same_bits fun k => ?_
  rw [byte_bit, put_bit]
  by_cases hj : j = i / 8
  · rw [if_pos hj, Nat.testBit_or, byte_bit, Nat.testBit_two_pow]
    by_cases hk : k < 8
    · by_cases e : i % 8 = k
      · have : i = 8 * j + k := by omega
        simp [hk, e, this]
      · have : ¬ i = 8 * j + k := by omega
        simp [hk, e, this]
    · have : ¬ i % 8 = k := by omega
      simp [hk, this]
  · rw [if_neg hj, byte_bit]
    by_cases hk : k < 8
    · have : ¬ i = 8 * j + k := by omega
      simp [this]
    · simp [hk]
theorem bytes_zero (c : Nat) : bytes c 0 = List.replicate c 0 := by
  refine List.ext_getElem (by simp [bytes]) fun i h1 h2 => ?_
  simp [bytes, byte]
theorem bytes_get {c m j : Nat} (hj : j < c) : (bytes c m)[j]? = some (byte m j) := by simp [bytes, hj]
theorem bytes_put {c m i : Nat} (hi : i / 8 < c) : bytes c (put m i) = (bytes c m).set (i / 8) (UInt8.ofNat ((byte m (i / 8)).toNat ||| 2 ^ (i % 8))) := by
  refine List.ext_getElem (by simp [bytes]) fun j h1 h2 => ?_
  rw [List.getElem_set]
  have hb := byte_put m i j
  by_cases hj : i / 8 = j
  · subst hj
    rw [if_pos rfl] at hb ⊢
    simp only [bytes, List.getElem_map, List.getElem_range]
    rw [← hb, UInt8.ofNat_toNat]
  · rw [if_neg (fun e => hj e.symm)] at hb
    rw [if_neg hj]
    simp only [bytes, List.getElem_map, List.getElem_range]
    exact UInt8.toNat_inj.1 hb

/-- the number that bytes are -/
def val : List UInt8 → Nat
  | [] => 0
  | c :: r => c.toNat + 256 * val r
theorem val_lt : ∀ l : List UInt8, val l < 2 ^ (8 * l.length)
  | [] => by simp [val]
  | c :: r => by
    have := val_lt r
    have hc : c.toNat < 256 := UInt8.toNat_lt c
    have e : 2 ^ (8 * (c :: r).length) = 256 * 2 ^ (8 * r.length) := by rw [List.length_cons, Nat.mul_add, Nat.pow_add]; omega
    rw [e]
    simp only [val]
    omega
theorem val_bit : ∀ (l : List UInt8) (j k : Nat), k < 8 → (val l).testBit (8 * j + k) = ((l[j]?.map fun c => c.toNat.testBit k).getD false)
  | [], j, k, _ => by simp [val]
  | c :: r, 0, k, hk => by
    have hc : c.toNat < 2 ^ 8 := UInt8.toNat_lt c
    have e : c.toNat + 256 * val r = 2 ^ 8 * val r + c.toNat := by omega
    simp only [val, Nat.mul_zero, Nat.zero_add]
    rw [e, Nat.testBit_two_pow_mul_add _ hc, if_pos hk]
    simp
  | c :: r, j + 1, k, hk => by
    have hc : c.toNat < 2 ^ 8 := UInt8.toNat_lt c
    have e : c.toNat + 256 * val r = 2 ^ 8 * val r + c.toNat := by omega
    simp only [val]
    rw [e, Nat.testBit_two_pow_mul_add _ hc, if_neg (by omega), show 8 * (j + 1) + k - 8 = 8 * j + k by omega, val_bit r j k hk]
    simp
theorem bytes_val (l : List UInt8) : bytes l.length (val l) = l := by
  refine List.ext_getElem (by simp [bytes]) fun j h1 h2 => ?_
  simp only [bytes, List.getElem_map, List.getElem_range]
  refine UInt8.toNat_inj.1 (same_bits fun k => ?_)
  rw [byte_bit]
  by_cases hk : k < 8
  · rw [val_bit l j k hk, List.getElem?_eq_getElem h2]
    simp [hk]
  · have : (l[j]).toNat.testBit k = false := Nat.testBit_lt_two_pow (Nat.lt_of_lt_of_le (UInt8.toNat_lt _) (Nat.pow_le_pow_right (by omega) (by omega : 8 ≤ k)))
    rw [this]; simp [hk]
theorem val_bytes {c m : Nat} (hm : m < 2 ^ (8 * c)) : val (bytes c m) = m := by
  refine same_bits fun i => ?_
  have hi : i = 8 * (i / 8) + i % 8 := by omega
  rw [hi, val_bit _ _ _ (by omega)]
  by_cases hc : i / 8 < c
  · rw [bytes_get hc]
    simp only [Option.map_some, Option.getD_some]
    rw [byte_bit, ← hi]
    have : i % 8 < 8 := by omega
    simp [this]
  · have hl : (bytes c m)[i / 8]? = none := List.getElem?_eq_none (by rw [bytes_len]; omega)
    rw [hl, ← hi, bit_off hm (by omega)]
    rfl
theorem bytes_inj {c m k : Nat} (hm : m < 2 ^ (8 * c)) (hk : k < 2 ^ (8 * c)) (h : bytes c m = bytes c k) : m = k := by
  rw [← val_bytes hm, h, val_bytes hk]
theorem cover (n : Nat) : n ≤ 8 * ((n + 7) / 8) := by omega
theorem lt_cover {n m : Nat} (hm : m < 2 ^ n) : m < 2 ^ (8 * ((n + 7) / 8)) := Nat.lt_of_lt_of_le hm (Nat.pow_le_pow_right (by omega) (cover n))
theorem txt_inj {n m k : Nat} (hm : m < 2 ^ n) (hk : k < 2 ^ n) (h : txt n m = txt n k) : m = k := by
  unfold txt at h
  injection h with _ h
  exact bytes_inj (lt_cover hm) (lt_cover hk) h

/-- which row a text is -/
def load : List UInt8 → Option (Nat × Nat)
  | [] => none
  | c :: r => if c.toNat ≤ 64 ∧ r.length = (c.toNat + 7) / 8 ∧ val r < 2 ^ c.toNat then some (c.toNat, val r) else none
def loadN (s : List UInt8) : Nat := match load s with | some p => p.1 | none => 0
def loadM (s : List UInt8) : Nat := match load s with | some p => p.2 | none => 0
def loadE (s : List UInt8) : Int := match load s with | some _ => 0 | none => 4
theorem load_cons (c : UInt8) (r : List UInt8) : load (c :: r) = if c.toNat ≤ 64 ∧ r.length = (c.toNat + 7) / 8 ∧ val r < 2 ^ c.toNat then some (c.toNat, val r) else none := rfl
theorem load_txt {n m : Nat} (hn : n ≤ 64) (hm : m < 2 ^ n) : load (txt n m) = some (n, m) := by
  have hc : (UInt8.ofNat n).toNat = n := by rw [UInt8.toNat_ofNat']; omega
  have hv : val (bytes ((n + 7) / 8) m) = m := val_bytes (lt_cover hm)
  unfold txt
  rw [load_cons, hc, hv, bytes_len, if_pos ⟨hn, rfl, hm⟩]
theorem load_is {s : List UInt8} {n m : Nat} (h : load s = some (n, m)) : n ≤ 64 ∧ m < 2 ^ n ∧ txt n m = s := by
  match s, h with
  | c :: r, h =>
    rw [load_cons] at h
    by_cases hc : c.toNat ≤ 64 ∧ r.length = (c.toNat + 7) / 8 ∧ val r < 2 ^ c.toNat
    · rw [if_pos hc] at h
      obtain ⟨h1, h2, h3⟩ := hc
      simp only [Option.some.injEq, Prod.mk.injEq] at h
      obtain ⟨rfl, rfl⟩ := h
      refine ⟨h1, h3, ?_⟩
      unfold txt
      rw [UInt8.ofNat_toNat, ← h2, bytes_val]
    · rw [if_neg hc] at h
      cases h
theorem load_ok (s : List UInt8) : loadN s ≤ 64 ∧ loadM s < 2 ^ loadN s := by
  unfold loadN loadM
  rcases h : load s with _ | ⟨n, m⟩
  · simp
  · obtain ⟨h1, h2, _⟩ := load_is h
    exact ⟨h1, h2⟩
/-- what is read place by place is the text just if no bit behind is 1 -/
theorem read_text {c : UInt8} {r : List UInt8} (h1 : r.length = (c.toNat + 7) / 8) : (txt c.toNat (val r % 2 ^ c.toNat) = c :: r) ↔ val r < 2 ^ c.toNat := by
  have hb : bytes ((c.toNat + 7) / 8) (val r) = r := by rw [← h1, bytes_val]
  have hv : val r < 2 ^ (8 * ((c.toNat + 7) / 8)) := by rw [← h1]; exact val_lt r
  constructor
  · intro h
    unfold txt at h
    injection h with _ h
    have hm : val r % 2 ^ c.toNat < 2 ^ c.toNat := Nat.mod_lt _ (Nat.pow_pos (by omega))
    rw [← hb] at h
    have := bytes_inj (lt_cover hm) hv (by rw [hb] at h ⊢; exact h)
    omega
  · intro h
    unfold txt
    rw [Nat.mod_eq_of_lt h, UInt8.ofNat_toNat, hb]

/-- a row of n places, if n may be -/
def len (n : Int) : Nat := if 0 ≤ n ∧ n ≤ 64 then n.toNat else 0
theorem len_le (n : Int) : len n ≤ 64 := by unfold len; split <;> omega
end Go.Proofs.YtcofahpeinkhfaaGreat.B.M
