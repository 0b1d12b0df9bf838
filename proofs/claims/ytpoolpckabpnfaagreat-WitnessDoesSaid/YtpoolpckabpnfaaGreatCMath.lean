/-
  Records and their bytes, as plain mathematics: what a record's bytes are, what is read from bytes, there and back.
-/
namespace Go.Proofs.YtpoolpckabpnfaaGreat.C.M

structure Rc where
  kind : Int
  nums : List Int
  texts : List ByteArray

/-- a number of 64 bits as one without sign -/
def zig (n : Int) : Nat := if n < 0 then (-2 * n - 1).toNat else (2 * n).toNat
def zag (u : Nat) : Int := if u % 2 = 1 then -(u / 2 : Nat) - 1 else (u / 2 : Nat)

def fits (n : Int) : Prop := -9223372036854775808 ≤ n ∧ n ≤ 9223372036854775807

theorem zag_zig (n : Int) : zag (zig n) = n := by unfold zag zig; split <;> split <;> omega
theorem zig_zag (u : Nat) : zig (zag u) = u := by unfold zag zig; split <;> split <;> omega
theorem zig_lt {n : Int} (h : fits n) : zig n < 18446744073709551616 := by unfold fits at h; unfold zig; split <;> omega
theorem zag_fits {u : Nat} (h : u < 18446744073709551616) : fits (zag u) := by unfold fits zag; split <;> omega
theorem zig_inj {a b : Int} (h : zig a = zig b) : a = b := by rw [← zag_zig a, ← zag_zig b, h]

/-- seven bits a byte, the lowest ones first -/
def vb : Nat → Nat → List UInt8
  | 0, u => [UInt8.ofNat u]
  | f + 1, u => if u < 128 then [UInt8.ofNat u] else UInt8.ofNat (u % 128 + 128) :: vb f (u / 128)

def num (n : Int) : List UInt8 := vb 9 (zig n)

theorem vb_pos (f u : Nat) : 0 < (vb f u).length := by
  cases f with
  | zero => simp [vb]
  | succ f => unfold vb; split <;> simp

theorem vb_len (f u : Nat) : (vb f u).length ≤ f + 1 := by
  induction f generalizing u with
  | zero => simp [vb]
  | succ f ih =>
    unfold vb
    split
    · simp
    · have := ih (u / 128); simp; omega

theorem vb_mono (f u v : Nat) (h : u ≤ v) : (vb f u).length ≤ (vb f v).length := by
  induction f generalizing u v with
  | zero => simp [vb]
  | succ f ih =>
    unfold vb
    split
    · split
      · simp
      · simp
    · rename_i hu
      have hv : ¬ v < 128 := by omega
      rw [if_neg hv]
      have := ih (u / 128) (v / 128) (Nat.div_le_div_right h)
      simp; omega

/-- seven bits a byte, read: what is still to come is f bytes more at most; the very first byte may be 0 -/
def rdU : Nat → Bool → List UInt8 → Option (Nat × List UInt8)
  | _, _, [] => none
  | 0, _, c :: l => if c.toNat = 1 then some (1, l) else none
  | f + 1, first, c :: l =>
    if c.toNat < 128 then (if 0 < c.toNat ∨ first = true then some (c.toNat, l) else none)
    else match rdU f false l with
      | some (u, r) => some (c.toNat % 128 + 128 * u, r)
      | none => none

theorem toNat_ofNat {n : Nat} (h : n < 256) : (UInt8.ofNat n).toNat = n := by simp; omega

theorem rdU_vb (f : Nat) (first : Bool) (u : Nat) (x : List UInt8) (hu : u < 2 ^ (7 * f + 1)) (h0 : 0 < u ∨ (first = true ∧ 0 < f)) : rdU f first (vb f u ++ x) = some (u, x) := by
  induction f generalizing u first with
  | zero =>
    have : u = 1 := by
      have : 2 ^ (7 * 0 + 1) = 2 := by decide
      omega
    subst this
    simp [vb, rdU]
  | succ f ih =>
    unfold vb
    split
    · rename_i h
      have h1 : (UInt8.ofNat u).toNat = u := toNat_ofNat (by omega)
      simp only [List.cons_append, List.nil_append, rdU, h1]
      rw [if_pos h, if_pos (by rcases h0 with h0 | h0; exact .inl h0; exact .inr h0.1)]
    · rename_i h
      have h1 : (UInt8.ofNat (u % 128 + 128)).toNat = u % 128 + 128 := toNat_ofNat (by omega)
      simp only [List.cons_append, rdU, h1]
      rw [if_neg (by omega)]
      have hp : 2 ^ (7 * (f + 1) + 1) = 128 * 2 ^ (7 * f + 1) := by
        rw [show 7 * (f + 1) + 1 = 7 + (7 * f + 1) from by omega, Nat.pow_add]
      rw [hp] at hu
      rw [ih false (u / 128) (by omega) (.inl (by omega))]
      simp only [Option.some.injEq, Prod.mk.injEq, and_true]
      omega

theorem vb_rdU (f : Nat) (first : Bool) (l : List UInt8) (u : Nat) (x : List UInt8) (h : rdU f first l = some (u, x)) :
    l = vb f u ++ x ∧ u < 2 ^ (7 * f + 1) ∧ (0 < u ∨ (first = true ∧ 0 < f)) := by
  induction f generalizing l u first with
  | zero =>
    cases l with
    | nil => simp [rdU] at h
    | cons c l =>
      simp only [rdU] at h
      split at h
      · rename_i hc
        simp only [Option.some.injEq, Prod.mk.injEq] at h
        obtain ⟨rfl, rfl⟩ := h
        refine ⟨?_, by decide, .inl (by omega)⟩
        have : c = 1 := by apply UInt8.toNat.inj; exact hc
        subst this
        rfl
      · simp at h
  | succ f ih =>
    cases l with
    | nil => simp [rdU] at h
    | cons c l =>
      have hp : 2 ^ (7 * (f + 1) + 1) = 128 * 2 ^ (7 * f + 1) := by
        rw [show 7 * (f + 1) + 1 = 7 + (7 * f + 1) from by omega, Nat.pow_add]
      have hpos : 0 < 2 ^ (7 * f + 1) := Nat.pos_of_ne_zero (by simp)
      simp only [rdU] at h
      split at h
      · rename_i hc
        split at h
        · rename_i h0
          simp only [Option.some.injEq, Prod.mk.injEq] at h
          obtain ⟨rfl, rfl⟩ := h
          refine ⟨?_, by omega, ?_⟩
          · unfold vb
            rw [if_pos hc]
            simp
          · rcases h0 with h0 | h0
            · exact .inl h0
            · exact .inr ⟨h0, by omega⟩
        · simp at h
      · rename_i hc
        split at h
        · rename_i v r hr
          simp only [Option.some.injEq, Prod.mk.injEq] at h
          obtain ⟨rfl, rfl⟩ := h
          obtain ⟨h1, h2, h3⟩ := ih _ _ _ hr
          have hv : 0 < v := by
            rcases h3 with h3 | h3
            · exact h3
            · exact absurd h3.1 (by simp)
          have hlt := c.toNat_lt
          have hcm : c.toNat % 128 = c.toNat - 128 := by omega
          refine ⟨?_, by rw [hp]; omega, .inl (by omega)⟩
          unfold vb
          rw [if_neg (by omega)]
          have e1 : (c.toNat % 128 + 128 * v) / 128 = v := by omega
          have e2 : (c.toNat % 128 + 128 * v) % 128 + 128 = c.toNat := by omega
          rw [e1, e2, h1]
          simp
        · simp at h

/-- a number, read -/
def rdN (l : List UInt8) : Option (Int × List UInt8) :=
  match rdU 9 true l with
  | some (u, r) => some (zag u, r)
  | none => none

theorem rdN_num {n : Int} (h : fits n) (x : List UInt8) : rdN (num n ++ x) = some (n, x) := by
  unfold rdN num
  rw [rdU_vb 9 true (zig n) x (zig_lt h) (.inr ⟨rfl, by omega⟩)]
  simp [zag_zig]

theorem num_rdN {l : List UInt8} {n : Int} {x : List UInt8} (h : rdN l = some (n, x)) : l = num n ++ x ∧ fits n := by
  unfold rdN at h
  split at h
  · rename_i u r hr
    simp only [Option.some.injEq, Prod.mk.injEq] at h
    obtain ⟨rfl, rfl⟩ := h
    obtain ⟨h1, h2, _⟩ := vb_rdU _ _ _ _ _ hr
    refine ⟨?_, zag_fits h2⟩
    unfold num
    rw [zig_zag]
    exact h1
  · simp at h

/-- a text's bytes -/
def txt (t : ByteArray) : List UInt8 := UInt8.ofNat t.size :: t.data.toList

def rdT : List UInt8 → Option (ByteArray × List UInt8)
  | [] => none
  | c :: l => if c.toNat ≤ 200 ∧ c.toNat ≤ l.length then some (⟨(l.take c.toNat).toArray⟩, l.drop c.toNat) else none

theorem size_list (t : ByteArray) : t.data.toList.length = t.size := by
  rw [Array.length_toList]
  rfl

theorem rdT_txt {t : ByteArray} (h : t.size ≤ 200) (x : List UInt8) : rdT (txt t ++ x) = some (t, x) := by
  have h1 : (UInt8.ofNat t.size).toNat = t.size := toNat_ofNat (by omega)
  have hl := size_list t
  have hc : t.size ≤ 200 ∧ t.size ≤ (t.data.toList ++ x).length := ⟨h, by rw [List.length_append, hl]; omega⟩
  simp only [txt, List.cons_append, rdT, h1]
  rw [if_pos hc]
  have e1 : (t.data.toList ++ x).take t.size = t.data.toList := by rw [← hl, List.take_left]
  have e2 : (t.data.toList ++ x).drop t.size = x := by rw [← hl, List.drop_left]
  rw [e1, e2]

theorem txt_rdT {l : List UInt8} {t : ByteArray} {x : List UInt8} (h : rdT l = some (t, x)) : l = txt t ++ x ∧ t.size ≤ 200 := by
  cases l with
  | nil => simp [rdT] at h
  | cons c l =>
    simp only [rdT] at h
    split at h
    · rename_i hc
      simp only [Option.some.injEq, Prod.mk.injEq] at h
      obtain ⟨rfl, rfl⟩ := h
      have hs : (⟨(l.take c.toNat).toArray⟩ : ByteArray).size = c.toNat := by
        show (l.take c.toNat).toArray.size = _
        simp; omega
      refine ⟨?_, by rw [hs]; exact hc.1⟩
      unfold txt
      rw [hs]
      simp
    · simp at h

def rdNs : Nat → List UInt8 → Option (List Int × List UInt8)
  | 0, l => some ([], l)
  | k + 1, l =>
    match rdN l with
    | some (n, r) => match rdNs k r with
      | some (ns, r') => some (n :: ns, r')
      | none => none
    | none => none

def rdTs : Nat → List UInt8 → Option (List ByteArray × List UInt8)
  | 0, l => some ([], l)
  | k + 1, l =>
    match rdT l with
    | some (n, r) => match rdTs k r with
      | some (ns, r') => some (n :: ns, r')
      | none => none
    | none => none

theorem rdNs_nums (ns : List Int) (x : List UInt8) (h : ∀ n ∈ ns, fits n) : rdNs ns.length (ns.flatMap num ++ x) = some (ns, x) := by
  induction ns with
  | nil => rfl
  | cons n ns ih =>
    simp only [List.flatMap_cons, List.length_cons, rdNs, List.append_assoc]
    rw [rdN_num (h n (by simp))]
    simp only
    rw [ih (fun m hm => h m (by simp [hm]))]

theorem nums_rdNs (k : Nat) (l : List UInt8) (ns : List Int) (x : List UInt8) (h : rdNs k l = some (ns, x)) : l = ns.flatMap num ++ x ∧ ns.length = k ∧ ∀ n ∈ ns, fits n := by
  induction k generalizing l ns with
  | zero => simp [rdNs] at h; obtain ⟨rfl, rfl⟩ := h; simp
  | succ k ih =>
    simp only [rdNs] at h
    split at h
    · rename_i n r hr
      split at h
      · rename_i ns' r' hr'
        simp only [Option.some.injEq, Prod.mk.injEq] at h
        obtain ⟨rfl, rfl⟩ := h
        obtain ⟨h1, h2, h3⟩ := ih _ _ hr'
        obtain ⟨h4, h5⟩ := num_rdN hr
        refine ⟨by rw [h4, h1]; simp [List.flatMap_cons], by simp [h2], fun m hm => ?_⟩
        rcases List.mem_cons.1 hm with rfl | hm
        · exact h5
        · exact h3 m hm
      · simp at h
    · simp at h

theorem rdTs_texts (ts : List ByteArray) (x : List UInt8) (h : ∀ t ∈ ts, t.size ≤ 200) : rdTs ts.length (ts.flatMap txt ++ x) = some (ts, x) := by
  induction ts with
  | nil => rfl
  | cons n ns ih =>
    simp only [List.flatMap_cons, List.length_cons, rdTs, List.append_assoc]
    rw [rdT_txt (h n (by simp))]
    simp only
    rw [ih (fun m hm => h m (by simp [hm]))]

theorem texts_rdTs (k : Nat) (l : List UInt8) (ts : List ByteArray) (x : List UInt8) (h : rdTs k l = some (ts, x)) : l = ts.flatMap txt ++ x ∧ ts.length = k ∧ ∀ t ∈ ts, t.size ≤ 200 := by
  induction k generalizing l ts with
  | zero => simp [rdTs] at h; obtain ⟨rfl, rfl⟩ := h; simp
  | succ k ih =>
    simp only [rdTs] at h
    split at h
    · rename_i n r hr
      split at h
      · rename_i ns' r' hr'
        simp only [Option.some.injEq, Prod.mk.injEq] at h
        obtain ⟨rfl, rfl⟩ := h
        obtain ⟨h1, h2, h3⟩ := ih _ _ hr'
        obtain ⟨h4, h5⟩ := txt_rdT hr
        refine ⟨by rw [h4, h1]; simp [List.flatMap_cons], by simp [h2], fun m hm => ?_⟩
        rcases List.mem_cons.1 hm with rfl | hm
        · exact h5
        · exact h3 m hm
      · simp at h
    · simp at h

/-- the byte that counts -/
def cnt (n t : Nat) : Nat := if n = 16 then 240 + t else n + 16 * t

def May (r : Rc) : Prop := 0 ≤ r.kind ∧ r.kind ≤ 255 ∧ r.nums.length ≤ 16 ∧ r.texts.length ≤ 4 ∧ ∀ t ∈ r.texts, t.size ≤ 200
def Fits (r : Rc) : Prop := ∀ n ∈ r.nums, fits n

def enc (r : Rc) : List UInt8 := UInt8.ofNat r.kind.toNat :: UInt8.ofNat (cnt r.nums.length r.texts.length) :: (r.nums.flatMap num ++ r.texts.flatMap txt)

def cN (c : Nat) : Nat := if 240 ≤ c then 16 else c % 16
def cT (c : Nat) : Nat := if 240 ≤ c then c - 240 else c / 16

def rdR : List UInt8 → Option (Rc × List UInt8)
  | k :: c :: l =>
    if cT c.toNat ≤ 4 then
      match rdNs (cN c.toNat) l with
      | some (ns, r) => match rdTs (cT c.toNat) r with
        | some (ts, r') => some (⟨k.toNat, ns, ts⟩, r')
        | none => none
      | none => none
    else none
  | _ => none

theorem rdR_enc {r : Rc} (hm : May r) (hf : Fits r) (x : List UInt8) : rdR (enc r ++ x) = some (r, x) := by
  obtain ⟨k, ns, ts⟩ := r
  obtain ⟨h1, h2, h3, h4, h5⟩ := hm
  simp only at h1 h2 h3 h4 h5
  have hc : cnt ns.length ts.length < 256 := by unfold cnt; split <;> omega
  have hk : (UInt8.ofNat k.toNat).toNat = k.toNat := toNat_ofNat (by omega)
  have e0 : (UInt8.ofNat (cnt ns.length ts.length)).toNat = cnt ns.length ts.length := toNat_ofNat hc
  have e1 : cN (cnt ns.length ts.length) = ns.length := by unfold cN cnt; split <;> split <;> omega
  have e2 : cT (cnt ns.length ts.length) = ts.length := by unfold cT cnt; split <;> split <;> omega
  simp only [enc, List.cons_append, rdR, hk, e0, e1, e2, List.append_assoc]
  rw [if_pos h4, rdNs_nums ns _ hf]
  simp only
  rw [rdTs_texts ts x h5]
  simp only [Option.some.injEq, Prod.mk.injEq, Rc.mk.injEq, and_true]
  omega

theorem enc_rdR {l : List UInt8} {r : Rc} {x : List UInt8} (h : rdR l = some (r, x)) : May r ∧ Fits r ∧ l = enc r ++ x := by
  match l, h with
  | k :: c :: l, h =>
    simp only [rdR] at h
    split at h
    · rename_i ht
      split at h
      · rename_i ns r1 hr1
        split at h
        · rename_i ts r2 hr2
          simp only [Option.some.injEq, Prod.mk.injEq] at h
          obtain ⟨rfl, rfl⟩ := h
          obtain ⟨a1, a2, a3⟩ := nums_rdNs _ _ _ _ hr1
          obtain ⟨b1, b2, b3⟩ := texts_rdTs _ _ _ _ hr2
          have hkl := k.toNat_lt
          have hcl := c.toNat_lt
          have hn : ns.length ≤ 16 := by rw [a2]; unfold cN; split <;> omega
          refine ⟨⟨by simp, by simp only; omega, hn, by rw [b2]; exact ht, b3⟩, a3, ?_⟩
          have e : cnt ns.length ts.length = c.toNat := by rw [a2, b2]; unfold cnt cN cT; split <;> split <;> omega
          simp only [enc, e, List.cons_append, List.append_assoc]
          rw [a1, b1]
          simp
        · simp at h
      · simp at h
    · simp at h

/-- which record bytes are -/
def dec (l : List UInt8) : Option Rc :=
  match rdR l with
  | some (r, []) => some r
  | _ => none

theorem dec_enc {r : Rc} (hm : May r) (hf : Fits r) : dec (enc r) = some r := by
  have := rdR_enc hm hf []
  rw [List.append_nil] at this
  simp [dec, this]

theorem enc_dec {l : List UInt8} {r : Rc} (h : dec l = some r) : May r ∧ Fits r ∧ l = enc r := by
  unfold dec at h
  split at h
  · rename_i r' hr
    simp only [Option.some.injEq] at h
    subst h
    have := enc_rdR hr
    simpa using this
  · simp at h

theorem dec_more {r : Rc} (hm : May r) (hf : Fits r) (x : List UInt8) (hx : x ≠ []) : dec (enc r ++ x) = none := by
  unfold dec
  rw [rdR_enc hm hf]
  cases x with
  | nil => exact absurd rfl hx
  | cons c x => rfl

theorem enc_apart {r s : Rc} (hm : May r) (hf : Fits r) (hm' : May s) (hf' : Fits s) (x : List UInt8) (h : enc s = enc r ++ x) : r = s ∧ x = [] := by
  have h1 := rdR_enc hm hf x
  have h2 := rdR_enc hm' hf' []
  rw [List.append_nil, h, h1] at h2
  simpa using h2

theorem dec_cut {r : Rc} (hm : May r) (hf : Fits r) (n : Nat) (hn : n < (enc r).length) : dec ((enc r).take n) = none := by
  cases h : dec ((enc r).take n) with
  | none => rfl
  | some s =>
    obtain ⟨h1, h2, h3⟩ := enc_dec h
    have h4 := enc_apart h1 h2 hm hf ((enc r).drop n) (by rw [← h3, List.take_append_drop])
    have := congrArg List.length h4.2
    simp at this
    omega

theorem enc_len (r : Rc) : (enc r).length = 2 + (r.nums.map fun n => (num n).length).sum + (r.texts.map fun t => 1 + t.size).sum := by
  have e : ∀ ts : List ByteArray, (ts.flatMap txt).length = (ts.map fun t => 1 + t.size).sum := by
    intro ts
    induction ts with
    | nil => rfl
    | cons t ts ih =>
      have := size_list t
      rw [List.flatMap_cons, List.length_append, ih, List.map_cons, List.sum_cons, txt, List.length_cons]
      omega
  simp only [enc, List.length_cons, List.length_append, List.length_flatMap]
  have := e r.texts
  rw [List.length_flatMap] at this
  omega

theorem num_len (n : Int) : 1 ≤ (num n).length ∧ (num n).length ≤ 10 := ⟨vb_pos _ _, vb_len _ _⟩

theorem num_inj {a b : Int} (ha : fits a) (hb : fits b) (h : num a = num b) : a = b := by
  have h1 := rdN_num ha []
  have h2 := rdN_num hb []
  rw [h, h2] at h1
  simpa using h1.symm

theorem sum_le {α : Type} (l : List α) (f : α → Nat) (k : Nat) (h : ∀ x ∈ l, f x ≤ k) : (l.map f).sum ≤ l.length * k := by
  induction l with
  | nil => simp
  | cons x l ih =>
    have h1 := h x (by simp)
    have h2 := ih (fun y hy => h y (by simp [hy]))
    simp only [List.map_cons, List.sum_cons, List.length_cons, Nat.add_mul, Nat.one_mul]
    omega

theorem enc_le {r : Rc} (h : May r) : 2 ≤ (enc r).length ∧ (enc r).length ≤ 1000 := by
  rw [enc_len]
  have h1 := sum_le r.nums (fun n => (num n).length) 10 (fun n _ => (num_len n).2)
  have h2 := sum_le r.texts (fun t => 1 + t.size) 201 (fun t ht => by have := h.2.2.2.2 t ht; omega)
  have h3 := h.2.2.1
  have h4 := h.2.2.2.1
  omega
end Go.Proofs.YtpoolpckabpnfaaGreat.C.M
