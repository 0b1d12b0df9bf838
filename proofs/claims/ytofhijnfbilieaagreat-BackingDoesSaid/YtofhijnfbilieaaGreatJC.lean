/-
  Records and their bytes, as plain mathematics: what a record's bytes are, what is read from bytes, there and back.
  Lists in memory: a slice that reads as a list of values, and what stays of it; slices that a call makes itself, and what an append onto one leaves.
  What the reader's small steps do: need, take, next, counts, text: each answers, or panics with the error that there is no record. CONDITIONS: the reader holds a row of bytes.
  What reading a number does: it answers the number that the bytes are, or panics, where they are none. CONDITIONS: the reader holds a row of bytes.
  What stays of the reader and of a record that is being read, step by step.
  What reading a record does: it answers the record that the bytes begin with, or panics, where there is none. CONDITIONS: the reader holds a row of bytes.
  Decode answers the record that the bytes are, or the error, where they are none; nothing that was there changes. CONDITIONS: none (any row of bytes).
  May, count, and the statements' own 'large' answer as the document says. CONDITIONS: none (any record).
  Number answers a number's bytes. CONDITIONS: none (any number of 64 bits).
  Encode and Size answer a record's bytes and how many they are, or the error, where it may not be. CONDITIONS: none (any record).
  The statements' own first calls are answered as the document says. CONDITIONS: none.
-/
import Derived.Test.YtofhijnfbilieaaGreatProg
import Derived.WalkKit
import Derived.Lib.Hide
import Derived.Below
import Derived.Maps.AppendAt
import Derived.OwnWalk
import Derived.Lib.AppendStr
import Derived.Laws.BytesString
import Derived.WalkLawsBesides
import Derived.Defers
import Derived.Recover
import Derived.Laws.Bits64b
import Derived.Deep.RegionLaw
import Derived.Deep.RegionHeld3
import Derived.RegionDies
import Derived.StillTactics
import Derived.WalkSpells
import Derived.Laws.BitsAllLaws
namespace Go.Proofs.YtofhijnfbilieaaGreat.C.M

structure Rc where
  kind : Int
  nums : List Int
  texts : List ByteArray

/-- a number of 64 bits as one without sign -/
def zig (n : Int) : Nat := if n < 0 then (-2 * n - 1).toNat else (2 * n).toNat
def zag (u : Nat) : Int := if u % 2 = 1 then -(u / 2 : Nat) - 1 else (u / 2 : Nat)

def fits (n : Int) : Prop := -9223372036854775808 ≤ n ∧ n ≤ 9223372036854775807

theorem zag_zig (n : Int) : zag (zig n) = n := by unfold zag zig; split <;> split <;> omega
theorem zig_zag (u : Nat) : zig (zag u) = u := by unfold zag zig; split <;> split <;> omega
theorem zig_lt {n : Int} (h : fits n) : zig n < 18446744073709551616 := by unfold fits at h; unfold zig; split <;> omega
theorem zag_fits {u : Nat} (h : u < 18446744073709551616) : fits (zag u) := by unfold fits zag; split <;> omega
theorem zig_inj {a b : Int} (h : zig a = zig b) : a = b := by rw [← zag_zig a, ← zag_zig b, h]

/-- seven bits a byte, the lowest ones first -/
def vb : Nat → Nat → List UInt8
  | 0, u => [UInt8.ofNat u]
  | f + 1, u => if u < 128 then [UInt8.ofNat u] else UInt8.ofNat (u % 128 + 128) :: vb f (u / 128)

def num (n : Int) : List UInt8 := vb 9 (zig n)

theorem vb_pos (f u : Nat) : 0 < (vb f u).length := by
  cases f with
  | zero => simp [vb]
  | succ f => unfold vb; split <;> simp

theorem vb_len (f u : Nat) : (vb f u).length ≤ f + 1 := by
  induction f generalizing u with
  | zero => simp [vb]
  | succ f ih =>
    unfold vb
    split
    · simp
    · have := ih (u / 128); simp; omega

theorem vb_mono (f u v : Nat) (h : u ≤ v) : (vb f u).length ≤ (vb f v).length := by
  induction f generalizing u v with
  | zero => simp [vb]
  | succ f ih =>
    unfold vb
    split
    · split
      · simp
      · simp
    · rename_i hu
      have hv : ¬ v < 128 := by omega
      rw [if_neg hv]
      have := ih (u / 128) (v / 128) (Nat.div_le_div_right h)
      simp; omega

/-- seven bits a byte, read: what is still to come is f bytes more at most; the very first byte may be 0 -/
def rdU : Nat → Bool → List UInt8 → Option (Nat × List UInt8)
  | _, _, [] => none
  | 0, _, c :: l => if c.toNat = 1 then some (1, l) else none
  | f + 1, first, c :: l =>
    if c.toNat < 128 then (if 0 < c.toNat ∨ first = true then some (c.toNat, l) else none)
    else match rdU f false l with
      | some (u, r) => some (c.toNat % 128 + 128 * u, r)
      | none => none

theorem toNat_ofNat {n : Nat} (h : n < 256) : (UInt8.ofNat n).toNat = n := by simp; omega

theorem rdU_vb (f : Nat) (first : Bool) (u : Nat) (x : List UInt8) (hu : u < 2 ^ (7 * f + 1)) (h0 : 0 < u ∨ (first = true ∧ 0 < f)) : rdU f first (vb f u ++ x) = some (u, x) := by
  induction f generalizing u first with
  | zero =>
    have : u = 1 := by
      have : 2 ^ (7 * 0 + 1) = 2 := by decide
      omega
    subst this
    simp [vb, rdU]
  | succ f ih =>
    unfold vb
    split
    · rename_i h
      have h1 : (UInt8.ofNat u).toNat = u := toNat_ofNat (by omega)
      simp only [List.cons_append, List.nil_append, rdU, h1]
      rw [if_pos h, if_pos (by rcases h0 with h0 | h0; exact .inl h0; exact .inr h0.1)]
    · rename_i h
      have h1 : (UInt8.ofNat (u % 128 + 128)).toNat = u % 128 + 128 := toNat_ofNat (by omega)
      simp only [List.cons_append, rdU, h1]
      rw [if_neg (by omega)]
      have hp : 2 ^ (7 * (f + 1) + 1) = 128 * 2 ^ (7 * f + 1) := by
        rw [show 7 * (f + 1) + 1 = 7 + (7 * f + 1) from by omega, Nat.pow_add]
      rw [hp] at hu
      rw [ih false (u / 128) (by omega) (.inl (by omega))]
      simp only [Option.some.injEq, Prod.mk.injEq, and_true]
      omega

theorem vb_rdU (f : Nat) (first : Bool) (l : List UInt8) (u : Nat) (x : List UInt8) (h : rdU f first l = some (u, x)) :
    l = vb f u ++ x ∧ u < 2 ^ (7 * f + 1) ∧ (0 < u ∨ (first = true ∧ 0 < f)) := by
  induction f generalizing l u first with
  | zero =>
    cases l with
    | nil => simp [rdU] at h
    | cons c l =>
      simp only [rdU] at h
      split at h
      · rename_i hc
        simp only [Option.some.injEq, Prod.mk.injEq] at h
        obtain ⟨rfl, rfl⟩ := h
        refine ⟨?_, by decide, .inl (by omega)⟩
        have : c = 1 := by apply UInt8.toNat.inj; exact hc
        subst this
        rfl
      · simp at h
  | succ f ih =>
    cases l with
    | nil => simp [rdU] at h
    | cons c l =>
      have hp : 2 ^ (7 * (f + 1) + 1) = 128 * 2 ^ (7 * f + 1) := by
        rw [show 7 * (f + 1) + 1 = 7 + (7 * f + 1) from by omega, Nat.pow_add]
      have hpos : 0 < 2 ^ (7 * f + 1) := Nat.pos_of_ne_zero (by simp)
      simp only [rdU] at h
      split at h
      · rename_i hc
        split at h
        · rename_i h0
          simp only [Option.some.injEq, Prod.mk.injEq] at h
          obtain ⟨rfl, rfl⟩ := h
          refine ⟨?_, by omega, ?_⟩
          · unfold vb
            rw [if_pos hc]
            simp
          · rcases h0 with h0 | h0
            · exact .inl h0
            · exact .inr ⟨h0, by omega⟩
        · simp at h
      · rename_i hc
        split at h
        · rename_i v r hr
          simp only [Option.some.injEq, Prod.mk.injEq] at h
          obtain ⟨rfl, rfl⟩ := h
          obtain ⟨h1, h2, h3⟩ := ih _ _ _ hr
          have hv : 0 < v := by
            rcases h3 with h3 | h3
            · exact h3
            · exact absurd h3.1 (by simp)
          have hlt := c.toNat_lt
          have hcm : c.toNat % 128 = c.toNat - 128 := by omega
          refine ⟨?_, by rw [hp]; omega, .inl (by omega)⟩
          unfold vb
          rw [if_neg (by omega)]
          have e1 : (c.toNat % 128 + 128 * v) / 128 = v := by omega
          have e2 : (c.toNat % 128 + 128 * v) % 128 + 128 = c.toNat := by omega
          rw [e1, e2, h1]
          simp
        · simp at h

/-- a number, read -/
def rdN (l : List UInt8) : Option (Int × List UInt8) :=
  match rdU 9 true l with
  | some (u, r) => some (zag u, r)
  | none => none

theorem rdN_num {n : Int} (h : fits n) (x : List UInt8) : rdN (num n ++ x) = some (n, x) := by
  unfold rdN num
  rw [rdU_vb 9 true (zig n) x (zig_lt h) (.inr ⟨rfl, by omega⟩)]
  simp [zag_zig]

theorem num_rdN {l : List UInt8} {n : Int} {x : List UInt8} (h : rdN l = some (n, x)) : l = num n ++ x ∧ fits n := by
  unfold rdN at h
  split at h
  · rename_i u r hr
    simp only [Option.some.injEq, Prod.mk.injEq] at h
    obtain ⟨rfl, rfl⟩ := h
    obtain ⟨h1, h2, _⟩ := vb_rdU _ _ _ _ _ hr
    refine ⟨?_, zag_fits h2⟩
    unfold num
    rw [zig_zag]
    exact h1
  · simp at h

/-- a text's bytes -/
def txt (t : ByteArray) : List UInt8 := UInt8.ofNat t.size :: t.data.toList

def rdT : List UInt8 → Option (ByteArray × List UInt8)
  | [] => none
  | c :: l => if c.toNat ≤ 200 ∧ c.toNat ≤ l.length then some (⟨(l.take c.toNat).toArray⟩, l.drop c.toNat) else none

theorem size_list (t : ByteArray) : t.data.toList.length = t.size := by
  rw [Array.length_toList]
  rfl

theorem rdT_txt {t : ByteArray} (h : t.size ≤ 200) (x : List UInt8) : rdT (txt t ++ x) = some (t, x) := by
  have h1 : (UInt8.ofNat t.size).toNat = t.size := toNat_ofNat (by omega)
  have hl := size_list t
  have hc : t.size ≤ 200 ∧ t.size ≤ (t.data.toList ++ x).length := ⟨h, by rw [List.length_append, hl]; omega⟩
  simp only [txt, List.cons_append, rdT, h1]
  rw [if_pos hc]
  have e1 : (t.data.toList ++ x).take t.size = t.data.toList := by rw [← hl, List.take_left]
  have e2 : (t.data.toList ++ x).drop t.size = x := by rw [← hl, List.drop_left]
  rw [e1, e2]

theorem txt_rdT {l : List UInt8} {t : ByteArray} {x : List UInt8} (h : rdT l = some (t, x)) : l = txt t ++ x ∧ t.size ≤ 200 := by
  cases l with
  | nil => simp [rdT] at h
  | cons c l =>
    simp only [rdT] at h
    split at h
    · rename_i hc
      simp only [Option.some.injEq, Prod.mk.injEq] at h
      obtain ⟨rfl, rfl⟩ := h
      have hs : (⟨(l.take c.toNat).toArray⟩ : ByteArray).size = c.toNat := by
        show (l.take c.toNat).toArray.size = _
        simp; omega
      refine ⟨?_, by rw [hs]; exact hc.1⟩
      unfold txt
      rw [hs]
      simp
    · simp at h

def rdNs : Nat → List UInt8 → Option (List Int × List UInt8)
  | 0, l => some ([], l)
  | k + 1, l =>
    match rdN l with
    | some (n, r) => match rdNs k r with
      | some (ns, r') => some (n :: ns, r')
      | none => none
    | none => none

def rdTs : Nat → List UInt8 → Option (List ByteArray × List UInt8)
  | 0, l => some ([], l)
  | k + 1, l =>
    match rdT l with
    | some (n, r) => match rdTs k r with
      | some (ns, r') => some (n :: ns, r')
      | none => none
    | none => none

theorem rdNs_nums (ns : List Int) (x : List UInt8) (h : ∀ n ∈ ns, fits n) : rdNs ns.length (ns.flatMap num ++ x) = some (ns, x) := by
  induction ns with
  | nil => rfl
  | cons n ns ih =>
    simp only [List.flatMap_cons, List.length_cons, rdNs, List.append_assoc]
    rw [rdN_num (h n (by simp))]
    simp only
    rw [ih (fun m hm => h m (by simp [hm]))]

theorem nums_rdNs (k : Nat) (l : List UInt8) (ns : List Int) (x : List UInt8) (h : rdNs k l = some (ns, x)) : l = ns.flatMap num ++ x ∧ ns.length = k ∧ ∀ n ∈ ns, fits n := by
  induction k generalizing l ns with
  | zero => simp [rdNs] at h; obtain ⟨rfl, rfl⟩ := h; simp
  | succ k ih =>
    simp only [rdNs] at h
    split at h
    · rename_i n r hr
      split at h
      · rename_i ns' r' hr'
        simp only [Option.some.injEq, Prod.mk.injEq] at h
        obtain ⟨rfl, rfl⟩ := h
        obtain ⟨h1, h2, h3⟩ := ih _ _ hr'
        obtain ⟨h4, h5⟩ := num_rdN hr
        refine ⟨by rw [h4, h1]; simp [List.flatMap_cons], by simp [h2], fun m hm => ?_⟩
        rcases List.mem_cons.1 hm with rfl | hm
        · exact h5
        · exact h3 m hm
      · simp at h
    · simp at h

theorem rdTs_texts (ts : List ByteArray) (x : List UInt8) (h : ∀ t ∈ ts, t.size ≤ 200) : rdTs ts.length (ts.flatMap txt ++ x) = some (ts, x) := by
  induction ts with
  | nil => rfl
  | cons n ns ih =>
    simp only [List.flatMap_cons, List.length_cons, rdTs, List.append_assoc]
    rw [rdT_txt (h n (by simp))]
    simp only
    rw [ih (fun m hm => h m (by simp [hm]))]

theorem texts_rdTs (k : Nat) (l : List UInt8) (ts : List ByteArray) (x : List UInt8) (h : rdTs k l = some (ts, x)) : l = ts.flatMap txt ++ x ∧ ts.length = k ∧ ∀ t ∈ ts, t.size ≤ 200 := by
  induction k generalizing l ts with
  | zero => simp [rdTs] at h; obtain ⟨rfl, rfl⟩ := h; simp
  | succ k ih =>
    simp only [rdTs] at h
    split at h
    · rename_i n r hr
      split at h
      · rename_i ns' r' hr'
        simp only [Option.some.injEq, Prod.mk.injEq] at h
        obtain ⟨rfl, rfl⟩ := h
        obtain ⟨h1, h2, h3⟩ := ih _ _ hr'
        obtain ⟨h4, h5⟩ := txt_rdT hr
        refine ⟨by rw [h4, h1]; simp [List.flatMap_cons], by simp [h2], fun m hm => ?_⟩
        rcases List.mem_cons.1 hm with rfl | hm
        · exact h5
        · exact h3 m hm
      · simp at h
    · simp at h

/-- the byte that counts -/
def cnt (n t : Nat) : Nat := if n = 16 then 240 + t else n + 16 * t

def May (r : Rc) : Prop := 0 ≤ r.kind ∧ r.kind ≤ 255 ∧ r.nums.length ≤ 16 ∧ r.texts.length ≤ 4 ∧ ∀ t ∈ r.texts, t.size ≤ 200
def Fits (r : Rc) : Prop := ∀ n ∈ r.nums, fits n

def enc (r : Rc) : List UInt8 := UInt8.ofNat r.kind.toNat :: UInt8.ofNat (cnt r.nums.length r.texts.length) :: (r.nums.flatMap num ++ r.texts.flatMap txt)

def cN (c : Nat) : Nat := if 240 ≤ c then 16 else c % 16
def cT (c : Nat) : Nat := if 240 ≤ c then c - 240 else c / 16

def rdR : List UInt8 → Option (Rc × List UInt8)
  | k :: c :: l =>
    if cT c.toNat ≤ 4 then
      match rdNs (cN c.toNat) l with
      | some (ns, r) => match rdTs (cT c.toNat) r with
        | some (ts, r') => some (⟨k.toNat, ns, ts⟩, r')
        | none => none
      | none => none
    else none
  | _ => none

theorem rdR_enc {r : Rc} (hm : May r) (hf : Fits r) (x : List UInt8) : rdR (enc r ++ x) = some (r, x) := by
  obtain ⟨k, ns, ts⟩ := r
  obtain ⟨h1, h2, h3, h4, h5⟩ := hm
  simp only at h1 h2 h3 h4 h5
  have hc : cnt ns.length ts.length < 256 := by unfold cnt; split <;> omega
  have hk : (UInt8.ofNat k.toNat).toNat = k.toNat := toNat_ofNat (by omega)
  have e0 : (UInt8.ofNat (cnt ns.length ts.length)).toNat = cnt ns.length ts.length := toNat_ofNat hc
  have e1 : cN (cnt ns.length ts.length) = ns.length := by unfold cN cnt; split <;> split <;> omega
  have e2 : cT (cnt ns.length ts.length) = ts.length := by unfold cT cnt; split <;> split <;> omega
  simp only [enc, List.cons_append, rdR, hk, e0, e1, e2, List.append_assoc]
  rw [if_pos h4, rdNs_nums ns _ hf]
  simp only
  rw [rdTs_texts ts x h5]
  simp only [Option.some.injEq, Prod.mk.injEq, Rc.mk.injEq, and_true]
  omega

theorem enc_rdR {l : List UInt8} {r : Rc} {x : List UInt8} (h : rdR l = some (r, x)) : May r ∧ Fits r ∧ l = enc r ++ x := by
  match l, h with
  | k :: c :: l, h =>
    simp only [rdR] at h
    split at h
    · rename_i ht
      split at h
      · rename_i ns r1 hr1
        split at h
        · rename_i ts r2 hr2
          simp only [Option.some.injEq, Prod.mk.injEq] at h
          obtain ⟨rfl, rfl⟩ := h
          obtain ⟨a1, a2, a3⟩ := nums_rdNs _ _ _ _ hr1
          obtain ⟨b1, b2, b3⟩ := texts_rdTs _ _ _ _ hr2
          have hkl := k.toNat_lt
          have hcl := c.toNat_lt
          have hn : ns.length ≤ 16 := by rw [a2]; unfold cN; split <;> omega
          refine ⟨⟨by simp, by simp only; omega, hn, by rw [b2]; exact ht, b3⟩, a3, ?_⟩
          have e : cnt ns.length ts.length = c.toNat := by rw [a2, b2]; unfold cnt cN cT; split <;> split <;> omega
          simp only [enc, e, List.cons_append, List.append_assoc]
          rw [a1, b1]
          simp
        · simp at h
      · simp at h
    · simp at h

/-- which record bytes are -/
def dec (l : List UInt8) : Option Rc :=
  match rdR l with
  | some (r, []) => some r
  | _ => none

theorem dec_enc {r : Rc} (hm : May r) (hf : Fits r) : dec (enc r) = some r := by
  have := rdR_enc hm hf []
  rw [List.append_nil] at this
  simp [dec, this]

theorem enc_dec {l : List UInt8} {r : Rc} (h : dec l = some r) : May r ∧ Fits r ∧ l = enc r := by
  unfold dec at h
  split at h
  · rename_i r' hr
    simp only [Option.some.injEq] at h
    subst h
    have := enc_rdR hr
    simpa using this
  · simp at h

theorem dec_more {r : Rc} (hm : May r) (hf : Fits r) (x : List UInt8) (hx : x ≠ []) : dec (enc r ++ x) = none := by
  unfold dec
  rw [rdR_enc hm hf]
  cases x with
  | nil => exact absurd rfl hx
  | cons c x => rfl

theorem enc_apart {r s : Rc} (hm : May r) (hf : Fits r) (hm' : May s) (hf' : Fits s) (x : List UInt8) (h : enc s = enc r ++ x) : r = s ∧ x = [] := by
  have h1 := rdR_enc hm hf x
  have h2 := rdR_enc hm' hf' []
  rw [List.append_nil, h, h1] at h2
  simpa using h2

theorem dec_cut {r : Rc} (hm : May r) (hf : Fits r) (n : Nat) (hn : n < (enc r).length) : dec ((enc r).take n) = none := by
  cases h : dec ((enc r).take n) with
  | none => rfl
  | some s =>
    obtain ⟨h1, h2, h3⟩ := enc_dec h
    have h4 := enc_apart h1 h2 hm hf ((enc r).drop n) (by rw [← h3, List.take_append_drop])
    have := congrArg List.length h4.2
    simp at this
    omega

theorem enc_len (r : Rc) : (enc r).length = 2 + (r.nums.map fun n => (num n).length).sum + (r.texts.map fun t => 1 + t.size).sum := by
  have e : ∀ ts : List ByteArray, (ts.flatMap txt).length = (ts.map fun t => 1 + t.size).sum := by
    intro ts
    induction ts with
    | nil => rfl
    | cons t ts ih =>
      have := size_list t
      rw [List.flatMap_cons, List.length_append, ih, List.map_cons, List.sum_cons, txt, List.length_cons]
      omega
  simp only [enc, List.length_cons, List.length_append, List.length_flatMap]
  have := e r.texts
  rw [List.length_flatMap] at this
  omega

theorem num_len (n : Int) : 1 ≤ (num n).length ∧ (num n).length ≤ 10 := ⟨vb_pos _ _, vb_len _ _⟩

theorem num_inj {a b : Int} (ha : fits a) (hb : fits b) (h : num a = num b) : a = b := by
  have h1 := rdN_num ha []
  have h2 := rdN_num hb []
  rw [h, h2] at h1
  simpa using h1.symm

theorem sum_le {α : Type} (l : List α) (f : α → Nat) (k : Nat) (h : ∀ x ∈ l, f x ≤ k) : (l.map f).sum ≤ l.length * k := by
  induction l with
  | nil => simp
  | cons x l ih =>
    have h1 := h x (by simp)
    have h2 := ih (fun y hy => h y (by simp [hy]))
    simp only [List.map_cons, List.sum_cons, List.length_cons, Nat.add_mul, Nat.one_mul]
    omega

theorem enc_le {r : Rc} (h : May r) : 2 ≤ (enc r).length ∧ (enc r).length ≤ 1000 := by
  rw [enc_len]
  have h1 := sum_le r.nums (fun n => (num n).length) 10 (fun n _ => (num_len n).2)
  have h2 := sum_le r.texts (fun t => 1 + t.size) 201 (fun t ht => by have := h.2.2.2.2 t ht; omega)
  have h3 := h.2.2.1
  have h4 := h.2.2.2.1
  omega
end Go.Proofs.YtofhijnfbilieaaGreat.C.M
namespace Go.Proofs.YtofhijnfbilieaaGreat.C
open Go.RowKit
set_option linter.unusedVariables false
set_option linter.unusedSimpArgs false
set_option maxRecDepth 20000

theorem u8_info : (Tryz.prog.info? 5).map (fun i => (i.zero, i.size, i.bytes)) = some (some (.int .u8 0), 1, 1) := by kernel_rfl
theorem i64_info : (Tryz.prog.info? 2).map (fun i => (i.zero, i.size, i.bytes)) = some (some (.int .i64 0), 1, 8) := by kernel_rfl
theorem str_info : (Tryz.prog.info? 9).map (fun i => (i.zero, i.size, i.bytes)) = some (some (.string ⟨#[]⟩), 1, 16) := by kernel_rfl

def u8 (c : UInt8) : Value := .int .u8 (c.toNat : Int)
def u8s (l : List UInt8) : List Value := l.map u8
def i64s (l : List Int) : List Value := l.map (Value.int .i64)
def strs (l : List ByteArray) : List Value := l.map Value.string

theorem u8s_length (l : List UInt8) : (u8s l).length = l.length := List.length_map _
theorem i64s_length (l : List Int) : (i64s l).length = l.length := List.length_map _
theorem strs_length (l : List ByteArray) : (strs l).length = l.length := List.length_map _
theorem u8s_append (l m : List UInt8) : u8s (l ++ m) = u8s l ++ u8s m := List.map_append
theorem i64s_append (l m : List Int) : i64s (l ++ m) = i64s l ++ i64s m := List.map_append
theorem strs_append (l m : List ByteArray) : strs (l ++ m) = strs l ++ strs m := List.map_append

/-- the slice at a, of length n, reads as vs -/
def Row (w : World) (a : Option Addr) (n cap : Nat) (vs : List Value) : Prop :=
  vs.length = n ∧ n ≤ cap ∧ cap ≤ maxLen ∧ (vs = [] ∨ ∃ b off, a = some ⟨b, off, none⟩ ∧ b < w.heap.size ∧ ∀ i, i < n → w.cell? ⟨b, off + i, none⟩ = vs[i]?)

theorem row_below {w w' : World} {B : Nat} {a : Option Addr} {n cap : Nat} {vs : List Value} (h : Row w a n cap vs) (hb : Below B w w') (hB : w.heap.size ≤ B) : Row w' a n cap vs := by
  obtain ⟨h1, h2, h3, h4⟩ := h
  refine ⟨h1, h2, h3, ?_⟩
  rcases h4 with h4 | ⟨b, off, ha, hlt, hc⟩
  · exact .inl h4
  · exact .inr ⟨b, off, ha, Nat.lt_of_lt_of_le hlt hb.size, fun i hi => by rw [hb.cell (p := ⟨b, off + i, none⟩) (Nat.lt_of_lt_of_le hlt hB)]; exact hc i hi⟩

theorem row_same {w w' : World} {a : Option Addr} {n cap : Nat} {vs : List Value} (h : Row w a n cap vs) (hs : w'.heap = w.heap) : Row w' a n cap vs := by
  obtain ⟨h1, h2, h3, h4⟩ := h
  refine ⟨h1, h2, h3, ?_⟩
  rcases h4 with h4 | ⟨b, off, ha, hlt, hc⟩
  · exact .inl h4
  · exact .inr ⟨b, off, ha, by rw [hs]; exact hlt, fun i hi => by rw [← hc i hi]; simp [World.cell?, hs]⟩

def adv (a : Option Addr) (cap k : Nat) : Option Addr := if cap = k then a else a.map (·.add k)

theorem row_drop {w : World} {a : Option Addr} {n cap : Nat} {vs : List Value} (h : Row w a n cap vs) (k : Nat) (hk : k ≤ n) : Row w (adv a cap k) (n - k) (cap - k) (vs.drop k) := by
  obtain ⟨h1, h2, h3, h4⟩ := h
  refine ⟨by rw [List.length_drop, h1], by omega, by omega, ?_⟩
  by_cases h0 : n = k
  · exact .inl (List.eq_nil_of_length_eq_zero (by rw [List.length_drop]; omega))
  · rcases h4 with h4 | ⟨b, off, ha, hlt, hc⟩
    · subst h4; simp at h1; omega
    · refine .inr ⟨b, off + k, ?_, hlt, fun i hi => ?_⟩
      · unfold adv
        rw [if_neg (by omega), ha]
        by_cases g : k = 0 <;> simp [Addr.add, g]
      · rw [Nat.add_assoc, hc (k + i) (by omega), List.getElem?_drop]

theorem row_take {w : World} {a : Option Addr} {n cap : Nat} {vs : List Value} (h : Row w a n cap vs) (k : Nat) (hk : k ≤ n) : Row w (adv a cap 0) k cap (vs.take k) := by
  obtain ⟨h1, h2, h3, h4⟩ := h
  refine ⟨by rw [List.length_take]; omega, by omega, by omega, ?_⟩
  by_cases h0 : k = 0
  · subst h0; exact .inl rfl
  · rcases h4 with h4 | ⟨b, off, ha, hlt, hc⟩
    · subst h4; simp at h1; omega
    · refine .inr ⟨b, off, ?_, hlt, fun i hi => ?_⟩
      · unfold adv
        rw [if_neg (by omega), ha]
        simp [Addr.add]
      · rw [hc i (by omega), List.getElem?_take, if_pos hi]

/-- a store elsewhere -/
theorem row_set {w : World} {a : Option Addr} {n cap : Nat} {vs : List Value} (h : Row w a n cap vs) {p : Addr} (v : Value) (hp : vs = [] ∨ ∀ b off, a = some ⟨b, off, none⟩ → b ≠ p.block) : Row (w.setCell p v) a n cap vs := by
  obtain ⟨h1, h2, h3, h4⟩ := h
  refine ⟨h1, h2, h3, ?_⟩
  rcases h4 with h4 | ⟨b, off, ha, hlt, hc⟩
  · exact .inl h4
  · rcases hp with hp | hp
    · exact .inl hp
    refine .inr ⟨b, off, ha, by simpa [World.setCell] using hlt, fun i hi => ?_⟩
    rw [← hc i hi]
    exact World.cell?_of_block (Below.heap_setCell w p v b (hp b off ha))

/-- a row of the call's own, from block B on, of elements of type e -/
def Own (e : TypeId) (w : World) (B : Nat) (a : Option Addr) (n cap : Nat) (vs : List Value) : Prop :=
  w.ownsRow B e 1 (.slice a n cap) n vs ∧ vs.length = n ∧ n ≤ 17592186044416

theorem own_row {e : TypeId} {w : World} {B : Nat} {a : Option Addr} {n cap : Nat} {vs : List Value} (h : Own e w B a n cap vs) : Row w a n cap vs ∧ ∀ b off, a = some ⟨b, off, none⟩ → B ≤ b ∧ off = 0 := by
  obtain ⟨h1, h2, h3⟩ := h
  rcases h1.2 with ⟨hv, h'⟩ | ⟨g, c, cur, hv, hB, hh, hn, hm, hs, ht⟩
  · injection hv with e1 e2 e3
    subst e1 e2 e3
    exact ⟨⟨h2, by omega, by simp [maxLen], .inl (List.eq_nil_of_length_eq_zero h2)⟩, by simp⟩
  · injection hv with e1 e2 e3
    subst e1 e3
    refine ⟨⟨h2, hn, hm, .inr ⟨g, 0, rfl, (h1.lt g rfl).2, fun i hi => ?_⟩⟩, fun b off hb => ?_⟩
    · rw [Nat.zero_add]; exact World.ownsRow.cellAt h1 i (by omega)
    · injection hb with hb
      injection hb with hb1 hb2
      omega

theorem own_nil (e : TypeId) (w : World) (B : Nat) : Own e w B none 0 0 [] := ⟨World.ownsRow_nil _ _ _ _, rfl, by omega⟩

theorem own_lit (e : TypeId) (w : World) (B : Nat) (vs : List Value) (hB : B ≤ w.heap.size) (hn : vs.length ≤ 1000) : Own e (w.alloc (.cells vs.toArray e)) B (some ⟨w.heap.size, 0, none⟩) vs.length vs.length vs :=
  ⟨World.ownsRow_lit w vs.toArray vs.length hB (by simp only [maxLen]; omega) (by simp), rfl, by omega⟩

theorem own_mono {e : TypeId} {w : World} {B B' : Nat} {a : Option Addr} {n cap : Nat} {vs : List Value} (h : Own e w B a n cap vs) (hB : B' ≤ B) : Own e w B' a n cap vs := by
  obtain ⟨h1, h2⟩ := h
  refine ⟨⟨h1.1, ?_⟩, h2⟩
  rcases h1.2 with h' | ⟨g, c, cur, hv, hg, r⟩
  · exact .inl h'
  · exact .inr ⟨g, c, cur, hv, Nat.le_trans hB hg, r⟩

theorem own_below {e : TypeId} {w w' : World} {B C : Nat} {a : Option Addr} {n cap : Nat} {vs : List Value} (h : Own e w B a n cap vs) (hb : Below C w w') (hC : w.heap.size ≤ C) : Own e w' B a n cap vs := by
  obtain ⟨h1, h2⟩ := h
  have hlt := h1.lt
  refine ⟨⟨h1.1, ?_⟩, h2⟩
  rcases h1.2 with h' | ⟨g, c, cur, hv, hg, hh, r⟩
  · exact .inl h'
  · have := hlt g (by rw [hv]; rfl)
    exact .inr ⟨g, c, cur, hv, hg, by rw [hb.block g (by omega)]; exact hh, r⟩

/-- a store elsewhere -/
theorem own_set {e : TypeId} {w : World} {B : Nat} {a : Option Addr} {n cap : Nat} {vs : List Value} (h : Own e w B a n cap vs) {p : Addr} (v : Value) (hp : p.block < B) : Own e (w.setCell p v) B a n cap vs := by
  obtain ⟨h1, h2⟩ := h
  refine ⟨⟨h1.1, ?_⟩, h2⟩
  rcases h1.2 with h' | ⟨g, c, cur, hv, hg, hh, r⟩
  · exact .inl h'
  · exact .inr ⟨g, c, cur, hv, hg, by rw [Below.heap_setCell _ _ _ _ (by omega)]; exact hh, r⟩

/-- an append onto a row of the call's own: of another row -/
theorem run_append_own' (t e : TypeId) (i : TypeInfo) (z : Value) (bytes : Nat) (ht : Tryz.prog.underlying t = some (.slice e)) (hi : Tryz.prog.info? e = some i) (hz : i.zero = some z) (hs : i.size = 1) (hby : i.bytes = bytes) (hzs : z.cells.size = 1) (hb8 : bytes ≤ 16)
    (w : World) (ty : TypeId) (B : Nat) (a : Option Addr) (n cap : Nat) (l : List Value) (hown : Own e w B a n cap l) (A : Option Addr) (m c : Nat) (x : List Value) (hr : Row w A m c x) (h1 : ∀ u ∈ x, u.oneCell' = true)
    (hsum : n + m ≤ 1048576) (hB : B ≤ w.heap.size) :
    ∃ a' cap' w', (Builtin.append_ #[t, t] ty #[.slice a n cap, .slice A m c]).run Tryz.prog w = .ok (.slice a' (n + m) cap') w' ∧ Own e w' B a' (n + m) cap' (l ++ x) ∧ Below B w w' ∧ w.grownBy w' (Value.slice a n cap).ownBlock ∧ ((Value.slice a' (n + m) cap').ownBlock = (Value.slice a n cap).ownBlock ∨ (Value.slice a' (n + m) cap').ownBlock = some w.heap.size) := by
  obtain ⟨g1, g2, g3⟩ := hown
  obtain ⟨r1, r2, r2', r4⟩ := hr
  have hlen : (l ++ x).length = n + m := by rw [List.length_append, g2, r1]
  have hbnd : (n + m) * bytes ≤ 140737488355328 := by
    have := Nat.mul_le_mul hsum hb8
    omega
  by_cases hm0 : m = 0
  · have hx : x = [] := List.eq_nil_of_length_eq_zero (by omega)
    subst hx
    subst hm0
    refine ⟨a, cap, w, ?_, ⟨by simpa using g1, by simpa using g2, by omega⟩, Below.refl _ _, ⟨rfl, rfl, rfl, Nat.le_refl _, fun _ _ _ => rfl⟩, .inl (by cases a <;> rfl)⟩
    rcases g1.2 with ⟨hv, _⟩ | ⟨g, c', cur, hv, _, _, hnc, _⟩
    · injection hv with e1 e2 e3
      subst e1 e2 e3
      cases A <;> simp [Builtin.append_, run_underlying ht, sizeOf, typeInfo, hi, Builtin.lenOf, Builtin.firstCells, loadCells, loadCellsFrom]
    · injection hv with e1 e2 e3
      subst e1 e3
      cases A <;> simp [Builtin.append_, run_underlying ht, sizeOf, typeInfo, hi, Builtin.lenOf, Builtin.firstCells, hnc, storeCells, loadCells, loadCellsFrom]
  · rcases r4 with r4 | ⟨b, off, rfl, hb, hc⟩
    · subst r4; simp at r1; omega
    have hcells : ∀ j u, x[j]? = some u → w.cell? ((⟨b, off, none⟩ : Addr).add j) = some u := by
      intro j u hu
      have hj : j < m := by
        have := (List.getElem?_eq_some_iff.1 hu).1
        omega
      rw [show ((⟨b, off, none⟩ : Addr).add j) = ⟨b, off + j, none⟩ from by by_cases g : j = 0 <;> simp [Addr.add, g]]
      rw [hc j hj, hu]
    obtain ⟨v', w', hrun, h5, h6, _, h7⟩ := run_append_own_at (P := Tryz.prog) w B t ty e i z 1 bytes ht hi hz hs hby hzs (by omega) _ n l g1 ⟨b, off, none⟩ m c x
      (by simpa using r1) hcells h1 (by simp only [maxLen]; omega) hbnd hB
    obtain ⟨a', cap', rfl⟩ : ∃ a' cap', v' = .slice a' (n + m) cap' := by
      rcases h5.2 with ⟨rfl, h0⟩ | ⟨g, c', cur, rfl, _⟩
      · exact ⟨none, 0, by rw [h0]⟩
      · exact ⟨_, _, rfl⟩
    exact ⟨a', cap', w', hrun, ⟨h5, hlen, by omega⟩, (Below.refl _ _).grown h6 hB fun k hk => (g1.lt k hk).1, h6, h7⟩

theorem u8s_one (l : List UInt8) : ∀ u ∈ u8s l, u.oneCell' = true := by
  intro u hu
  obtain ⟨_, _, rfl⟩ := List.mem_map.1 hu
  rfl
theorem i64s_one (l : List Int) : ∀ u ∈ i64s l, u.oneCell' = true := by
  intro u hu
  obtain ⟨_, _, rfl⟩ := List.mem_map.1 hu
  rfl
theorem strs_one (l : List ByteArray) : ∀ u ∈ strs l, u.oneCell' = true := by
  intro u hu
  obtain ⟨_, _, rfl⟩ := List.mem_map.1 hu
  rfl

theorem run_append_u8 (w : World) (ty : TypeId) (B : Nat) (a : Option Addr) (n cap : Nat) (l : List UInt8) (hown : Own 5 w B a n cap (u8s l)) (A : Option Addr) (m c : Nat) (x : List UInt8) (hr : Row w A m c (u8s x))
    (hsum : n + m ≤ 1048576) (hB : B ≤ w.heap.size) :
    ∃ a' cap' w', (Builtin.append_ #[50, 50] ty #[.slice a n cap, .slice A m c]).run Tryz.prog w = .ok (.slice a' (n + m) cap') w' ∧ Own 5 w' B a' (n + m) cap' (u8s (l ++ x)) ∧ Below B w w' ∧ w.grownBy w' (Value.slice a n cap).ownBlock ∧ ((Value.slice a' (n + m) cap').ownBlock = (Value.slice a n cap).ownBlock ∨ (Value.slice a' (n + m) cap').ownBlock = some w.heap.size) := by
  obtain ⟨i0, hi0, hz0, hz1, hz2⟩ := info_parts u8_info
  rw [u8s_append]
  exact run_append_own' 50 5 i0 _ 1 Tryz.underlying50 hi0 hz0 hz1 hz2 rfl (by omega) w ty B a n cap _ hown A m c _ hr (u8s_one x) hsum hB

theorem run_append_i64 (w : World) (ty : TypeId) (B : Nat) (a : Option Addr) (n cap : Nat) (l : List Int) (hown : Own 2 w B a n cap (i64s l)) (A : Option Addr) (m c : Nat) (x : List Int) (hr : Row w A m c (i64s x))
    (hsum : n + m ≤ 1048576) (hB : B ≤ w.heap.size) :
    ∃ a' cap' w', (Builtin.append_ #[82, 82] ty #[.slice a n cap, .slice A m c]).run Tryz.prog w = .ok (.slice a' (n + m) cap') w' ∧ Own 2 w' B a' (n + m) cap' (i64s (l ++ x)) ∧ Below B w w' ∧ w.grownBy w' (Value.slice a n cap).ownBlock ∧ ((Value.slice a' (n + m) cap').ownBlock = (Value.slice a n cap).ownBlock ∨ (Value.slice a' (n + m) cap').ownBlock = some w.heap.size) := by
  obtain ⟨i0, hi0, hz0, hz1, hz2⟩ := info_parts i64_info
  rw [i64s_append]
  exact run_append_own' 82 2 i0 _ 8 Tryz.underlying82 hi0 hz0 hz1 hz2 rfl (by omega) w ty B a n cap _ hown A m c _ hr (i64s_one x) hsum hB

theorem run_append_str (w : World) (ty : TypeId) (B : Nat) (a : Option Addr) (n cap : Nat) (l : List ByteArray) (hown : Own 9 w B a n cap (strs l)) (A : Option Addr) (m c : Nat) (x : List ByteArray) (hr : Row w A m c (strs x))
    (hsum : n + m ≤ 1048576) (hB : B ≤ w.heap.size) :
    ∃ a' cap' w', (Builtin.append_ #[97, 97] ty #[.slice a n cap, .slice A m c]).run Tryz.prog w = .ok (.slice a' (n + m) cap') w' ∧ Own 9 w' B a' (n + m) cap' (strs (l ++ x)) ∧ Below B w w' ∧ w.grownBy w' (Value.slice a n cap).ownBlock ∧ ((Value.slice a' (n + m) cap').ownBlock = (Value.slice a n cap).ownBlock ∨ (Value.slice a' (n + m) cap').ownBlock = some w.heap.size) := by
  obtain ⟨i0, hi0, hz0, hz1, hz2⟩ := info_parts str_info
  rw [strs_append]
  exact run_append_own' 97 9 i0 _ 16 Tryz.underlying97 hi0 hz0 hz1 hz2 rfl (by omega) w ty B a n cap _ hown A m c _ hr (strs_one x) hsum hB

/-- for the walk: an append whose run is known -/
theorem wpList_append_run (w : World) {ops : Array Oper} {rest : List Oper} {o : Oper} {act : Act} {Q : Exit → Act → World → Prop} (hgd : o.guard = none) (s x : Operand) (t u : TypeId)
    (ho : o.op = .call { callee := .builtin .append, args := #[s, x], argTypes := #[t, u] }) {p : Value → World → Prop}
    (hrun : ∃ v w', (Builtin.append_ #[t, u] o.type #[act.eval s, act.eval x]).run Tryz.prog w = .ok v w' ∧ p v w')
    (h : ∀ v w', p v w' → wpList Tryz.prog ops Q rest (act.put o.dst v) w') : wpList Tryz.prog ops Q (o :: rest) act w := by
  refine wpList_plain hgd fun K hK => ?_
  obtain ⟨v, w', hr, hp⟩ := hrun
  unfold Oper.wp execOp
  simp only [ho, resolve, invoke, builtin, Sem.run_bind, Sem.run_pure, Result.andThen_ok, List.map_toArray, List.map_cons, List.map_nil, hr]
  exact hK _ _ (h v w' hp)

theorem step_append_run (w : World) {ops : Array Oper} {o : Oper} {act : Act} {K : Act → World → Prop} {Q : Exit → Act → World → Prop} {E : Prop} (hgd : o.guard = none) (s x : Operand) (t u : TypeId)
    (ho : o.op = .call { callee := .builtin .append, args := #[s, x], argTypes := #[t, u] }) {p : Value → World → Prop}
    (hrun : ∃ v w', (Builtin.append_ #[t, u] o.type #[act.eval s, act.eval x]).run Tryz.prog w = .ok v w' ∧ p v w')
    (h : ∀ v w', p v w' → K (act.put o.dst v) w') :
    if Region.wanted o (yielded ops act.tmps) = true then Oper.wp Tryz.prog o act w K Q else E := by
  have hw : Region.wanted o (yielded ops act.tmps) = true := by simp [Region.wanted, hgd]
  rw [if_pos hw]
  obtain ⟨v, w', hr, hp⟩ := hrun
  unfold Oper.wp execOp
  simp only [ho, resolve, invoke, builtin, Sem.run_bind, Sem.run_pure, Result.andThen_ok, List.map_toArray, List.map_cons, List.map_nil, hr]
  exact h v w' hp

/-! strings of bytes -/
def str (l : List UInt8) : ByteArray := ⟨l.toArray⟩

theorem fold_push (l : List UInt8) (s : ByteArray) : (l.map fun c : UInt8 => (c.toNat : Int)).foldl (fun r n => r.push (UInt8.ofNat n.toNat)) s = ⟨s.data ++ l.toArray⟩ := by
  induction l generalizing s with
  | nil => simp
  | cons c l ih =>
    simp only [List.map_cons, List.foldl_cons, ih]
    apply ByteArray.ext
    apply Array.ext'
    simp [ByteArray.push]

theorem run_loadCells_row {w : World} {b off n : Nat} {vs : List Value} (hl : vs.length = n) (hc : ∀ i, i < n → w.cell? ⟨b, off + i, none⟩ = vs[i]?) : (loadCells ⟨b, off, none⟩ n).run Tryz.prog w = .ok vs.toArray w := by
  subst hl
  refine run_loadCells_list w _ vs fun j v hj => ?_
  have hlt := (List.getElem?_eq_some_iff.1 hj).1
  rw [show ((⟨b, off, none⟩ : Addr).add j) = ⟨b, off + j, none⟩ from by by_cases g : j = 0 <;> simp [Addr.add, g]]
  rw [hc j hlt, hj]

theorem run_string_bytes {w : World} {a : Option Addr} {n cap : Nat} {l : List UInt8} (h : Row w a n cap (u8s l)) : (convert 50 9 (.slice a n cap)).run Tryz.prog w = .ok (.string (str l)) w := by
  rw [run_convert_bytes_string w 50 9 5 a n cap Tryz.underlying50 Tryz.underlying5 Tryz.underlying9]
  obtain ⟨h1, h2, h3, h4⟩ := h
  have e1 : u8s l = (l.map fun c : UInt8 => (c.toNat : Int)).map (Value.int .u8) := by simp [u8s, u8]
  have e2 := fold_push l ByteArray.empty
  have e3 : (⟨ByteArray.empty.data ++ l.toArray⟩ : ByteArray) = str l := by
    apply ByteArray.ext
    apply Array.ext'
    simp [str, ByteArray.empty, ByteArray.emptyWithCapacity]
    rfl
  by_cases h0 : l = []
  · subst h0
    have hn : n = 0 := by simpa [u8s] using h1.symm
    subst hn
    cases a with
    | none => simp [Conv.bytesToString, str]; rfl
    | some ad =>
      have := run_bytesToString (P := Tryz.prog) w ad 0 cap [] (by simp [loadCells, loadCellsFrom])
      exact this
  · rcases h4 with h4 | ⟨b, off, rfl, hb, hc⟩
    · exact absurd (List.map_eq_nil_iff.1 h4) h0
    · have := run_bytesToString (P := Tryz.prog) w ⟨b, off, none⟩ n cap (l.map fun c : UInt8 => (c.toNat : Int)) (e1 ▸ run_loadCells_row h1 hc)
      rw [this, e2, e3]
end Go.Proofs.YtofhijnfbilieaaGreat.C
namespace Go.Proofs.YtofhijnfbilieaaGreat.C
open Go.RowKit
set_option linter.unusedVariables false
set_option linter.unusedSimpArgs false
set_option maxRecDepth 20000

def wrongs : Value := .iface 156 (.int .i64 4)

theorem need_ok (w : World) : Calls Tryz.prog 84 #[.bool true] w fun e w' => e = .returned (.tuple #[]) ∧ w = w' := by
  go_enter Tryz.func84, Tryz.ntmps84
  go_wp2
  go_end0
  exact ⟨rfl, rfl⟩

theorem need_no (w : World) : Calls Tryz.prog 84 #[.bool false] w fun e w' => e = .panicked [{ v := wrongs, recovered := false }] ∧ w = w' := by
  go_enter Tryz.func84, Tryz.ntmps84
  go_wp2
  exact ⟨rfl, rfl, rfl⟩

theorem run_to (t : TypeId) (e : TypeId) (ht : Tryz.prog.underlying t = some (.slice (Tryz.prog.elem t))) (hs : ∀ w, (sizeOf (Tryz.prog.elem t)).run Tryz.prog w = .ok 1 w) (a : Option Addr) (n cap k : Nat) (hk : k ≤ cap) (w : World) :
    (Instr.slice t (.slice a n cap) none (some (.int .i64 (k : Int))) none).run Tryz.prog w = .ok (.slice (adv a cap 0) k cap) w := by
  rw [run_slice_h w t a n cap ht .i64 k (by omega) (by omega), hs]
  simp [Result.andThen, sliced, adv]

theorem run_from (t : TypeId) (e : TypeId) (ht : Tryz.prog.underlying t = some (.slice (Tryz.prog.elem t))) (hs : ∀ w, (sizeOf (Tryz.prog.elem t)).run Tryz.prog w = .ok 1 w) (a : Option Addr) (n cap k : Nat) (hk : k ≤ n) (w : World) :
    (Instr.slice t (.slice a n cap) (some (.int .i64 (k : Int))) none none).run Tryz.prog w = .ok (.slice (adv a cap k) (n - k) (cap - k)) w := by
  rw [run_slice_l w t a n cap ht .i64 k (by omega) (by omega), hs]
  simp [Result.andThen, sliced, adv]

theorem size28 (w : World) : (sizeOf (Tryz.prog.elem 50)).run Tryz.prog w = .ok 1 w := by
  obtain ⟨i0, hi0, hz0, hz1, hz2⟩ := info_parts u8_info
  have e : Tryz.prog.elem 50 = 5 := by kernel_rfl
  rw [e]
  simp [sizeOf, typeInfo, hi0, hz1]

theorem under28 : Tryz.prog.underlying 50 = some (.slice (Tryz.prog.elem 50)) := by
  rw [show Tryz.prog.elem 50 = 5 from by kernel_rfl]; exact Tryz.underlying50

theorem take_ok (w : World) (R : Nat) (a : Option Addr) (n cap k : Nat) (hc : w.cell? ⟨R, 0, none⟩ = some (.slice a n cap)) (hf : w.frozen? ⟨R, 0, none⟩ = false) (hk : k ≤ n) (hn : n ≤ cap) (hm : cap ≤ maxLen) :
    Calls Tryz.prog 112 #[.pointer (some ⟨R, 0, none⟩), .int .i64 (k : Int)] w fun e w' => e = .returned (.slice (adv a cap 0) k cap) ∧ w.setCell ⟨R, 0, none⟩ (.slice (adv a cap k) (n - k) (cap - k)) = w' := by
  unfold maxLen at hm
  have h1 := fun w => run_to 50 5 under28 size28 a n cap k (by omega) w
  have h2 := fun w => run_from 50 5 under28 size28 a n cap k (by omega) w
  have hle : decide (k ≤ n) = true := by simpa using hk
  generalize adv a cap 0 = x0 at *
  generalize adv a cap k = x1 at *
  go_enter Tryz.func112, Tryz.ntmps112
  go_wp2_with (go_at_call 84; refine (need_ok _).mono ?_; rintro e w' ⟨rfl, rfl⟩)
  go_ret
  exact ⟨rfl, rfl⟩

theorem take_no (w : World) (R : Nat) (a : Option Addr) (n cap k : Nat) (hc : w.cell? ⟨R, 0, none⟩ = some (.slice a n cap)) (hk : n < k) (hm : n ≤ maxLen) :
    Calls Tryz.prog 112 #[.pointer (some ⟨R, 0, none⟩), .int .i64 (k : Int)] w fun e w' => e = .panicked [{ v := wrongs, recovered := false }] ∧ w = w' := by
  unfold maxLen at hm
  have hle : decide (k ≤ n) = false := by simpa using hk
  go_enter Tryz.func112, Tryz.ntmps112
  go_wp2_with (go_at_call 84; refine (need_no _).mono ?_; rintro e w' ⟨rfl, rfl⟩)
  exact ⟨rfl, rfl, rfl⟩

/-- nothing but block R has changed -/
structure Stp (R : Nat) (w w' : World) : Prop where
  os : w'.os = w.os
  tape : w'.tape = w.tape
  output : w'.output = w.output
  size : w'.heap.size = w.heap.size
  block : ∀ k, k ≠ R → w'.heap[k]? = w.heap[k]?

theorem Stp.refl (R : Nat) (w : World) : Stp R w w := ⟨rfl, rfl, rfl, rfl, fun _ _ => rfl⟩
theorem Stp.trans {R : Nat} {a b c : World} (h : Stp R a b) (k : Stp R b c) : Stp R a c :=
  ⟨k.os.trans h.os, k.tape.trans h.tape, k.output.trans h.output, k.size.trans h.size, fun i hi => (k.block i hi).trans (h.block i hi)⟩
theorem Stp.set (R : Nat) (w : World) (v : Value) : Stp R w (w.setCell ⟨R, 0, none⟩ v) :=
  ⟨rfl, rfl, rfl, by simp [World.setCell], fun k hk => Below.heap_setCell _ _ _ _ hk⟩
theorem Stp.below {R : Nat} {w w' : World} (h : Stp R w w') : Below R w w' :=
  ⟨h.os, h.tape, h.output, Nat.le_of_eq h.size.symm, fun k hk => h.block k (by omega)⟩
theorem Stp.cell {R : Nat} {w w' : World} (h : Stp R w w') {b : Nat} (o : Nat) (hb : b ≠ R) : w'.cell? ⟨b, o, none⟩ = w.cell? ⟨b, o, none⟩ := World.cell?_of_block (h.block b hb)
theorem Stp.frozen {R : Nat} {w w' : World} (h : Stp R w w') {b : Nat} (o : Nat) (hb : b ≠ R) : w'.frozen? ⟨b, o, none⟩ = w.frozen? ⟨b, o, none⟩ := World.frozen?_of_block (h.block b hb)

/-- the reader in block R has the bytes l ahead of it -/
def At (w : World) (R : Nat) (l : List UInt8) : Prop :=
  ∃ a n cap, w.cell? ⟨R, 0, none⟩ = some (.slice a n cap) ∧ w.frozen? ⟨R, 0, none⟩ = false ∧ Row w a n cap (u8s l) ∧ (l = [] ∨ ∀ x, a = some x → x.block < R)

theorem at_drop {w : World} {R : Nat} {a : Option Addr} {n cap : Nat} {l : List UInt8} (hc : w.cell? ⟨R, 0, none⟩ = some (.slice a n cap)) (hf : w.frozen? ⟨R, 0, none⟩ = false) (hr : Row w a n cap (u8s l))
    (ha : l = [] ∨ ∀ x, a = some x → x.block < R) (k : Nat) (hk : k ≤ n) : At (w.setCell ⟨R, 0, none⟩ (.slice (adv a cap k) (n - k) (cap - k))) R (l.drop k) := by
  have hb : l.drop k = [] ∨ ∀ x, adv a cap k = some x → x.block < R := by
    rcases ha with ha | ha
    · exact .inl (by rw [ha]; simp)
    · refine .inr fun x h => ?_
      unfold adv at h
      split at h
      · exact ha x h
      · cases a with
        | none => simp at h
        | some y =>
          simp at h
          subst h
          have := ha y rfl
          unfold Addr.add
          split <;> simpa using this
  refine ⟨adv a cap k, n - k, cap - k, World.cell?_setCell_same _ _ _ hc, ?_, ?_, hb⟩
  · simpa using hf
  · have := row_drop hr k hk
    rw [show (u8s l).drop k = u8s (l.drop k) from (List.map_drop ..).symm] at this
    refine row_set this _ ?_
    rcases hb with hb | hb
    · exact .inl (by rw [hb]; rfl)
    · exact .inr fun b off h => by have : b < R := hb _ h; simp only; omega

theorem next_ok (w : World) (R : Nat) (c : UInt8) (l : List UInt8) (h : At w R (c :: l)) :
    Calls Tryz.prog 95 #[.pointer (some ⟨R, 0, none⟩)] w fun e w' => e = .returned (.int .u8 (c.toNat : Int)) ∧ Stp R w w' ∧ At w' R l := by
  obtain ⟨a, n, cap, hc, hf, hr, ha⟩ := h
  have hn : 1 ≤ n := by have := hr.1; simp [u8s] at this; omega
  have hlim := hr.2
  have h0 := at_drop hc hf hr ha 1 hn
  have h1 := Stp.set R w (.slice (adv a cap 1) (n - 1) (cap - 1))
  obtain ⟨ht1, ht2, ht3, ht4⟩ := row_take hr 1 hn
  have hx : ∃ b off, adv a cap 0 = some ⟨b, off, none⟩ ∧ b ≠ R ∧ w.cell? ⟨b, off, none⟩ = some (.int .u8 (c.toNat : Int)) := by
    rcases ht4 with ht4 | ⟨b, off, hb, hlt, hcell⟩
    · simp [u8s] at ht4
    · refine ⟨b, off, hb, ?_, by simpa [u8s, u8] using hcell 0 (by omega)⟩
      unfold adv at hb
      rcases hr.2.2.2 with h' | ⟨b', off', ha', _, _⟩
      · simp [u8s] at h'
      · rw [ha', if_neg (by omega)] at hb
        simp [Addr.add] at hb
        have : b' < R := by
          rcases ha with ha | ha
          · cases ha
          · exact ha _ ha'
        omega
  obtain ⟨b, off, hb, hbR, hcell⟩ := hx
  have T := take_ok w R a n cap 1 hc hf hn hlim.1 hlim.2.1
  rw [hb] at T
  generalize Value.slice (adv a cap 1) (n - 1) (cap - 1) = v at *
  have H0 := Lib.hid h0
  have H1 := Lib.hid h1
  have HT := Lib.hid T
  have hcell1 : (w.setCell ⟨R, 0, none⟩ v).cell? ⟨b, off, none⟩ = some (.int .u8 (c.toNat : Int)) := by
    rw [H1.out.cell off hbR]; exact hcell
  clear h0 h1 T hb ha hr hc hf ht1 ht2 ht3 ht4 hn hlim
  go_enter Tryz.func95, Tryz.ntmps95
  go_wp2_with (go_at_call 112; refine HT.out.mono ?_; rintro e w' ⟨rfl, rfl⟩)
  go_ret
  exact ⟨rfl, H1.out, H0.out⟩

theorem next_no (w : World) (R : Nat) (h : At w R []) :
    Calls Tryz.prog 95 #[.pointer (some ⟨R, 0, none⟩)] w fun e w' => e = .panicked [{ v := wrongs, recovered := false }] ∧ Below R w w' := by
  obtain ⟨a, n, cap, hc, hf, hr, ha⟩ := h
  have hn : n = 0 := by have := hr.1; simpa [u8s] using this.symm
  subst hn
  have HT := Lib.hid (take_no w R a 0 cap 1 hc (by omega) (by simp [maxLen]))
  clear hc hf hr ha
  go_enter Tryz.func95, Tryz.ntmps95
  go_wp2_with (go_at_call 112; refine HT.out.mono ?_; rintro e w' ⟨rfl, rfl⟩)
  exact ⟨rfl, rfl, Below.refl _ _⟩

theorem counts_ok (w : World) (R : Nat) (c : UInt8) (l : List UInt8) (h : At w R (c :: l)) (hc : M.cT c.toNat ≤ 4) :
    Calls Tryz.prog 96 #[.pointer (some ⟨R, 0, none⟩)] w fun e w' => e = .returned (.tuple #[.int .i64 (M.cN c.toNat : Int), .int .i64 (M.cT c.toNat : Int)]) ∧ Stp R w w' ∧ At w' R l := by
  have HN := Lib.hid (next_ok w R c l h)
  have hlt := c.toNat_lt
  generalize c.toNat = k at *
  clear h
  by_cases h240 : 240 ≤ k
  · have e1 : M.cN k = 16 := by unfold M.cN; rw [if_pos h240]
    have e2 : M.cT k = k - 240 := by unfold M.cT; rw [if_pos h240]
    have e3 : (k : Int) - 240 = ((k - 240 : Nat) : Int) := by omega
    have h3 : (240 : Int) ≤ (k : Int) := by omega
    have h4 : decide ((k : Int) - 240 ≤ 4) = true := by rw [decide_eq_true_eq]; omega
    have E1 := Lib.hid e1
    have E2 := Lib.hid e2
    have E3 := Lib.hid e3
    clear e1 e2 e3 hc
    go_enter Tryz.func96, Tryz.ntmps96
    go_wp2_with (first
      | (go_at_call 95; refine HN.out.mono ?_; rintro e w' ⟨rfl, hs, ha⟩)
      | (go_at_call 84; refine (need_ok _).mono ?_; rintro e w' ⟨rfl, rfl⟩))
    go_ret2
    exact ⟨by rw [E1.out, E2.out, ← E3.out]; rfl, by assumption, by assumption⟩
  · have e1 : M.cN k = k % 16 := by unfold M.cN; rw [if_neg h240]
    have e2 : M.cT k = k / 16 := by unfold M.cT; rw [if_neg h240]
    have h3 : (k : Int) < 240 := by omega
    have h4 : decide ((k : Int) / 16 ≤ 4) = true := by rw [decide_eq_true_eq]; omega
    have E1 := Lib.hid e1
    have E2 := Lib.hid e2
    clear e1 e2 hc
    go_enter Tryz.func96, Tryz.ntmps96
    go_wp2_with (first
      | (go_at_call 95; refine HN.out.mono ?_; rintro e w' ⟨rfl, hs, ha⟩)
      | (go_at_call 84; refine (need_ok _).mono ?_; rintro e w' ⟨rfl, rfl⟩))
    go_ret2
    exact ⟨by rw [E1.out, E2.out]; rfl, by assumption, by assumption⟩

theorem counts_no (w : World) (R : Nat) (l : List UInt8) (h : At w R l) (hc : ∀ c r, l = c :: r → ¬ M.cT c.toNat ≤ 4) :
    Calls Tryz.prog 96 #[.pointer (some ⟨R, 0, none⟩)] w fun e w' => e = .panicked [{ v := wrongs, recovered := false }] ∧ Below R w w' := by
  cases l with
  | nil =>
    have HN := Lib.hid (next_no w R h)
    clear h hc
    go_enter Tryz.func96, Tryz.ntmps96
    go_wp2_with (go_at_call 95; refine HN.out.mono ?_; rintro e w' ⟨rfl, hb⟩)
    exact ⟨rfl, rfl, by assumption⟩
  | cons c r =>
    have hc := hc c r rfl
    have HN := Lib.hid (next_ok w R c r h)
    have hlt := c.toNat_lt
    generalize c.toNat = k at *
    clear h
    by_cases h240 : 240 ≤ k
    · have e2 : M.cT k = k - 240 := by unfold M.cT; rw [if_pos h240]
      have h3 : (240 : Int) ≤ (k : Int) := by omega
      have h4 : decide ((k : Int) - 240 ≤ 4) = false := by rw [decide_eq_false_iff_not]; omega
      clear e2 hc
      go_enter Tryz.func96, Tryz.ntmps96
      go_wp2_with (first
        | (go_at_call 95; refine HN.out.mono ?_; rintro e w' ⟨rfl, hs, ha⟩)
        | (go_at_call 84; refine (need_no _).mono ?_; rintro e w' ⟨rfl, rfl⟩))
      exact ⟨rfl, rfl, Stp.below (by assumption)⟩
    · have e2 : M.cT k = k / 16 := by unfold M.cT; rw [if_neg h240]
      have h3 : (k : Int) < 240 := by omega
      have h4 : decide ((k : Int) / 16 ≤ 4) = false := by rw [decide_eq_false_iff_not]; omega
      clear e2 hc
      go_enter Tryz.func96, Tryz.ntmps96
      go_wp2_with (first
        | (go_at_call 95; refine HN.out.mono ?_; rintro e w' ⟨rfl, hs, ha⟩)
        | (go_at_call 84; refine (need_no _).mono ?_; rintro e w' ⟨rfl, rfl⟩))
      exact ⟨rfl, rfl, Stp.below (by assumption)⟩

/-! a text -/
theorem takes_ok (w : World) (R : Nat) (l : List UInt8) (k : Nat) (h : At w R l) (hk : k ≤ l.length) :
    Calls Tryz.prog 112 #[.pointer (some ⟨R, 0, none⟩), .int .i64 (k : Int)] w fun e w' => ∃ a cap, e = .returned (.slice a k cap) ∧ Row w' a k cap (u8s (l.take k)) ∧ Stp R w w' ∧ At w' R (l.drop k) := by
  obtain ⟨a, n, cap, hc, hf, hr, ha⟩ := h
  have hn : l.length = n := by have := hr.1; simpa [u8s] using this
  subst hn
  refine (take_ok w R a l.length cap k hc hf hk hr.2.1 hr.2.2.1).mono ?_
  rintro e w' ⟨rfl, rfl⟩
  refine ⟨_, _, rfl, ?_, Stp.set _ _ _, at_drop hc hf hr ha k hk⟩
  have ht := row_take hr k hk
  rw [show (u8s l).take k = u8s (l.take k) from (List.map_take ..).symm] at ht
  refine row_set ht _ ?_
  rcases ha with ha | ha
  · exact .inl (by rw [ha]; simp [u8s])
  refine .inr fun b off hb => ?_
  unfold adv at hb
  split at hb
  · have : b < R := ha _ hb
    simp only; omega
  · cases a with
    | none => simp at hb
    | some y =>
      simp at hb
      have := ha y rfl
      have e : (y.add 0).block = y.block := rfl
      rw [hb] at e
      have e' : b = y.block := e
      simp only; omega

theorem takes_no (w : World) (R : Nat) (l : List UInt8) (k : Nat) (h : At w R l) (hk : l.length < k) :
    Calls Tryz.prog 112 #[.pointer (some ⟨R, 0, none⟩), .int .i64 (k : Int)] w fun e w' => e = .panicked [{ v := wrongs, recovered := false }] ∧ Below R w w' := by
  obtain ⟨a, n, cap, hc, hf, hr, ha⟩ := h
  have hn : l.length = n := by have := hr.1; simpa [u8s] using this
  subst hn
  refine (take_no w R a l.length cap k hc hk (Nat.le_trans hr.2.1 hr.2.2.1)).mono ?_
  rintro e w' ⟨rfl, rfl⟩
  exact ⟨rfl, Below.refl _ _⟩

theorem text_ok (w : World) (R : Nat) (l : List UInt8) (t : ByteArray) (r : List UInt8) (h : At w R l) (ht : M.rdT l = some (t, r)) :
    Calls Tryz.prog 98 #[.pointer (some ⟨R, 0, none⟩)] w fun e w' => e = .returned (.string t) ∧ Stp R w w' ∧ At w' R r := by
  cases l with
  | nil => simp [M.rdT] at ht
  | cons c l =>
    simp only [M.rdT] at ht
    split at ht
    · rename_i hc
      simp only [Option.some.injEq, Prod.mk.injEq] at ht
      obtain ⟨rfl, rfl⟩ := ht
      have HN := Lib.hid (next_ok w R c l h)
      have hlt := c.toNat_lt
      generalize c.toNat = k at *
      clear h
      obtain ⟨hc1, hc2⟩ := hc
      have h4 : decide ((k : Int) ≤ 200) = true := by rw [decide_eq_true_eq]; omega
      have Hc2 := Lib.hid hc2
      clear hc1 hc2
      go_enter Tryz.func98, Tryz.ntmps98
      go_wp2_with (first
        | (go_at_call 95; refine HN.out.mono ?_; rintro e w' ⟨rfl, hs, ha⟩; have Hs := Lib.hid hs; have Ha := Lib.hid ha; clear hs ha)
        | (go_at_call 84; refine (need_ok _).mono ?_; rintro e w' ⟨rfl, rfl⟩)
        | (go_at_call 112; refine (takes_ok _ R l k Ha.out Hc2.out).mono ?_; rintro e w2 ⟨a, cap, rfl, hr, hs2, ha2⟩; have hconv := run_string_bytes hr; have Hs2 := Lib.hid (Hs.out.trans hs2); have Ha2 := Lib.hid ha2; clear hs2 ha2 hr))
      go_ret
      exact ⟨rfl, Hs2.out, Ha2.out⟩
    · simp at ht

theorem text_no (w : World) (R : Nat) (l : List UInt8) (h : At w R l) (ht : M.rdT l = none) :
    Calls Tryz.prog 98 #[.pointer (some ⟨R, 0, none⟩)] w fun e w' => e = .panicked [{ v := wrongs, recovered := false }] ∧ Below R w w' := by
  cases l with
  | nil =>
    have HN := Lib.hid (next_no w R h)
    clear h ht
    go_enter Tryz.func98, Tryz.ntmps98
    go_wp2_with (go_at_call 95; refine HN.out.mono ?_; rintro e w' ⟨rfl, hb⟩)
    exact ⟨rfl, rfl, by assumption⟩
  | cons c l =>
    simp only [M.rdT] at ht
    split at ht
    · simp at ht
    · rename_i hc
      have HN := Lib.hid (next_ok w R c l h)
      have hlt := c.toNat_lt
      generalize c.toNat = k at *
      clear h ht
      by_cases h2 : k ≤ 200
      · have h4 : decide ((k : Int) ≤ 200) = true := by rw [decide_eq_true_eq]; omega
        have Hc2 := Lib.hid (show l.length < k by omega)
        clear hc h2
        go_enter Tryz.func98, Tryz.ntmps98
        go_wp2_with (first
          | (go_at_call 95; refine HN.out.mono ?_; rintro e w' ⟨rfl, hs, ha⟩; have Hs := Lib.hid hs; have Ha := Lib.hid ha; clear hs ha)
          | (go_at_call 84; refine (need_ok _).mono ?_; rintro e w' ⟨rfl, rfl⟩)
          | (go_at_call 112; refine (takes_no _ R l k Ha.out Hc2.out).mono ?_; rintro e w2 ⟨rfl, hb⟩; have Hb := Lib.hid (Hs.out.below.trans hb); clear hb))
        exact ⟨rfl, rfl, Hb.out⟩
      · have h4 : decide ((k : Int) ≤ 200) = false := by rw [decide_eq_false_iff_not]; omega
        clear hc h2
        go_enter Tryz.func98, Tryz.ntmps98
        go_wp2_with (first
          | (go_at_call 95; refine HN.out.mono ?_; rintro e w' ⟨rfl, hs, ha⟩; have Hs := Lib.hid hs; have Ha := Lib.hid ha; clear hs ha)
          | (go_at_call 84; refine (need_no _).mono ?_; rintro e w' ⟨rfl, rfl⟩))
        exact ⟨rfl, rfl, Hs.out.below⟩
end Go.Proofs.YtofhijnfbilieaaGreat.C
namespace Go.Proofs.YtofhijnfbilieaaGreat.C
open Go.RowKit
set_option linter.unusedVariables false
set_option linter.unusedSimpArgs false
set_option maxRecDepth 20000

theorem or_shl (U z k : Nat) (hU : U < 2 ^ (7 * k)) (hb : 2 ^ (7 * k) * (z % 128) + U < 18446744073709551616) :
    bits BinOp.or IntKind.u64 (U : Int) (IntKind.u64.wrap ((z : Int) % 128 * 2 ^ (7 * k))) = ((U + 2 ^ (7 * k) * (z % 128) : Nat) : Int) := by
  have e1 : ((z : Int) % 128 * 2 ^ (7 * k)) = ((2 ^ (7 * k) * (z % 128) : Nat) : Int) := by
    push_cast; rw [Int.mul_comm]
  rw [e1, IntKind.wrap_u64]
  have e2 : (((2 ^ (7 * k) * (z % 128) : Nat) : Int) % 18446744073709551616) = ((2 ^ (7 * k) * (z % 128) : Nat) : Int) := by omega
  rw [e2, bits_or_u64_nat _ _ (by omega) (by omega)]
  congr 1
  have := Nat.two_pow_add_eq_or_of_lt hU (z % 128)
  rw [Nat.or_comm, ← this]
  omega

theorem ret_i64 {a b : Int} (h : a = b) : Ending.returned (.int .i64 a) = .returned (.int .i64 b) := by rw [h]

theorem not_i64 (n : Nat) (h : n < 9223372036854775808) : bits BinOp.xor IntKind.i64 (-1) (n : Int) = -(n : Int) - 1 := by
  show IntKind.i64.wrap ((BitVec.ofInt 64 (-1) ^^^ BitVec.ofInt 64 (n : Int)).toNat : Int) = _
  have e : BitVec.ofInt 64 (-1) ^^^ BitVec.ofInt 64 (n : Int) = ~~~ (BitVec.ofNat 64 n) := by
    rw [BitVec.ofInt_natCast, show BitVec.ofInt 64 (-1) = BitVec.allOnes 64 from by decide +kernel, BitVec.allOnes_xor]
  rw [e, BitVec.toNat_not, BitVec.toNat_ofNat, IntKind.wrap_i64]
  omega

theorem wrap_half (T : Nat) (h : T < 18446744073709551616) : wrap64 ((T : Int) / 2) = ((T / 2 : Nat) : Int) := by
  unfold wrap64
  omega

def NPost (R : Nat) (w : World) (l : List UInt8) (e : Ending) (w' : World) : Prop :=
  (∃ n r, M.rdN l = some (n, r) ∧ e = .returned (.int .i64 n) ∧ Stp R w w' ∧ At w' R r) ∨ (M.rdN l = none ∧ e = .panicked [{ v := wrongs, recovered := false }] ∧ Below R w w')

/-- what is known at the head of the loop -/
def NInv (l m : List UInt8) (k U : Nat) : Prop :=
  M.rdU 9 true l = match M.rdU (9 - k) (decide (k = 0)) m with | some (v, r) => some (U + 2 ^ (7 * k) * v, r) | none => none

theorem ninv_start (l : List UInt8) : NInv l l 0 0 := by
  unfold NInv
  have e : decide (0 = 0) = true := rfl
  rw [e]
  cases M.rdU (9 - 0) true l with
  | none => rfl
  | some x => simp

theorem ninv_nil {l : List UInt8} {k U : Nat} (h : NInv l [] k U) : M.rdN l = none := by
  have e : M.rdU 9 true l = none := by
    unfold NInv at h
    rw [h]
    cases 9 - k <;> rfl
  unfold M.rdN
  rw [e]

theorem ninv_on {l m : List UInt8} {k U : Nat} {c : UInt8} (hk : k < 9) (hc : ¬ c.toNat < 128) (h : NInv l (c :: m) k U) : NInv l m (k + 1) (U + 2 ^ (7 * k) * (c.toNat % 128)) := by
  unfold NInv at h ⊢
  rw [h, show 9 - k = (9 - (k + 1)) + 1 from by omega]
  simp only [M.rdU]
  rw [if_neg hc]
  have e : decide (k + 1 = 0) = false := by simp
  rw [e]
  cases M.rdU (9 - (k + 1)) false m with
  | none => rfl
  | some x =>
    obtain ⟨v, r⟩ := x
    simp only [Option.some.injEq, Prod.mk.injEq, and_true]
    rw [show 7 * (k + 1) = 7 * k + 7 from by omega, Nat.pow_add, Nat.mul_add]
    have : 2 ^ (7 * k) * (128 * v) = 2 ^ (7 * k) * 2 ^ 7 * v := by rw [Nat.mul_assoc]
    omega

theorem ninv_last {l m : List UInt8} {k U : Nat} {c : UInt8} (hk : k < 9) (hc : c.toNat < 128) (h0 : 0 < c.toNat ∨ k = 0) (h : NInv l (c :: m) k U) : M.rdN l = some (M.zag (U + 2 ^ (7 * k) * c.toNat), m) := by
  unfold NInv at h
  rw [show 9 - k = (9 - (k + 1)) + 1 from by omega] at h
  simp only [M.rdU] at h
  rw [if_pos hc, if_pos (by rcases h0 with h0 | h0; exact .inl h0; exact .inr (by simp [h0]))] at h
  unfold M.rdN
  rw [h]

theorem ninv_zero {l m : List UInt8} {k U : Nat} {c : UInt8} (hk : k ≤ 9) (hc : c.toNat = 0) (h0 : k ≠ 0) (h : NInv l (c :: m) k U) : M.rdN l = none := by
  unfold NInv at h
  have e : M.rdU (9 - k) (decide (k = 0)) (c :: m) = none := by
    by_cases h9 : k = 9
    · subst h9
      simp only [Nat.sub_self, M.rdU]
      rw [if_neg (by omega)]
    · rw [show 9 - k = (9 - (k + 1)) + 1 from by omega]
      simp only [M.rdU]
      rw [if_pos (by omega), if_neg (by simp [hc, h0])]
  rw [e] at h
  unfold M.rdN
  rw [h]

theorem ninv_nine {l m : List UInt8} {U : Nat} {c : UInt8} (hc : c.toNat = 1) (h : NInv l (c :: m) 9 U) : M.rdN l = some (M.zag (U + 2 ^ (7 * 9) * c.toNat), m) := by
  unfold NInv at h
  simp only [Nat.sub_self, M.rdU] at h
  rw [if_pos hc] at h
  unfold M.rdN
  rw [h, hc]

theorem ninv_much {l m : List UInt8} {U : Nat} {c : UInt8} (hc : 1 < c.toNat) (h : NInv l (c :: m) 9 U) : M.rdN l = none := by
  unfold NInv at h
  simp only [Nat.sub_self, M.rdU] at h
  rw [if_neg (by omega)] at h
  unfold M.rdN
  rw [h]

theorem pow_le9 {k : Nat} (hk : k ≤ 9) : 2 ^ (7 * k) ≤ 9223372036854775808 := by
  have := Nat.pow_le_pow_right (n := 2) (by omega) (show 7 * k ≤ 63 by omega)
  simpa using this

theorem pow_succ7 (k : Nat) : 2 ^ (7 * (k + 1)) = 128 * 2 ^ (7 * k) := by
  rw [show 7 * (k + 1) = 7 + 7 * k from by omega, Nat.pow_add]

theorem bound_lt {U k z : Nat} (hU : U < 2 ^ (7 * k)) (hz : z < 128) : U + 2 ^ (7 * k) * z < 2 ^ (7 * (k + 1)) := by
  rw [pow_succ7]
  have := Nat.mul_le_mul_left (2 ^ (7 * k)) (show z ≤ 127 by omega)
  omega

set_option maxHeartbeats 1000000 in
theorem number_any (w : World) (R : Nat) (l : List UInt8) (h : At w R l) :
    Calls Tryz.prog 97 #[.pointer (some ⟨R, 0, none⟩)] w (NPost R w l) := by
  have H := Lib.hid h
  clear h
  go_enter Tryz.func97, Tryz.ntmps97
  go_wp2_with fail
  go_loopw [3, 4] (fun u t wr => ∃ (k U : Nat) (m : List UInt8), k ≤ 9 ∧ t = .int .i64 (7 * k : Nat) ∧ u = .int .u64 (U : Int) ∧ U < 2 ^ (7 * k) ∧ Stp R w wr ∧ At wr R m ∧ NInv l m k U) (fun _ t _ => 63 - (intOf t).toNat)
  case atStart => exact ⟨0, 0, l, by omega, rfl, rfl, by decide, Stp.refl _ _, H.out, ninv_start l⟩
  case round =>
    obtain ⟨k, U, m, hk, rfl, rfl, hU, hs, ha, hm⟩ := hrel
    have hp9 := pow_le9 hk
    have Hs := Lib.hid hs
    have Ha := Lib.hid ha
    have Hm := Lib.hid hm
    have HU := Lib.hid hU
    have Hp := Lib.hid hp9
    clear hs ha hm hU hp9
    cases m with
    | nil =>
      have HN := Lib.hid (next_no wr R Ha.out)
      go_wp2_with (go_at_call 95; refine HN.out.mono ?_; rintro e w' ⟨rfl, hb⟩; have Hb := Lib.hid (Hs.out.below.trans hb); clear hb)
      exact ⟨rfl, .inr ⟨ninv_nil Hm.out, rfl, Hb.out⟩⟩
    | cons c m =>
      have HN := Lib.hid (next_ok wr R c m Ha.out)
      have hclt := c.toNat_lt
      have Hon := Lib.hid (fun (a : k < 9) (b : ¬ c.toNat < 128) => ninv_on a b Hm.out)
      have Hlast := Lib.hid (fun (a : k < 9) (b : c.toNat < 128) (d : 0 < c.toNat ∨ k = 0) => ninv_last a b d Hm.out)
      have Hzero := Lib.hid (fun (b : c.toNat = 0) (d : k ≠ 0) => ninv_zero hk b d Hm.out)
      have Hnine := Lib.hid (fun (a : 9 = k) (b : c.toNat = 1) => ninv_nine (l := l) (m := m) (U := U) b (a ▸ Hm.out))
      have Hmuch := Lib.hid (fun (a : 9 = k) (b : 1 < c.toNat) => ninv_much (l := l) (m := m) (U := U) b (a ▸ Hm.out))
      clear Hm
      generalize c.toNat = z at *
      have hz256 : z < 256 := hclt
      clear hclt
      by_cases h128 : z < 128
      · have hz : (z : Int) < 128 := by omega
        have hmod : (z : Int) % 128 = (z : Int) := by omega
        by_cases hz0 : z = 0 ∧ k ≠ 0
        · -- a last byte 0
          obtain ⟨hz0, hk0⟩ := hz0
          have Hr := Lib.hid (Hzero.out hz0 hk0)
          have hle : decide ((z : Int) ≤ 1) = true := by rw [decide_eq_true_eq]; omega
          have hk1 : ((7 * (k : Int)) == 0) = false := by rw [beq_eq_false_iff_ne]; omega
          clear Hon Hlast Hzero Hnine Hmuch hk0
          by_cases hk9 : k < 9
          all_goals
            first
              | (have hd : decide (((7 * k : Nat) : Int) < 63) = true := by rw [decide_eq_true_eq]; omega)
              | (have hd : decide (((7 * k : Nat) : Int) < 63) = false := by rw [decide_eq_false_iff_not]; omega)
            go_wp2_with (first
              | (go_at_call 95; refine HN.out.mono ?_; rintro e w' ⟨rfl, hs, ha⟩; have Hs2 := Lib.hid (Hs.out.trans hs); have Ha2 := Lib.hid ha; clear hs ha)
              | (go_at_call 84; ((with_reducible refine (need_ok _).mono ?_); rintro e w' ⟨rfl, rfl⟩))
              | (go_at_call 84; ((with_reducible refine (need_no _).mono ?_); rintro e w' ⟨rfl, rfl⟩)))
            exact ⟨rfl, .inr ⟨Hr.out, rfl, Hs2.out.below⟩⟩
        · have hU2 := bound_lt HU.out h128
          have hU3 : k ≤ 8 → 2 ^ (7 * (k + 1)) ≤ 9223372036854775808 := fun h => pow_le9 (by omega)
          by_cases hk9 : k < 9 ∨ z = 1
          · -- the last byte
            have hT : U + 2 ^ (7 * k) * z < 18446744073709551616 := by
              by_cases h9 : k < 9
              · have := hU3 (by omega); omega
              · have h1 : z = 1 := by omega
                have := Hp.out
                have := HU.out
                rw [h1]
                omega
            have Hr : Hid (M.rdN l = some (M.zag (U + 2 ^ (7 * k) * z), m)) := by
              rcases hk9 with h9 | h9
              · exact Hlast.out h9 h128 (by omega)
              · by_cases h10 : k < 9
                · exact Hlast.out h10 h128 (by omega)
                · obtain rfl : k = 9 := by omega
                  exact Hnine.out rfl h9
            have hor := or_shl U z k HU.out (by rw [Nat.mod_eq_of_lt h128]; omega)
            rw [hmod, Nat.mod_eq_of_lt h128] at hor
            have hle : k < 9 ∨ decide ((z : Int) ≤ 1) = true := by
              rcases hk9 with h9 | h9
              · exact .inl h9
              · exact .inr (by rw [decide_eq_true_eq]; omega)
            have hgt : ¬ z = 0 ∨ (z = 0 ∧ ((7 * (k : Int)) == 0) = true) := by
              by_cases h : z = 0
              · exact .inr ⟨h, by rw [beq_iff_eq]; omega⟩
              · exact .inl h
            generalize U + 2 ^ (7 * k) * z = T at *
            have hw := wrap_half T hT
            have hnn : (0 : Int) ≤ (T : Int) := by omega
            clear Hon Hlast Hzero Hnine Hmuch hz0 hU2 hU3 hk9
            by_cases hpar : T % 2 = 1
            · have hp : ((T : Int) % 2 == 1) = true := by rw [beq_iff_eq]; omega
              have hx : bits BinOp.xor IntKind.i64 (-1) ((T / 2 : Nat) : Int) = M.zag T := by rw [not_i64 _ (by omega)]; unfold M.zag; rw [if_pos hpar]
              have Hx := Lib.hid hx
              clear hpar hT hx
              rcases hgt with hgt | ⟨hgt, hgt2⟩
              · by_cases hk9 : k < 9
                · have hd : decide (((7 * k : Nat) : Int) < 63) = true := by rw [decide_eq_true_eq]; omega
                  clear hle
                  go_wp2_with (first
                    | (go_at_call 95; refine HN.out.mono ?_; rintro e w' ⟨rfl, hs, ha⟩; have Hs2 := Lib.hid (Hs.out.trans hs); have Ha2 := Lib.hid ha; clear hs ha)
                    | (go_at_call 84; ((with_reducible refine (need_ok _).mono ?_); rintro e w' ⟨rfl, rfl⟩)))
                  go_ret
                  exact .inl ⟨_, m, Hr.out, ret_i64 Hx.out, Hs2.out, Ha2.out⟩
                · have hd : decide (((7 * k : Nat) : Int) < 63) = false := by rw [decide_eq_false_iff_not]; omega
                  have hle := hle.resolve_left hk9
                  go_wp2_with (first
                    | (go_at_call 95; refine HN.out.mono ?_; rintro e w' ⟨rfl, hs, ha⟩; have Hs2 := Lib.hid (Hs.out.trans hs); have Ha2 := Lib.hid ha; clear hs ha)
                    | (go_at_call 84; ((with_reducible refine (need_ok _).mono ?_); rintro e w' ⟨rfl, rfl⟩)))
                  go_ret
                  exact .inl ⟨_, m, Hr.out, ret_i64 Hx.out, Hs2.out, Ha2.out⟩
              · have hk9 : k < 9 := by have := beq_iff_eq.1 hgt2; omega
                have hd : decide (((7 * k : Nat) : Int) < 63) = true := by rw [decide_eq_true_eq]; omega
                subst hgt
                have hor0 : bits BinOp.or IntKind.u64 (U : Int) 0 = (T : Int) := by
                  have e0 : IntKind.u64.wrap 0 = 0 := by decide +kernel
                  simpa [e0] using hor
                clear hle hor
                go_wp2_with (first
                  | (go_at_call 95; refine HN.out.mono ?_; rintro e w' ⟨rfl, hs, ha⟩; have Hs2 := Lib.hid (Hs.out.trans hs); have Ha2 := Lib.hid ha; clear hs ha)
                  | (go_at_call 84; ((with_reducible refine (need_ok _).mono ?_); rintro e w' ⟨rfl, rfl⟩)))
                go_ret
                exact .inl ⟨_, m, Hr.out, ret_i64 Hx.out, Hs2.out, Ha2.out⟩
            · have hp : ((T : Int) % 2 == 1) = false := by rw [beq_eq_false_iff_ne]; omega
              have hx : wrap64 ((T : Int) / 2) = M.zag T := by rw [hw]; unfold M.zag; rw [if_neg hpar]
              have Hx := Lib.hid hx
              clear hpar hT hx
              rcases hgt with hgt | ⟨hgt, hgt2⟩
              · by_cases hk9 : k < 9
                · have hd : decide (((7 * k : Nat) : Int) < 63) = true := by rw [decide_eq_true_eq]; omega
                  clear hle
                  go_wp2_with (first
                    | (go_at_call 95; refine HN.out.mono ?_; rintro e w' ⟨rfl, hs, ha⟩; have Hs2 := Lib.hid (Hs.out.trans hs); have Ha2 := Lib.hid ha; clear hs ha)
                    | (go_at_call 84; ((with_reducible refine (need_ok _).mono ?_); rintro e w' ⟨rfl, rfl⟩)))
                  go_ret
                  exact .inl ⟨_, m, Hr.out, ret_i64 Hx.out, Hs2.out, Ha2.out⟩
                · have hd : decide (((7 * k : Nat) : Int) < 63) = false := by rw [decide_eq_false_iff_not]; omega
                  have hle := hle.resolve_left hk9
                  go_wp2_with (first
                    | (go_at_call 95; refine HN.out.mono ?_; rintro e w' ⟨rfl, hs, ha⟩; have Hs2 := Lib.hid (Hs.out.trans hs); have Ha2 := Lib.hid ha; clear hs ha)
                    | (go_at_call 84; ((with_reducible refine (need_ok _).mono ?_); rintro e w' ⟨rfl, rfl⟩)))
                  go_ret
                  exact .inl ⟨_, m, Hr.out, ret_i64 Hx.out, Hs2.out, Ha2.out⟩
              · have hk9 : k < 9 := by have := beq_iff_eq.1 hgt2; omega
                have hd : decide (((7 * k : Nat) : Int) < 63) = true := by rw [decide_eq_true_eq]; omega
                subst hgt
                have hor0 : bits BinOp.or IntKind.u64 (U : Int) 0 = (T : Int) := by
                  have e0 : IntKind.u64.wrap 0 = 0 := by decide +kernel
                  simpa [e0] using hor
                clear hle hor
                go_wp2_with (first
                  | (go_at_call 95; refine HN.out.mono ?_; rintro e w' ⟨rfl, hs, ha⟩; have Hs2 := Lib.hid (Hs.out.trans hs); have Ha2 := Lib.hid ha; clear hs ha)
                  | (go_at_call 84; ((with_reducible refine (need_ok _).mono ?_); rintro e w' ⟨rfl, rfl⟩)))
                go_ret
                exact .inl ⟨_, m, Hr.out, ret_i64 Hx.out, Hs2.out, Ha2.out⟩
          · -- the tenth byte is too much
            obtain rfl : k = 9 := by omega
            have hd : decide ((z : Int) ≤ 1) = false := by rw [decide_eq_false_iff_not]; omega
            have Hr := Lib.hid (Hmuch.out rfl (by omega))
            clear Hon Hlast Hzero Hnine Hmuch hz0 hU2 hU3 hk9
            go_wp2_with (first
              | (go_at_call 95; refine HN.out.mono ?_; rintro e w' ⟨rfl, hs, ha⟩; have Hs2 := Lib.hid (Hs.out.trans hs); have Ha2 := Lib.hid ha; clear hs ha)
              | (go_at_call 84; refine (need_no _).mono ?_; rintro e w' ⟨rfl, rfl⟩))
            exact ⟨rfl, .inr ⟨Hr.out, rfl, Hs2.out.below⟩⟩
      · by_cases hk9 : k < 9
        · have hor := or_shl U z k HU.out (by have := bound_lt HU.out (show z % 128 < 128 by omega); have := pow_le9 (show k + 1 ≤ 9 by omega); omega)
          have hbd := Lib.hid (bound_lt HU.out (show z % 128 < 128 by omega))
          have hz : (128 : Int) ≤ (z : Int) := by omega
          have hd : decide (((7 * k : Nat) : Int) < 63) = true := by rw [decide_eq_true_eq]; omega
          have Hn := Lib.hid (Hon.out hk9 h128)
          generalize U + 2 ^ (7 * k) * (z % 128) = U2 at *
          clear Hon Hlast Hzero Hnine Hmuch
          go_wp2_with (first
            | (go_at_call 95; refine HN.out.mono ?_; rintro e w' ⟨rfl, hs, ha⟩; have Hs2 := Lib.hid (Hs.out.trans hs); have Ha2 := Lib.hid ha; clear hs ha)
            | (go_at_call 84; refine (need_ok _).mono ?_; rintro e w' ⟨rfl, rfl⟩))
          go_roundw
          case rel => exact ⟨k + 1, U2, m, by omega, by go_num, rfl, hbd.out, Hs2.out, Ha2.out, Hn.out⟩
          case measure => simp [intOf]; omega
        · obtain rfl : k = 9 := by omega
          have hd : decide ((z : Int) ≤ 1) = false := by rw [decide_eq_false_iff_not]; omega
          go_wp2_with (first
            | (go_at_call 95; refine HN.out.mono ?_; rintro e w' ⟨rfl, hs, ha⟩; have Hs2 := Lib.hid (Hs.out.trans hs); have Ha2 := Lib.hid ha; clear hs ha)
            | (go_at_call 84; refine (need_no _).mono ?_; rintro e w' ⟨rfl, rfl⟩))
          exact ⟨rfl, .inr ⟨Hmuch.out (by simp) (by omega), rfl, Hs2.out.below⟩⟩
end Go.Proofs.YtofhijnfbilieaaGreat.C
namespace Go.Proofs.YtofhijnfbilieaaGreat.C
open Go.RowKit
set_option linter.unusedVariables false
set_option linter.unusedSimpArgs false
set_option maxRecDepth 20000

theorem number_ok (w : World) (R : Nat) (l : List UInt8) (n : Int) (r : List UInt8) (h : At w R l) (hr : M.rdN l = some (n, r)) :
    Calls Tryz.prog 97 #[.pointer (some ⟨R, 0, none⟩)] w fun e w' => e = .returned (.int .i64 n) ∧ Stp R w w' ∧ At w' R r := by
  refine (number_any w R l h).mono ?_
  rintro e w' (⟨n', r', h1, h2, h3, h4⟩ | ⟨h1, _⟩)
  · rw [hr] at h1
    injection h1 with h1
    injection h1 with h5 h6
    subst h5 h6
    exact ⟨h2, h3, h4⟩
  · rw [hr] at h1; cases h1

theorem number_no (w : World) (R : Nat) (l : List UInt8) (h : At w R l) (hr : M.rdN l = none) :
    Calls Tryz.prog 97 #[.pointer (some ⟨R, 0, none⟩)] w fun e w' => e = .panicked [{ v := wrongs, recovered := false }] ∧ Below R w w' := by
  refine (number_any w R l h).mono ?_
  rintro e w' (⟨n', r', h1, h2, h3, h4⟩ | ⟨h1, h2, h3⟩)
  · rw [hr] at h1; cases h1
  · exact ⟨h2, h3⟩

/-- the struct in block T holds a kind and two slices -/
def Rec3 (w : World) (T : Nat) (k : Int) (aN : Option Addr) (nN cN : Nat) (aT : Option Addr) (nT cT : Nat) : Prop :=
  w.cell? ⟨T, 0, none⟩ = some (.int .i64 k) ∧ w.cell? ⟨T, 1, none⟩ = some (.slice aN nN cN) ∧ w.cell? ⟨T, 2, none⟩ = some (.slice aT nT cT) ∧
  w.frozen? ⟨T, 0, none⟩ = false ∧ w.frozen? ⟨T, 1, none⟩ = false ∧ w.frozen? ⟨T, 2, none⟩ = false

/-- nothing that was there below N has changed, but for block R -/
structure Mov (R N : Nat) (w w' : World) : Prop where
  os : w'.os = w.os
  tape : w'.tape = w.tape
  output : w'.output = w.output
  size : w.heap.size ≤ w'.heap.size
  block : ∀ k, k < N → k ≠ R → w'.heap[k]? = w.heap[k]?

theorem Mov.refl (R N : Nat) (w : World) : Mov R N w w := ⟨rfl, rfl, rfl, Nat.le_refl _, fun _ _ _ => rfl⟩
theorem Mov.stp {R N : Nat} {a b c : World} (h : Mov R N a b) (k : Stp R b c) : Mov R N a c :=
  ⟨k.os.trans h.os, k.tape.trans h.tape, k.output.trans h.output, Nat.le_trans h.size (Nat.le_of_eq k.size.symm), fun i hi hr => (k.block i hr).trans (h.block i hi hr)⟩
theorem Mov.below {R N B : Nat} {a b c : World} (h : Mov R N a b) (k : Below B b c) (hB : N ≤ B) : Mov R N a c :=
  ⟨k.os.trans h.os, k.tape.trans h.tape, k.output.trans h.output, Nat.le_trans h.size k.size, fun i hi hr => (k.block i (by omega)).trans (h.block i hi hr)⟩
theorem Mov.to_below {R N : Nat} {a b : World} (h : Mov R N a b) (hR : R ≤ N) : Below R a b :=
  ⟨h.os, h.tape, h.output, h.size, fun i hi => h.block i (by omega) (by omega)⟩

theorem at_below {w w' : World} {R B : Nat} {l : List UInt8} (h : At w R l) (hb : Below B w w') (hR : R < B) : At w' R l := by
  obtain ⟨a, n, cap, h1, h2, h3, h4⟩ := h
  refine ⟨a, n, cap, ?_, ?_, ?_, h4⟩
  · rw [hb.cell (p := ⟨R, 0, none⟩) hR]; exact h1
  · rw [hb.frozen (p := ⟨R, 0, none⟩) hR]; exact h2
  · obtain ⟨g1, g2, g3, g4⟩ := h3
    refine ⟨g1, g2, g3, ?_⟩
    rcases g4 with g4 | ⟨b, off, ha, hlt, hc⟩
    · exact .inl g4
    · rcases h4 with h4 | h4
      · subst h4; exact .inl rfl
      · have hbR : b < R := h4 _ ha
        exact .inr ⟨b, off, ha, Nat.lt_of_lt_of_le hlt hb.size, fun i hi => by rw [hb.cell (p := ⟨b, off + i, none⟩) (Nat.lt_trans hbR hR)]; exact hc i hi⟩

theorem at_lt {w : World} {R : Nat} {l : List UInt8} (h : At w R l) : R < w.heap.size := by
  obtain ⟨a, n, cap, h1, h2, h3, h4⟩ := h
  exact World.block_lt_of_cell? w _ h1

theorem at_alloc {w : World} {R : Nat} {l : List UInt8} (h : At w R l) (o : Obj) : At (w.alloc o) R l :=
  at_below h ((Below.refl _ _).alloc (Nat.le_refl _) o) (at_lt h)

theorem at_set {w : World} {R : Nat} {l : List UInt8} (h : At w R l) {p : Addr} (v : Value) (hp : R < p.block) : At (w.setCell p v) R l :=
  at_below h ((Below.refl p.block _).setCell (Nat.le_refl _) v) hp

theorem rec3_below {w w' : World} {T B : Nat} {k : Int} {aN : Option Addr} {nN cN : Nat} {aT : Option Addr} {nT cT : Nat} (h : Rec3 w T k aN nN cN aT nT cT) (hb : Below B w w') (hT : T < B) : Rec3 w' T k aN nN cN aT nT cT := by
  obtain ⟨h1, h2, h3, h4, h5, h6⟩ := h
  exact ⟨by rw [hb.cell (p := ⟨T, 0, none⟩) hT]; exact h1, by rw [hb.cell (p := ⟨T, 1, none⟩) hT]; exact h2, by rw [hb.cell (p := ⟨T, 2, none⟩) hT]; exact h3,
    by rw [hb.frozen (p := ⟨T, 0, none⟩) hT]; exact h4, by rw [hb.frozen (p := ⟨T, 1, none⟩) hT]; exact h5, by rw [hb.frozen (p := ⟨T, 2, none⟩) hT]; exact h6⟩

theorem rec3_stp {w w' : World} {T R : Nat} {k : Int} {aN : Option Addr} {nN cN : Nat} {aT : Option Addr} {nT cT : Nat} (h : Rec3 w T k aN nN cN aT nT cT) (hb : Stp R w w') (hT : T ≠ R) : Rec3 w' T k aN nN cN aT nT cT := by
  obtain ⟨h1, h2, h3, h4, h5, h6⟩ := h
  exact ⟨by rw [hb.cell 0 hT]; exact h1, by rw [hb.cell 1 hT]; exact h2, by rw [hb.cell 2 hT]; exact h3, by rw [hb.frozen 0 hT]; exact h4, by rw [hb.frozen 1 hT]; exact h5, by rw [hb.frozen 2 hT]; exact h6⟩

theorem rec3_new (w : World) (k : Int) : Rec3 (w.alloc (.cells #[.int .i64 k, .slice none 0 0, .slice none 0 0] 99)) w.heap.size k none 0 0 none 0 0 := by
  refine ⟨?_, ?_, ?_, ?_, ?_, ?_⟩ <;> first | (rw [World.cell?_alloc_mark]; rfl) | simp [World.frozen?, World.alloc, -World.alloc_eq]

theorem own_stp {e : TypeId} {w w' : World} {B R : Nat} {a : Option Addr} {n cap : Nat} {vs : List Value} (h : Own e w B a n cap vs) (hs : Stp R w w') (hR : R < B) : Own e w' B a n cap vs := by
  obtain ⟨h1, h2⟩ := h
  refine ⟨⟨h1.1, ?_⟩, h2⟩
  rcases h1.2 with h' | ⟨g, c, cur, hv, hg, hh, r⟩
  · exact .inl h'
  · exact .inr ⟨g, c, cur, hv, hg, by rw [hs.block g (by omega)]; exact hh, r⟩

/-- how things stand at a loop's head -/
structure RS (N R : Nat) (w wr : World) (kd : Int) (a : Option Addr) (n cap : Nat) (nums : List Int) (aT : Option Addr) (nT cT : Nat) (texts : List ByteArray) (m : List UInt8) : Prop where
  mov : Mov R N w wr
  hR : R < N
  size : N + 2 ≤ wr.heap.size
  res : Rec3 wr N 0 none 0 0 none 0 0
  own : Rec3 wr (N + 1) kd a n cap aT nT cT
  rn : Own 2 wr (N + 2) a n cap (i64s nums)
  rt : Own 9 wr (N + 2) aT nT cT (strs texts)
  apart : (Value.slice a n cap).ownBlock = none ∨ (Value.slice a n cap).ownBlock ≠ (Value.slice aT nT cT).ownBlock
  rest : At wr R m

theorem RS.stp {N R : Nat} {w wr w1 : World} {kd : Int} {a : Option Addr} {n cap : Nat} {nums : List Int} {aT : Option Addr} {nT cT : Nat} {texts : List ByteArray} {m m' : List UInt8}
    (h : RS N R w wr kd a n cap nums aT nT cT texts m) (hs : Stp R wr w1) (ha : At w1 R m') : RS N R w w1 kd a n cap nums aT nT cT texts m' :=
  ⟨h.mov.stp hs, h.hR, by have := h.size; have := hs.size; omega, rec3_stp h.res hs (by have := h.hR; omega), rec3_stp h.own hs (by have := h.hR; omega), own_stp h.rn hs (by have := h.hR; omega), own_stp h.rt hs (by have := h.hR; omega), h.apart, ha⟩

theorem RS.alloc {N R : Nat} {w wr : World} {kd : Int} {a : Option Addr} {n cap : Nat} {nums : List Int} {aT : Option Addr} {nT cT : Nat} {texts : List ByteArray} {m : List UInt8}
    (h : RS N R w wr kd a n cap nums aT nT cT texts m) (o : Obj) : RS N R w (wr.alloc o) kd a n cap nums aT nT cT texts m := by
  have hb := (Below.refl wr.heap.size wr).alloc (Nat.le_refl _) o
  have hz := h.size
  exact ⟨h.mov.below hb (by omega), h.hR, by simp; omega, rec3_below h.res hb (by omega), rec3_below h.own hb (by omega), own_below h.rn hb (Nat.le_refl _), own_below h.rt hb (Nat.le_refl _), h.apart, at_alloc h.rest o⟩

/-- an append to the numbers, and its store -/
theorem RS.num {N R : Nat} {w wr w3 : World} {kd : Int} {a a' : Option Addr} {n cap cap' : Nat} {nums : List Int} {m : List UInt8} {v : Int}
    (h : RS N R w wr kd a n cap nums none 0 0 [] m) (ho : Own 2 w3 (N + 2) a' (n + 1) cap' (i64s (nums ++ [v]))) (hb : Below (N + 2) wr w3) :
    RS N R w (w3.setCell ⟨N + 1, 1, none⟩ (.slice a' (n + 1) cap')) kd a' (n + 1) cap' (nums ++ [v]) none 0 0 [] m := by
  have hz := h.size
  have hR := h.hR
  have hset : Below (N + 1) w3 (w3.setCell ⟨N + 1, 1, none⟩ (.slice a' (n + 1) cap')) := (Below.refl _ _).setCell (p := ⟨N + 1, 1, none⟩) (Nat.le_refl _) _
  obtain ⟨r1, r2, r3, r4, r5, r6⟩ := rec3_below h.own hb (by omega)
  refine ⟨(h.mov.below hb (by omega)).below hset (by omega), hR, Nat.le_trans hz (Nat.le_trans hb.size hset.size), rec3_below (rec3_below h.res hb (by omega)) hset (by omega), ?_, own_set ho _ (by simp), own_nil _ _ _, ?_, at_set (at_below h.rest hb (by omega)) _ (by simp; omega)⟩
  · refine ⟨?_, World.cell?_setCell_same _ _ _ r2, ?_, ?_, ?_, ?_⟩
    · rw [World.cell?_setCell_other _ _ _ _ (by simp)]; exact r1
    · rw [World.cell?_setCell_other _ _ _ _ (by simp)]; exact r3
    · simpa using r4
    · simpa using r5
    · simpa using r6
  · cases a' with
    | none => exact .inl rfl
    | some x => exact .inr (by simp [Value.ownBlock])

/-- an append to the texts, and its store -/
theorem RS.text {N R : Nat} {w wr w3 : World} {kd : Int} {a aT' : Option Addr} {n cap : Nat} {nums : List Int} {aT : Option Addr} {nT cT cT' : Nat} {texts : List ByteArray} {m : List UInt8} {v : ByteArray}
    (h : RS N R w wr kd a n cap nums aT nT cT texts m) (ho : Own 9 w3 (N + 2) aT' (nT + 1) cT' (strs (texts ++ [v]))) (hb : Below (N + 2) wr w3) (hg : wr.grownBy w3 (Value.slice aT nT cT).ownBlock)
    (hat : (Value.slice aT' (nT + 1) cT').ownBlock = (Value.slice aT nT cT).ownBlock ∨ (Value.slice aT' (nT + 1) cT').ownBlock = some wr.heap.size) :
    RS N R w (w3.setCell ⟨N + 1, 2, none⟩ (.slice aT' (nT + 1) cT')) kd a n cap nums aT' (nT + 1) cT' (texts ++ [v]) m := by
  have hz := h.size
  have hR := h.hR
  have hset : Below (N + 1) w3 (w3.setCell ⟨N + 1, 2, none⟩ (.slice aT' (nT + 1) cT')) := (Below.refl _ _).setCell (p := ⟨N + 1, 2, none⟩) (Nat.le_refl _) _
  obtain ⟨r1, r2, r3, r4, r5, r6⟩ := rec3_below h.own hb (by omega)
  have hn : Own 2 w3 (N + 2) a n cap (i64s nums) := ⟨h.rn.1.kept hg h.apart, h.rn.2⟩
  refine ⟨(h.mov.below hb (by omega)).below hset (by omega), hR, Nat.le_trans hz (Nat.le_trans hb.size hset.size), rec3_below (rec3_below h.res hb (by omega)) hset (by omega), ?_, own_set hn _ (by simp), own_set ho _ (by simp), ?_, at_set (at_below h.rest hb (by omega)) _ (by simp; omega)⟩
  · refine ⟨?_, ?_, World.cell?_setCell_same _ _ _ r3, ?_, ?_, ?_⟩
    · rw [World.cell?_setCell_other _ _ _ _ (by simp)]; exact r1
    · rw [World.cell?_setCell_other _ _ _ _ (by simp)]; exact r2
    · simpa using r4
    · simpa using r5
    · simpa using r6
  · rcases hat with hat | hat
    · rw [hat]; exact h.apart
    · rw [hat]
      by_cases h0 : (Value.slice a n cap).ownBlock = none
      · exact .inl h0
      · refine .inr fun he => ?_
        have := (h.rn.1.lt _ he).2
        omega
end Go.Proofs.YtofhijnfbilieaaGreat.C
namespace Go.Proofs.YtofhijnfbilieaaGreat.C
open Go.RowKit
set_option linter.unusedVariables false
set_option linter.unusedSimpArgs false
set_option maxRecDepth 20000

/-- so far ns were read, m is ahead -/
def RN (l m : List UInt8) (K k : Nat) (ns : List Int) : Prop :=
  ns.length = k ∧ M.rdNs K l = match M.rdNs (K - k) m with | some (r, x) => some (ns ++ r, x) | none => none
def RT (l m : List UInt8) (K k : Nat) (ts : List ByteArray) : Prop :=
  ts.length = k ∧ M.rdTs K l = match M.rdTs (K - k) m with | some (r, x) => some (ts ++ r, x) | none => none

theorem rn_start (l : List UInt8) (K : Nat) : RN l l K 0 [] := by
  refine ⟨rfl, ?_⟩
  rw [Nat.sub_zero]
  cases M.rdNs K l with
  | none => rfl
  | some x => rfl
theorem rt_start (l : List UInt8) (K : Nat) : RT l l K 0 [] := by
  refine ⟨rfl, ?_⟩
  rw [Nat.sub_zero]
  cases M.rdTs K l with
  | none => rfl
  | some x => rfl
theorem rn_on {l m m' : List UInt8} {K k : Nat} {ns : List Int} {v : Int} (hk : k < K) (h : RN l m K k ns) (hr : M.rdN m = some (v, m')) : RN l m' K (k + 1) (ns ++ [v]) := by
  obtain ⟨h1, h2⟩ := h
  refine ⟨by simp [h1], ?_⟩
  rw [h2, show K - k = (K - (k + 1)) + 1 from by omega]
  simp only [M.rdNs, hr]
  cases M.rdNs (K - (k + 1)) m' with
  | none => rfl
  | some x => simp
theorem rt_on {l m m' : List UInt8} {K k : Nat} {ns : List ByteArray} {v : ByteArray} (hk : k < K) (h : RT l m K k ns) (hr : M.rdT m = some (v, m')) : RT l m' K (k + 1) (ns ++ [v]) := by
  obtain ⟨h1, h2⟩ := h
  refine ⟨by simp [h1], ?_⟩
  rw [h2, show K - k = (K - (k + 1)) + 1 from by omega]
  simp only [M.rdTs, hr]
  cases M.rdTs (K - (k + 1)) m' with
  | none => rfl
  | some x => simp
theorem rn_no {l m : List UInt8} {K k : Nat} {ns : List Int} (hk : k < K) (h : RN l m K k ns) (hr : M.rdN m = none) : M.rdNs K l = none := by
  obtain ⟨h1, h2⟩ := h
  rw [h2, show K - k = (K - (k + 1)) + 1 from by omega]
  simp only [M.rdNs, hr]
theorem rt_no {l m : List UInt8} {K k : Nat} {ns : List ByteArray} (hk : k < K) (h : RT l m K k ns) (hr : M.rdT m = none) : M.rdTs K l = none := by
  obtain ⟨h1, h2⟩ := h
  rw [h2, show K - k = (K - (k + 1)) + 1 from by omega]
  simp only [M.rdTs, hr]
theorem rn_end {l m : List UInt8} {K : Nat} {ns : List Int} (h : RN l m K K ns) : M.rdNs K l = some (ns, m) := by
  obtain ⟨h1, h2⟩ := h
  rw [h2, Nat.sub_self]
  simp [M.rdNs]
theorem rt_end {l m : List UInt8} {K : Nat} {ns : List ByteArray} (h : RT l m K K ns) : M.rdTs K l = some (ns, m) := by
  obtain ⟨h1, h2⟩ := h
  rw [h2, Nat.sub_self]
  simp [M.rdTs]

def RPost (R : Nat) (w : World) (l : List UInt8) (e : Ending) (w' : World) : Prop :=
  (∃ (r : M.Rc) (x : List UInt8) (a : Option Addr) (n cap : Nat) (aT : Option Addr) (nT cT : Nat), M.rdR l = some (r, x) ∧ e = .returned (.agg #[.int .i64 r.kind, .slice a n cap, .slice aT nT cT]) ∧
    Own 2 w' w.heap.size a n cap (i64s r.nums) ∧ Own 9 w' w.heap.size aT nT cT (strs r.texts) ∧ At w' R x ∧ Mov R w.heap.size w w') ∨
  (M.rdR l = none ∧ e = .panicked [{ v := wrongs, recovered := false }] ∧ Below R w w')

theorem row_i64_new (w : World) (v : Int) : Row (w.alloc (.cells #[.int .i64 v] 2)) (some ⟨w.heap.size, 0, none⟩) 1 1 (i64s [v]) := by
  refine ⟨rfl, by omega, by simp [maxLen], .inr ⟨w.heap.size, 0, rfl, by simp, fun i hi => ?_⟩⟩
  have : i = 0 := by omega
  subst this
  rw [World.cell?_alloc_mark]
  rfl
theorem row_str_new (w : World) (v : ByteArray) : Row (w.alloc (.cells #[.string v] 9)) (some ⟨w.heap.size, 0, none⟩) 1 1 (strs [v]) := by
  refine ⟨rfl, by omega, by simp [maxLen], .inr ⟨w.heap.size, 0, rfl, by simp, fun i hi => ?_⟩⟩
  have : i = 0 := by omega
  subst this
  rw [World.cell?_alloc_mark]
  rfl

theorem at_drew {w : World} {R : Nat} {l : List UInt8} (h : At w R l) : At w.drew R l := h
theorem Stp.of_drew {R : Nat} {w w' : World} (h : Stp R w.drew w') : Stp R w w' := ⟨h.os, h.tape, h.output, h.size, h.block⟩

theorem step_append_i64 (w : World) {ops : Array Oper} {o : Oper} {act : Act} {K : Act → World → Prop} {Q : Exit → Act → World → Prop} {E : Prop} (hgd : o.guard = none) (s x : Operand)
    (ho : o.op = .call { callee := .builtin .append, args := #[s, x], argTypes := #[82, 82] })
    (B : Nat) (a : Option Addr) (n cap : Nat) (l : List Int) (hs : act.eval s = .slice a n cap) (hown : Own 2 w B a n cap (i64s l))
    (A : Option Addr) (m c : Nat) (y : List Int) (hx : act.eval x = .slice A m c) (hr : Row w A m c (i64s y)) (hsum : n + m ≤ 1048576) (hB : B ≤ w.heap.size)
    (h : ∀ a' cap' w', Own 2 w' B a' (n + m) cap' (i64s (l ++ y)) → Below B w w' → K (act.put o.dst (.slice a' (n + m) cap')) w') :
    if Region.wanted o (yielded ops act.tmps) = true then Oper.wp Tryz.prog o act w K Q else E := by
  have hw : Region.wanted o (yielded ops act.tmps) = true := by simp [Region.wanted, hgd]
  rw [if_pos hw]
  obtain ⟨a', cap', w', hrun, h2, h3, _, _⟩ := run_append_i64 w o.type B a n cap l hown A m c y hr hsum hB
  unfold Oper.wp execOp
  simp only [ho, resolve, invoke, builtin, Sem.run_bind, Sem.run_pure, Result.andThen_ok, List.map_toArray, List.map_cons, List.map_nil, hs, hx, hrun]
  exact h a' cap' w' h2 h3

theorem step_append_str (w : World) {ops : Array Oper} {o : Oper} {act : Act} {K : Act → World → Prop} {Q : Exit → Act → World → Prop} {E : Prop} (hgd : o.guard = none) (s x : Operand)
    (ho : o.op = .call { callee := .builtin .append, args := #[s, x], argTypes := #[97, 97] })
    (B : Nat) (a : Option Addr) (n cap : Nat) (l : List ByteArray) (hs : act.eval s = .slice a n cap) (hown : Own 9 w B a n cap (strs l))
    (A : Option Addr) (m c : Nat) (y : List ByteArray) (hx : act.eval x = .slice A m c) (hr : Row w A m c (strs y)) (hsum : n + m ≤ 1048576) (hB : B ≤ w.heap.size)
    (h : ∀ a' cap' w', Own 9 w' B a' (n + m) cap' (strs (l ++ y)) → Below B w w' → w.grownBy w' (Value.slice a n cap).ownBlock →
      ((Value.slice a' (n + m) cap').ownBlock = (Value.slice a n cap).ownBlock ∨ (Value.slice a' (n + m) cap').ownBlock = some w.heap.size) → K (act.put o.dst (.slice a' (n + m) cap')) w') :
    if Region.wanted o (yielded ops act.tmps) = true then Oper.wp Tryz.prog o act w K Q else E := by
  have hw : Region.wanted o (yielded ops act.tmps) = true := by simp [Region.wanted, hgd]
  rw [if_pos hw]
  obtain ⟨a', cap', w', hrun, h2, h3, h4, h5⟩ := run_append_str w o.type B a n cap l hown A m c y hr hsum hB
  unfold Oper.wp execOp
  simp only [ho, resolve, invoke, builtin, Sem.run_bind, Sem.run_pure, Result.andThen_ok, List.map_toArray, List.map_cons, List.map_nil, hs, hx, hrun]
  exact h a' cap' w' h2 h3 h4 h5

theorem run31 (w : World) (v : Value) : (callFunc 97 #[v]).run Tryz.prog w = .ok (.enter 97 #[v]) w := by
  go_simp

theorem step_call31 (w : World) {ops : Array Oper} {o : Oper} {act : Act} {K : Act → World → Prop} {Q : Exit → Act → World → Prop} {E : Prop} (hgd : o.guard = none) (x : Operand)
    (ho : o.op = .call { callee := .value (.func 97), args := #[x], argTypes := #[157] }) (v : Value) (hx : act.eval x = v) (u : Value) {p : World → Prop}
    (hc : Calls Tryz.prog 97 #[v] w fun e w' => e = .returned u ∧ p w') (h : ∀ w', p w' → K (act.put o.dst u) w') :
    if Region.wanted o (yielded ops act.tmps) = true then Oper.wp Tryz.prog o act w K Q else E := by
  have hw : Region.wanted o (yielded ops act.tmps) = true := by simp [Region.wanted, hgd]
  rw [if_pos hw]
  have hrun : (execOp act.eval o).run Tryz.prog w = .ok (.enter 97 #[v]) w := by
    unfold execOp
    simp only [ho, resolve, invoke, Sem.run_bind, List.map_toArray, List.map_cons, List.map_nil, hx]
    rw [show act.eval (Operand.func 97) = .func (Fn.func 97) #[] #[] from rfl]
    simp [Deferred.ofValue, run31]
  unfold Oper.wp
  rw [hrun, Oper.upon_enter]
  exact hc.mono (fun e w' ⟨he, hp⟩ => by subst he; exact h w' hp)

theorem run32 (w : World) (v : Value) : (callFunc 98 #[v]).run Tryz.prog w = .ok (.enter 98 #[v]) w := by
  go_simp

theorem step_call32 (w : World) {ops : Array Oper} {o : Oper} {act : Act} {K : Act → World → Prop} {Q : Exit → Act → World → Prop} {E : Prop} (hgd : o.guard = none) (x : Operand)
    (ho : o.op = .call { callee := .value (.func 98), args := #[x], argTypes := #[157] }) (v : Value) (hx : act.eval x = v) (u : Value) {p : World → Prop}
    (hc : Calls Tryz.prog 98 #[v] w fun e w' => e = .returned u ∧ p w') (h : ∀ w', p w' → K (act.put o.dst u) w') :
    if Region.wanted o (yielded ops act.tmps) = true then Oper.wp Tryz.prog o act w K Q else E := by
  have hw : Region.wanted o (yielded ops act.tmps) = true := by simp [Region.wanted, hgd]
  rw [if_pos hw]
  have hrun : (execOp act.eval o).run Tryz.prog w = .ok (.enter 98 #[v]) w := by
    unfold execOp
    simp only [ho, resolve, invoke, Sem.run_bind, List.map_toArray, List.map_cons, List.map_nil, hx]
    rw [show act.eval (Operand.func 98) = .func (Fn.func 98) #[] #[] from rfl]
    simp [Deferred.ofValue, run32]
  unfold Oper.wp
  rw [hrun, Oper.upon_enter]
  exact hc.mono (fun e w' ⟨he, hp⟩ => by subst he; exact h w' hp)

theorem rs_start {w w1 w2 : World} {R : Nat} {q : Int} {l : List UInt8} (hR : R < w.heap.size) (h1 : Stp R (w.alloc (.cells #[.int .i64 0, .slice none 0 0, .slice none 0 0] 99)) w1) (hz : w1.heap.size = w.heap.size + 1)
    (h2 : Stp R (w1.alloc (.cells #[.int .i64 q, .slice none 0 0, .slice none 0 0] 99)) w2) (ha : At w2 R l) : RS w.heap.size R w w2 q none 0 0 [] none 0 0 [] l := by
  have b1 := (Below.refl w.heap.size w).alloc (Nat.le_refl _) (.cells #[.int .i64 0, .slice none 0 0, .slice none 0 0] 99)
  have b2 := (Below.refl w1.heap.size w1).alloc (Nat.le_refl _) (.cells #[.int .i64 q, .slice none 0 0, .slice none 0 0] 99)
  refine ⟨((((Mov.refl R w.heap.size w).below b1 (Nat.le_refl _)).stp h1).below b2 (by omega)).stp h2, hR, ?_, ?_, ?_, own_nil _ _ _, own_nil _ _ _, .inl rfl, ha⟩
  · have := h2.size
    have := b2.size
    simp at *
    omega
  · exact rec3_stp (rec3_below (rec3_stp (rec3_new w 0) h1 (by omega)) b2 (by omega)) h2 (by omega)
  · rw [← hz]
    exact rec3_stp (rec3_new w1 q) h2 (by omega)

theorem rdR_textsNo {kd c : UInt8} {l m : List UInt8} {ns : List Int} (h : M.rdNs (M.cN c.toNat) l = some (ns, m)) (h2 : M.rdTs (M.cT c.toNat) m = none) : M.rdR (kd :: c :: l) = none := by
  simp only [M.rdR, h, h2]
  split <;> rfl

theorem rdR_yes {kd c : UInt8} {l m x : List UInt8} {ns : List Int} {ts : List ByteArray} (h0 : M.cT c.toNat ≤ 4) (h : M.rdNs (M.cN c.toNat) l = some (ns, m)) (h2 : M.rdTs (M.cT c.toNat) m = some (ts, x)) :
    M.rdR (kd :: c :: l) = some (⟨kd.toNat, ns, ts⟩, x) := by
  simp only [M.rdR, h, h2]
  rw [if_pos h0]

theorem rdR_much {kd c : UInt8} {l : List UInt8} (h0 : ¬ M.cT c.toNat ≤ 4) : M.rdR (kd :: c :: l) = none := by
  simp only [M.rdR]
  rw [if_neg h0]

theorem below_twice {w w1 w2 : World} {R : Nat} {o o' : Obj} (hR : R < w.heap.size) (h1 : Stp R (w.alloc o) w1) (hz : w1.heap.size = w.heap.size + 1) (h2 : Below R (w1.alloc o') w2) : Below R w w2 :=
  ((((Below.refl R w).alloc (Nat.le_of_lt hR) o).trans h1.below).alloc (by omega) o').trans h2

theorem rs_end {N R : Nat} {w wr : World} {kd : Int} {a : Option Addr} {n cap : Nat} {nums : List Int} {aT : Option Addr} {nT cT : Nat} {texts : List ByteArray} {m : List UInt8}
    (h : RS N R w wr kd a n cap nums aT nT cT texts m) : 
    let w' := ((wr.setCell ⟨N, 0, none⟩ (.int .i64 kd)).setCell ⟨N, 1, none⟩ (.slice a n cap)).setCell ⟨N, 2, none⟩ (.slice aT nT cT)
    Own 2 w' N a n cap (i64s nums) ∧ Own 9 w' N aT nT cT (strs texts) ∧ At w' R m ∧ Mov R N w w' := by
  have hR := h.hR
  have b1 : Below N wr (((wr.setCell ⟨N, 0, none⟩ (.int .i64 kd)).setCell ⟨N, 1, none⟩ (.slice a n cap)).setCell ⟨N, 2, none⟩ (.slice aT nT cT)) :=
    (((Below.refl N wr).setCell (p := ⟨N, 0, none⟩) (Nat.le_refl _) _).setCell (p := ⟨N, 1, none⟩) (Nat.le_refl _) _).setCell (p := ⟨N, 2, none⟩) (Nat.le_refl _) _
  exact ⟨own_mono (own_set (own_set (own_set h.rn _ (by simp)) _ (by simp)) _ (by simp)) (by omega), own_mono (own_set (own_set (own_set h.rt _ (by simp)) _ (by simp)) _ (by simp)) (by omega), at_below h.rest b1 hR, h.mov.below b1 (Nat.le_refl _)⟩

theorem rdR_numsNo {kd c : UInt8} {l : List UInt8} (h : M.rdNs (M.cN c.toNat) l = none) : M.rdR (kd :: c :: l) = none := by
  simp only [M.rdR, h]
  split <;> rfl

set_option maxHeartbeats 2000000 in
theorem record_any (w : World) (R : Nat) (l : List UInt8) (h : At w R l) (hR : R < w.heap.size) :
    Calls Tryz.prog 83 #[.pointer (some ⟨R, 0, none⟩)] w (RPost R w l) := by
  cases l with
  | nil =>
    have H0 := Lib.hid (at_alloc h (.cells #[.int .i64 0, .slice none 0 0, .slice none 0 0] 99))
    have HR := Lib.hid hR
    clear h hR
    go_enter Tryz.func83, Tryz.ntmps83
    go_wp2_with (go_at_call 95; refine (next_no _ R H0.out).mono ?_; rintro e w1 ⟨rfl, hb⟩; have Hb := Lib.hid hb; clear hb)
    exact ⟨rfl, .inr ⟨rfl, rfl, ((Below.refl R w).alloc (Nat.le_of_lt HR.out) _).trans Hb.out⟩⟩
  | cons kd l =>
    cases l with
    | nil =>
      have hkd := kd.toNat_lt
      have H0 := Lib.hid (at_alloc h (.cells #[.int .i64 0, .slice none 0 0, .slice none 0 0] 99))
      have HN := fun (w1 : World) (h : At w1 R (kd :: [])) => next_ok w1 R kd [] h
      have HNh := Lib.hid HN
      have HCh := Lib.hid (fun (w1 : World) (h : At w1 R []) => counts_no w1 R [] h (fun c' r' he => by cases he))
      clear h HN
      generalize hq : kd.toNat = q at *
      have Hq := Lib.hid hq
      clear hq
      have hq1 : (q : Int) ≤ 256 := by omega
      have HR := Lib.hid hR
      clear hR hkd
      go_enter Tryz.func83, Tryz.ntmps83
      go_wp2_with (first
        | (go_at_call 95; refine (HNh.out _ H0.out).mono ?_; rintro e w1 ⟨rfl, hs, ha⟩; have Hs1 := Lib.hid hs; have hz1 : w1.heap.size = w.heap.size + 1 := (by have := hs.size; simpa using this); have Ha1 := Lib.hid (at_alloc ha (.cells #[.int .i64 (q : Int), .slice none 0 0, .slice none 0 0] 99)); clear hs ha)
        | (go_at_call 96; refine (HCh.out _ Ha1.out).mono ?_; rintro e w2 ⟨rfl, hb⟩; have Hb := Lib.hid hb; clear hb))
      exact ⟨rfl, .inr ⟨rfl, rfl, below_twice HR.out Hs1.out hz1 Hb.out⟩⟩
    | cons c l =>
      have hkd := kd.toNat_lt
      have H0 := Lib.hid (at_alloc h (.cells #[.int .i64 0, .slice none 0 0, .slice none 0 0] 99))
      have HN := fun (w1 : World) (h : At w1 R (kd :: c :: l)) => next_ok w1 R kd (c :: l) h
      clear h
      by_cases hc : M.cT c.toNat ≤ 4
      · have HC := fun (w1 : World) (h : At w1 R (c :: l)) => counts_ok w1 R c l h hc
        have HNh := Lib.hid HN
        have HCh := Lib.hid HC
        have Hc := Lib.hid hc
        clear HN HC hc
        generalize hq : kd.toNat = q at *
        have Hq := Lib.hid hq
        clear hq
        have hq1 : (q : Int) ≤ 256 := by omega
        generalize hK : M.cN c.toNat = K at *
        have HK := Lib.hid hK
        generalize hT : M.cT c.toNat = T at *
        have HT := Lib.hid hT
        clear hK hT
        have HR := Lib.hid hR
        have HK16 : Hid (K ≤ 16) := by have := HK.out; unfold M.cN at this; show K ≤ 16; split at this <;> omega
        clear hR hkd
        go_enter Tryz.func83, Tryz.ntmps83
        go_wp2_with (first
          | (go_at_call 95; refine (HNh.out _ H0.out).mono ?_; rintro e w1 ⟨rfl, hs, ha⟩; have Hs1 := Lib.hid hs; have hz1 : w1.heap.size = w.heap.size + 1 := (by have := hs.size; simpa using this); have Ha1 := Lib.hid (at_alloc ha (.cells #[.int .i64 (q : Int), .slice none 0 0, .slice none 0 0] 99)); clear hs ha)
          | (go_at_call 96; refine (HCh.out _ Ha1.out).mono ?_; rintro e w2 ⟨rfl, hs, ha⟩; have Hs2 := Lib.hid hs; have Ha2 := Lib.hid ha; clear hs ha))
        have Hz1 := Lib.hid hz1
        clear hz1
        have Hrs : Hid (RS w.heap.size R w w2 q none 0 0 [] none 0 0 [] l) := rs_start HR.out Hs1.out Hz1.out Hs2.out Ha2.out
        go_loopw [16] (fun i wr => ∃ (k : Nat) (ns : List Int) (m : List UInt8) (a : Option Addr) (cap : Nat), k ≤ K ∧ i = .int .i64 k ∧ RS w.heap.size R w wr q a k cap ns none 0 0 [] m ∧ RN l m K k ns) (fun i _ => K - (intOf i).toNat)
        case atStart => exact ⟨0, [], l, none, 0, by omega, rfl, Hrs.out, rn_start l K⟩
        case round =>
          obtain ⟨k, ns, m, a, cap, hk, rfl, hrs, hrn⟩ := hrel
          have Hr := Lib.hid hrs
          have Hn := Lib.hid hrn
          obtain ⟨c1, c2, c3, c4, c5, c6⟩ := hrs.own
          clear hrs hrn
          by_cases hlt : k < K
          · have hltI : (k : Int) < (K : Int) := by omega
            have hKI : (K : Int) ≤ 16 := by have := HK16.out; omega
            cases hv : M.rdN m with
            | none =>
              have HV := Lib.hid hv
              clear hv
              go_wp2_with fail
              go_region_dies
              all_goals
                refine (number_no _ R m (at_drew Hr.out.rest) HV.out).mono ?_
                rintro e w' ⟨rfl, hb⟩
                have Hb := Lib.hid hb
                clear hb
                exact ⟨rfl, .inr ⟨rdR_numsNo (HK.out ▸ rn_no hlt Hn.out HV.out), rfl, (Hr.out.mov.to_below (Nat.le_of_lt HR.out)).trans (Below.trans ((Below.refl _ _).drew) Hb.out)⟩⟩
            | some vm =>
              obtain ⟨v, m'⟩ := vm
              have HV := Lib.hid hv
              clear hv
              go_wp2_with fail
              go_region_law ((first
                  | (refine step_call31 _ rfl (.tmp 20) rfl _ rfl (.int .i64 v) (number_ok _ R m v m' (at_drew Hr.out.rest) HV.out) ?_
                     intro w3 ⟨hs, ha⟩
                     have Hr3 := Lib.hid (Hr.out.stp hs.of_drew ha)
                     have hc3 := Hr3.out.own.2.1
                     have hc3' := (Hr3.out.alloc (.cells #[.int .i64 v] 2)).own.2.1
                     clear hs ha)
                  | (refine step_append_i64 _ rfl (.tmp 19) (.tmp 22) rfl (w.heap.size + 2) a k cap ns rfl (Hr3.out.alloc _).rn _ 1 1 [v] rfl (row_i64_new _ v) (by have := HK16.out; omega) (Hr3.out.alloc _).size ?_
                     intro a4 cap4 w4 hown hbel
                     have hr4 := rec3_below (Hr3.out.alloc (.cells #[.int .i64 v] 2)).own hbel (by omega)
                     have hc4 := hr4.2.1
                     have hf4 := hr4.2.2.2.2.1
                     have Hr5 := Lib.hid ((Hr3.out.alloc (.cells #[.int .i64 v] 2)).num hown hbel)
                     clear hr4 hown hbel)))
              all_goals
                go_wp2_with fail
                go_roundw
                case rel => exact ⟨k + 1, ns ++ [v], m', a4, cap4, by omega, by go_num, Hr5.out, rn_on hlt Hn.out HV.out⟩
                case measure => simp [intOf]; omega
          · obtain rfl : k = K := by omega
            have HNs := Lib.hid (rn_end Hn.out)
            clear Hn c1 c2 c3 c4 c5 c6
            have hTI : (T : Int) ≤ 4 := by have := Hc.out; omega
            have hge : (k : Int) ≤ (k : Int) := Int.le_refl _
            go_wp2_with fail
            go_loopw [27] (fun i wr => ∃ (j : Nat) (ts : List ByteArray) (m2 : List UInt8) (aT : Option Addr) (capT : Nat), j ≤ T ∧ i = .int .i64 j ∧ RS w.heap.size R w wr q a k cap ns aT j capT ts m2 ∧ RT m m2 T j ts) (fun i _ => T - (intOf i).toNat)
            case atStart => exact ⟨0, [], m, none, 0, by omega, rfl, Hr.out, rt_start m T⟩
            case round =>
              clear Hr
              obtain ⟨j, ts, m2, aT, capT, hj, rfl, hrs, hrn⟩ := hrel
              have Hr := Lib.hid hrs
              have Hn := Lib.hid hrn
              obtain ⟨c1, c2, c3, c4, c5, c6⟩ := hrs.own
              obtain ⟨d1, d2, d3, d4, d5, d6⟩ := hrs.res
              clear hrs hrn
              by_cases hlt : j < T
              · have hltI : (j : Int) < (T : Int) := by omega
                cases hv : M.rdT m2 with
                | none =>
                  have HV := Lib.hid hv
                  clear hv
                  go_wp2_with fail
                  go_region_dies
                  all_goals
                    refine (text_no _ R m2 (at_drew Hr.out.rest) HV.out).mono ?_
                    rintro e w' ⟨rfl, hb⟩
                    have Hb := Lib.hid hb
                    clear hb
                    exact ⟨rfl, .inr ⟨rdR_textsNo (HK.out ▸ HNs.out) (HT.out ▸ rt_no hlt Hn.out HV.out), rfl, (Hr.out.mov.to_below (Nat.le_of_lt HR.out)).trans (Below.trans ((Below.refl _ _).drew) Hb.out)⟩⟩
                | some vm =>
                  obtain ⟨v, m'⟩ := vm
                  have HV := Lib.hid hv
                  clear hv
                  go_wp2_with fail
                  go_region_law ((first
                      | (refine step_call32 _ rfl (.tmp 31) rfl _ rfl (.string v) (text_ok _ R m2 v m' (at_drew Hr.out.rest) HV.out) ?_
                         intro w3 ⟨hs, ha⟩
                         have Hr3 := Lib.hid (Hr.out.stp hs.of_drew ha)
                         have hc3 := Hr3.out.own.2.2.1
                         have hc3' := (Hr3.out.alloc (.cells #[.string v] 9)).own.2.2.1
                         clear hs ha)
                      | (refine step_append_str _ rfl (.tmp 30) (.tmp 33) rfl (w.heap.size + 2) aT j capT ts rfl (Hr3.out.alloc _).rt _ 1 1 [v] rfl (row_str_new _ v) (by omega) (Hr3.out.alloc _).size ?_
                         intro a4 cap4 w4 hown hbel hgr hat
                         have hr4 := rec3_below (Hr3.out.alloc (.cells #[.string v] 9)).own hbel (by omega)
                         have hc4 := hr4.2.2.1
                         have hf4 := hr4.2.2.2.2.2
                         have Hr5 := Lib.hid ((Hr3.out.alloc (.cells #[.string v] 9)).text hown hbel hgr hat)
                         clear hr4 hown hbel hgr hat)))
                  all_goals
                    go_wp2_with fail
                    go_roundw
                    case rel => exact ⟨j + 1, ts ++ [v], m', a4, cap4, by omega, by go_num, Hr5.out, rt_on hlt Hn.out HV.out⟩
                    case measure => simp [intOf]; omega
              · obtain rfl : j = T := by omega
                have HTs := Lib.hid (rt_end Hn.out)
                clear Hn
                have hge2 : (j : Int) ≤ (j : Int) := Int.le_refl _
                go_wp2_with fail
                refine bodyPost_ret (v := .agg #[.int .i64 (q : Int), .slice a k cap, .slice aT j capT]) (by simp [results, Tryz.results83, go_sem, d1, d2, d3]) rfl ?_
                exact .inl ⟨⟨q, ns, ts⟩, m2, a, k, cap, aT, j, capT, by rw [← Hq.out]; exact rdR_yes (by rw [HT.out]; exact Hc.out) (HK.out ▸ HNs.out) (HT.out ▸ HTs.out), rfl, (rs_end Hr.out).1, (rs_end Hr.out).2.1, (rs_end Hr.out).2.2.1, (rs_end Hr.out).2.2.2⟩
      · have HC := fun (w1 : World) (h : At w1 R (c :: l)) => counts_no w1 R (c :: l) h (fun c' r' he => by injection he with he1 he2; subst he1; exact hc)
        have HNh := Lib.hid HN
        have HCh := Lib.hid HC
        have Hc := Lib.hid hc
        clear HN HC hc
        generalize hq : kd.toNat = q at *
        have Hq := Lib.hid hq
        clear hq
        have hq1 : (q : Int) ≤ 256 := by omega
        have HR := Lib.hid hR
        clear hR hkd
        go_enter Tryz.func83, Tryz.ntmps83
        go_wp2_with (first
          | (go_at_call 95; refine (HNh.out _ H0.out).mono ?_; rintro e w1 ⟨rfl, hs, ha⟩; have Hs1 := Lib.hid hs; have hz1 : w1.heap.size = w.heap.size + 1 := (by have := hs.size; simpa using this); have Ha1 := Lib.hid (at_alloc ha (.cells #[.int .i64 (q : Int), .slice none 0 0, .slice none 0 0] 99)); clear hs ha)
          | (go_at_call 96; refine (HCh.out _ Ha1.out).mono ?_; rintro e w2 ⟨rfl, hb⟩; have Hb := Lib.hid hb; clear hb))
        exact ⟨rfl, .inr ⟨rdR_much Hc.out, rfl, below_twice HR.out Hs1.out hz1 Hb.out⟩⟩
end Go.Proofs.YtofhijnfbilieaaGreat.C
namespace Go.Proofs.YtofhijnfbilieaaGreat.C
open Go.RowKit
set_option linter.unusedVariables false
set_option linter.unusedSimpArgs false
set_option maxRecDepth 20000

theorem catch_idle (p q : Addr) (w : World) :
    CallsD Tryz.prog 82 #[.pointer (some p), .pointer (some q)] .returning w fun e u' w' => e = .returned (.tuple #[]) ∧ u' = .returning ∧ w' = w := by
  refine callsD_of_wpS Tryz.func82 rfl fun c₀ cs hu => ?_
  apply wpS_seq
  apply wpS_region
  simp [wpOpsS, go_sem, recoverD, hu, Tryz.ntmps82, Exit.thenS]
  refine wpS_of_wp ?_
  show Code.wp Tryz.prog _ _ { tmps := #[.pointer (some p), .pointer (some q), .nilIface, .nilIface, undef, undef, undef, undef, undef], defers := [] } w
  go_wp2
  cases c₀
  simp_all [bodyPostS, results, Tryz.results82]

theorem fixed_world (w : World) (N : Nat) (k : Int) (aN : Option Addr) (nN cN : Nat) (aT : Option Addr) (nT cT : Nat) (e0 : Int) (h : Rec3 w N k aN nN cN aT nT cT) (he : w.cell? ⟨N + 1, 0, none⟩ = some (.int .i64 e0)) (hf : w.frozen? ⟨N + 1, 0, none⟩ = false) :
    let w' := ((((w.setCell ⟨N, 0, none⟩ (.int .i64 0)).setCell ⟨N, 1, none⟩ (.slice none 0 0)).setCell ⟨N, 2, none⟩ (.slice none 0 0)).setCell ⟨N + 1, 0, none⟩ (.int .i64 4)).drew
    Below N w w' ∧ Rec3 w' N 0 none 0 0 none 0 0 ∧ w'.cell? ⟨N + 1, 0, none⟩ = some (.int .i64 4) := by
  obtain ⟨c1, c2, c3, c4, c5, c6⟩ := h
  refine ⟨((((Below.refl N w).setCell (p := ⟨N, 0, none⟩) (Nat.le_refl _) _).setCell (p := ⟨N, 1, none⟩) (Nat.le_refl _) _).setCell (p := ⟨N, 2, none⟩) (Nat.le_refl _) _).setCell (p := ⟨N + 1, 0, none⟩) (by simp) _ |>.drew, ⟨?_, ?_, ?_, ?_, ?_, ?_⟩, ?_⟩
  all_goals go_simp

theorem catch_wrong (N : Nat) (k : Int) (aN : Option Addr) (nN cN : Nat) (aT : Option Addr) (nT cT : Nat) (e0 : Int) (older : List PanicEntry) (w : World) (h : Rec3 w N k aN nN cN aT nT cT) (he : w.cell? ⟨N + 1, 0, none⟩ = some (.int .i64 e0)) (hf : w.frozen? ⟨N + 1, 0, none⟩ = false) :
    CallsD Tryz.prog 82 #[.pointer (some ⟨N, 0, none⟩), .pointer (some ⟨N + 1, 0, none⟩)] (.panicking ({ v := wrongs, recovered := false } :: older)) w fun e u' w' =>
      e = .returned (.tuple #[]) ∧ u' = .panicking ({ v := wrongs, recovered := true } :: older) ∧ Below N w w' ∧ Rec3 w' N 0 none 0 0 none 0 0 ∧ w'.cell? ⟨N + 1, 0, none⟩ = some (.int .i64 4) := by
  obtain ⟨c1, c2, c3, c4, c5, c6⟩ := h
  refine callsD_of_wpS Tryz.func82 rfl fun c₀ cs hu => ?_
  apply wpS_seq
  apply wpS_region
  simp [wpOpsS, go_sem, recoverD, hu, Tryz.ntmps82, Exit.thenS]
  refine wpS_of_wp ?_
  show Code.wp Tryz.prog _ _ { tmps := #[.pointer (some ⟨N, 0, none⟩), .pointer (some ⟨N + 1, 0, none⟩), wrongs, wrongs, undef, undef, undef, undef, undef], defers := [] } w
  unfold wrongs
  have hta : ∀ w : World, (Instr.typeAssert (.iface 156 (.int .i64 4)) 20 156 false).run Tryz.prog w = .ok (.int .i64 4) w := fun _ => by kernel_rfl
  go_wp2
  go_region
  obtain ⟨f1, f2, f3⟩ := fixed_world w N k aN nN cN aT nT cT e0 ⟨c1, c2, c3, c4, c5, c6⟩ he hf
  exact ⟨rfl, _, rfl, .tuple #[], by simp [results, Tryz.results82], rfl, rfl, f1, f2, f3⟩

theorem mov_rec3 {w w' : World} {T R N : Nat} {k : Int} {aN : Option Addr} {nN cN : Nat} {aT : Option Addr} {nT cT : Nat} (h : Rec3 w T k aN nN cN aT nT cT) (hb : Mov R N w w') (hT : T < N) (hR : T ≠ R) : Rec3 w' T k aN nN cN aT nT cT := by
  obtain ⟨h1, h2, h3, h4, h5, h6⟩ := h
  have e := hb.block T hT hR
  have ec : ∀ o, w'.cell? ⟨T, o, none⟩ = w.cell? ⟨T, o, none⟩ := fun o => World.cell?_of_block e
  have ef : ∀ o, w'.frozen? ⟨T, o, none⟩ = w.frozen? ⟨T, o, none⟩ := fun o => World.frozen?_of_block e
  exact ⟨by rw [ec]; exact h1, by rw [ec]; exact h2, by rw [ec]; exact h3, by rw [ef]; exact h4, by rw [ef]; exact h5, by rw [ef]; exact h6⟩

/-- the world in which the reader begins -/
def opened (w : World) (a : Option Addr) (n cap : Nat) : World :=
  ((w.alloc (.cells #[.int .i64 0, .slice none 0 0, .slice none 0 0] 99)).alloc (.cells #[.int .i64 0] 29)).alloc (.cells #[.slice a n cap] 159)

theorem opened_below (w : World) (a : Option Addr) (n cap : Nat) : Below w.heap.size w (opened w a n cap) :=
  (((Below.refl _ w).alloc (Nat.le_refl _) _).alloc (by simp) _).alloc (by simp; omega) _

theorem opened_at {w : World} {a : Option Addr} {n cap : Nat} {l : List UInt8} (h : Row w a n cap (u8s l)) : At (opened w a n cap) (w.heap.size + 2) l := by
  refine ⟨a, n, cap, ?_, ?_, row_below h (opened_below w a n cap) (Nat.le_refl _), ?_⟩
  · unfold opened; go_simp
  · unfold opened; go_simp
  · rcases h.2.2.2 with h' | ⟨b, off, ha, hlt, _⟩
    · exact .inl (List.map_eq_nil_iff.1 h')
    · refine .inr fun x hx => ?_
      rw [ha] at hx
      injection hx with hx
      subst hx
      simp only
      omega

theorem opened_res (w : World) (a : Option Addr) (n cap : Nat) : Rec3 (opened w a n cap) w.heap.size 0 none 0 0 none 0 0 := by
  unfold opened
  refine ⟨?_, ?_, ?_, ?_, ?_, ?_⟩ <;> go_simp

theorem opened_err (w : World) (a : Option Addr) (n cap : Nat) : (opened w a n cap).cell? ⟨w.heap.size + 1, 0, none⟩ = some (.int .i64 0) ∧ (opened w a n cap).frozen? ⟨w.heap.size + 1, 0, none⟩ = false := by
  unfold opened
  constructor <;> go_simp

theorem opened_size (w : World) (a : Option Addr) (n cap : Nat) : (opened w a n cap).heap.size = w.heap.size + 3 := by
  unfold opened
  simp

/-- a record, as its three values -/
def RecIs (w : World) (N : Nat) (r : M.Rc) (v : Value) : Prop :=
  ∃ (a : Option Addr) (n cap : Nat) (aT : Option Addr) (nT cT : Nat), v = .agg #[.int .i64 r.kind, .slice a n cap, .slice aT nT cT] ∧ Own 2 w N a n cap (i64s r.nums) ∧ Own 9 w N aT nT cT (strs r.texts)

def zeroRec : Value := .agg #[.int .i64 0, .slice none 0 0, .slice none 0 0]

def DPost (w : World) (l : List UInt8) (e : Ending) (w' : World) : Prop :=
  Below w.heap.size w w' ∧ ((∃ r v, M.dec l = some r ∧ RecIs w' w.heap.size r v ∧ e = .returned (.tuple #[v, .int .i64 0])) ∨ (M.dec l = none ∧ e = .returned (.tuple #[zeroRec, .int .i64 4])))

theorem moved_below {R B N : Nat} {w w' : World} (h : Mov R B w w') (hR : N ≤ R ∧ N ≤ B) : Below N w w' :=
  ⟨h.os, h.tape, h.output, h.size, fun k hk => h.block k (by omega) (by omega)⟩

theorem final_world (w1 : World) (N : Nat) (kd : Int) (b : Option Addr) (nn nc : Nat) (bT : Option Addr) (nT cT : Nat) (g1 : w1.cell? ⟨N, 0, none⟩ = some (.int .i64 0)) (g2 : w1.cell? ⟨N, 1, none⟩ = some (.slice none 0 0)) (g3 : w1.cell? ⟨N, 2, none⟩ = some (.slice none 0 0))
    (he : w1.cell? ⟨N + 1, 0, none⟩ = some (.int .i64 0)) :
    let w2 := ((((((w1.setCell ⟨N, 0, none⟩ (.int .i64 kd)).setCell ⟨N, 1, none⟩ (.slice b nn nc)).setCell ⟨N, 2, none⟩ (.slice bT nT cT)).setCell ⟨N, 0, none⟩ (.int .i64 kd)).setCell ⟨N, 1, none⟩ (.slice b nn nc)).setCell ⟨N, 2, none⟩ (.slice bT nT cT)).setCell ⟨N + 1, 0, none⟩ (.int .i64 0)
    Below N w1 w2 ∧ w2.cell? ⟨N, 0, none⟩ = some (.int .i64 kd) ∧ w2.cell? ⟨N, 1, none⟩ = some (.slice b nn nc) ∧ w2.cell? ⟨N, 2, none⟩ = some (.slice bT nT cT) ∧ w2.cell? ⟨N + 1, 0, none⟩ = some (.int .i64 0) ∧
      (∀ (e : TypeId) (B : Nat) (a : Option Addr) (n cap : Nat) (vs : List Value), Own e w1 B a n cap vs → N + 2 ≤ B → Own e w2 B a n cap vs) ∧ True := by
  refine ⟨?_, ?_, ?_, ?_, ?_, ?_, trivial⟩
  · exact (((((((Below.refl N w1).setCell (p := ⟨N, 0, none⟩) (Nat.le_refl _) _).setCell (p := ⟨N, 1, none⟩) (Nat.le_refl _) _).setCell (p := ⟨N, 2, none⟩) (Nat.le_refl _) _).setCell (p := ⟨N, 0, none⟩) (Nat.le_refl _) _).setCell (p := ⟨N, 1, none⟩) (Nat.le_refl _) _).setCell (p := ⟨N, 2, none⟩) (Nat.le_refl _) _).setCell (p := ⟨N + 1, 0, none⟩) (by simp) _
  · go_simp
  · have x0 : (w1.setCell ⟨N, 0, none⟩ (.int .i64 kd)).cell? ⟨N, 1, none⟩ = some (.slice none 0 0) := by
      rw [World.cell?_setCell_other _ _ _ _ (by simp)]; exact g2
    have x1 : ((w1.setCell ⟨N, 0, none⟩ (.int .i64 kd)).setCell ⟨N, 1, none⟩ (.slice b nn nc)).cell? ⟨N, 1, none⟩ = some (.slice b nn nc) := World.cell?_setCell_same _ _ _ x0
    have x2 : ((((w1.setCell ⟨N, 0, none⟩ (.int .i64 kd)).setCell ⟨N, 1, none⟩ (.slice b nn nc)).setCell ⟨N, 2, none⟩ (.slice bT nT cT)).setCell ⟨N, 0, none⟩ (.int .i64 kd)).cell? ⟨N, 1, none⟩ = some (.slice b nn nc) := by
      rw [World.cell?_setCell_other _ _ _ _ (by simp), World.cell?_setCell_other _ _ _ _ (by simp)]; exact x1
    rw [World.cell?_setCell_other _ _ _ _ (by simp), World.cell?_setCell_other _ _ _ _ (by simp)]
    exact World.cell?_setCell_same _ _ _ x2
  · have x0 : ((w1.setCell ⟨N, 0, none⟩ (.int .i64 kd)).setCell ⟨N, 1, none⟩ (.slice b nn nc)).cell? ⟨N, 2, none⟩ = some (.slice none 0 0) := by
      rw [World.cell?_setCell_other _ _ _ _ (by simp), World.cell?_setCell_other _ _ _ _ (by simp)]; exact g3
    have x1 : (((w1.setCell ⟨N, 0, none⟩ (.int .i64 kd)).setCell ⟨N, 1, none⟩ (.slice b nn nc)).setCell ⟨N, 2, none⟩ (.slice bT nT cT)).cell? ⟨N, 2, none⟩ = some (.slice bT nT cT) := World.cell?_setCell_same _ _ _ x0
    have x2 : (((((w1.setCell ⟨N, 0, none⟩ (.int .i64 kd)).setCell ⟨N, 1, none⟩ (.slice b nn nc)).setCell ⟨N, 2, none⟩ (.slice bT nT cT)).setCell ⟨N, 0, none⟩ (.int .i64 kd)).setCell ⟨N, 1, none⟩ (.slice b nn nc)).cell? ⟨N, 2, none⟩ = some (.slice bT nT cT) := by
      rw [World.cell?_setCell_other _ _ _ _ (by simp), World.cell?_setCell_other _ _ _ _ (by simp)]; exact x1
    rw [World.cell?_setCell_other _ _ _ _ (by simp)]
    exact World.cell?_setCell_same _ _ _ x2
  · go_simp
  · intro e B a n cap vs h hB
    exact own_set (own_set (own_set (own_set (own_set (own_set (own_set h _ (by simp only; omega)) _ (by simp only; omega)) _ (by simp only; omega)) _ (by simp only; omega)) _ (by simp only; omega)) _ (by simp only; omega)) _ (by simp only; omega)

theorem half_world (w1 : World) (N : Nat) (kd : Int) (b : Option Addr) (nn nc : Nat) (bT : Option Addr) (nT cT : Nat) (h : Rec3 w1 N 0 none 0 0 none 0 0)
    (he : w1.cell? ⟨N + 1, 0, none⟩ = some (.int .i64 0)) (hf : w1.frozen? ⟨N + 1, 0, none⟩ = false) :
    let w2 := ((w1.setCell ⟨N, 0, none⟩ (.int .i64 kd)).setCell ⟨N, 1, none⟩ (.slice b nn nc)).setCell ⟨N, 2, none⟩ (.slice bT nT cT)
    Below N w1 w2 ∧ Rec3 w2 N kd b nn nc bT nT cT ∧ w2.cell? ⟨N + 1, 0, none⟩ = some (.int .i64 0) ∧ w2.frozen? ⟨N + 1, 0, none⟩ = false := by
  obtain ⟨g1, g2, g3, g4, g5, g6⟩ := h
  refine ⟨(((Below.refl N w1).setCell (p := ⟨N, 0, none⟩) (Nat.le_refl _) _).setCell (p := ⟨N, 1, none⟩) (Nat.le_refl _) _).setCell (p := ⟨N, 2, none⟩) (Nat.le_refl _) _, ⟨?_, ?_, ?_, ?_, ?_, ?_⟩, ?_, ?_⟩
  all_goals go_simp

theorem dec_nil {l : List UInt8} {r : M.Rc} (h : M.rdR l = some (r, [])) : M.dec l = some r := by unfold M.dec; rw [h]
theorem dec_cons {l : List UInt8} {r : M.Rc} {z : UInt8} {zs : List UInt8} (h : M.rdR l = some (r, z :: zs)) : M.dec l = none := by unfold M.dec; rw [h]

set_option maxHeartbeats 1000000 in
theorem decode_any (w : World) (a : Option Addr) (n cap : Nat) (l : List UInt8) (h : Row w a n cap (u8s l)) :
    Calls Tryz.prog 67 #[.slice a n cap] w (DPost w l) := by
  have hmf : ∀ (fn : Fn) (first cap : Array Value) (w : World), (Instr.makeFunc fn first cap).run Tryz.prog w = .ok (.func fn first cap) w := fun _ _ _ _ => rfl
  have HR := Lib.hid (record_any (opened w a n cap) (w.heap.size + 2) l (opened_at h) (by rw [opened_size]; omega))
  clear h
  go_enter_defers Tryz.func67, Tryz.ntmps67
  go_wp2_with fail
  change Calls Tryz.prog 83 _ (opened w a n cap) _
  refine HR.out.mono ?_
  rintro e w1 (⟨r, x, b, nn, nc, bT, nT, cT, h1, rfl, hn, ht, hat, hmov⟩ | ⟨h1, rfl, hb⟩)
  · obtain ⟨g1, g2, g3, g4, g5, g6⟩ := mov_rec3 (opened_res w a n cap) hmov (by rw [opened_size]; omega) (by omega)
    have hfe := hmov.block (w.heap.size + 1) (by rw [opened_size]; omega) (by omega)
    have he := (World.cell?_of_block (a := ⟨w.heap.size + 1, 0, none⟩) hfe).trans (opened_err w a n cap).1
    have hf := (World.frozen?_of_block (a := ⟨w.heap.size + 1, 0, none⟩) hfe).trans (opened_err w a n cap).2
    obtain ⟨xa, xn, xc, hx1, hx2, hx3, hx4⟩ := hat
    have Hn := Lib.hid hn
    have Ht := Lib.hid ht
    have Hm := Lib.hid hmov
    have Hd := Lib.hid h1
    clear hn ht hmov h1 hfe hx4
    cases x with
    | nil =>
      have hxn : xn = 0 := by have := hx3.1; simpa [u8s] using this.symm
      subst hxn
      clear hx3
      go_wp2_with (go_at_call 84; refine (need_ok _).mono ?_; rintro e w' ⟨rfl, rfl⟩)
      obtain ⟨k1, k2, k3, k4, k5, k6, k7⟩ := final_world w1 w.heap.size r.kind b nn nc bT nT cT g1 g2 g3 he
      generalize (((((((w1.setCell ⟨w.heap.size, 0, none⟩ (.int .i64 r.kind)).setCell ⟨w.heap.size, 1, none⟩ (.slice b nn nc)).setCell ⟨w.heap.size, 2, none⟩ (.slice bT nT cT)).setCell ⟨w.heap.size, 0, none⟩ (.int .i64 r.kind)).setCell ⟨w.heap.size, 1, none⟩ (.slice b nn nc)).setCell ⟨w.heap.size, 2, none⟩ (.slice bT nT cT)).setCell ⟨w.heap.size + 1, 0, none⟩ (.int .i64 0)) = w2 at *
      refine leaves_cons (f := 82) (args := #[.pointer (some ⟨w.heap.size, 0, none⟩), .pointer (some ⟨w.heap.size + 1, 0, none⟩)]) (by simp) (by simp [go_sem]) ?_
      refine (catch_idle ⟨w.heap.size, 0, none⟩ ⟨w.heap.size + 1, 0, none⟩ _).mono ?_
      rintro e u' w'' ⟨rfl, rfl, rfl⟩
      have Hp : Hid (DPost w l (.returned (.tuple #[.agg #[.int .i64 r.kind, .slice b nn nc, .slice bT nT cT], .int .i64 0])) _) :=
        ⟨((opened_below w a n cap).trans (moved_below Hm.out ⟨by omega, by rw [opened_size]; omega⟩)).trans k1, .inl ⟨r, _, dec_nil Hd.out, ⟨b, nn, nc, bT, nT, cT, rfl, own_mono (k6 _ _ _ _ _ _ Hn.out (by rw [opened_size]; omega)) (by rw [opened_size]; omega), own_mono (k6 _ _ _ _ _ _ Ht.out (by rw [opened_size]; omega)) (by rw [opened_size]; omega)⟩, rfl⟩⟩
      simp only [Leaves, settle]
      refine ⟨_, ?_, Hp.out⟩
      simp [results, Tryz.results67, go_sem, k2, k3, k4, k5]
    | cons z zs =>
      have hxn : ¬ xn = 0 := by have := hx3.1; simp [u8s] at this; omega
      have hxlim := hx3.2
      have hxn2 : ((xn : Int) == 0) = false := by rw [beq_eq_false_iff_ne]; omega
      clear hx3 hxlim
      go_wp2_with (go_at_call 84; refine (need_no _).mono ?_; rintro e w' ⟨rfl, rfl⟩)
      obtain ⟨k1, k2, k3, k4⟩ := half_world w1 w.heap.size r.kind b nn nc bT nT cT ⟨g1, g2, g3, g4, g5, g6⟩ he hf
      generalize (((w1.setCell ⟨w.heap.size, 0, none⟩ (.int .i64 r.kind)).setCell ⟨w.heap.size, 1, none⟩ (.slice b nn nc)).setCell ⟨w.heap.size, 2, none⟩ (.slice bT nT cT)) = w2 at *
      refine leaves_cons (f := 82) (args := #[.pointer (some ⟨w.heap.size, 0, none⟩), .pointer (some ⟨w.heap.size + 1, 0, none⟩)]) (by simp) (by simp [go_sem]) ?_
      refine (catch_wrong w.heap.size r.kind b nn nc bT nT cT 0 [] w2 k2 k3 k4).mono ?_
      rintro e u' w3 ⟨rfl, rfl, hb2, ⟨g1, g2, g3, g4, g5, g6⟩, hw⟩
      have Hp : Hid (DPost w l (.returned (.tuple #[zeroRec, .int .i64 4])) w3) := ⟨(((opened_below w a n cap).trans (moved_below Hm.out ⟨by omega, by rw [opened_size]; omega⟩)).trans k1).trans hb2, .inr ⟨dec_cons Hd.out, rfl⟩⟩
      simp only [Leaves, settle]
      refine ⟨_, ?_, Hp.out⟩
      simp [results, Tryz.results67, go_sem, g1, g2, g3, hw]
      rfl
  · obtain ⟨he, hf⟩ := opened_err w a n cap
    have hres := rec3_below (opened_res w a n cap) hb (by omega)
    have he2 : w1.cell? ⟨w.heap.size + 1, 0, none⟩ = some (.int .i64 0) := by rw [hb.cell (p := ⟨w.heap.size + 1, 0, none⟩) (by simp)]; exact he
    have hf2 : w1.frozen? ⟨w.heap.size + 1, 0, none⟩ = false := by rw [hb.frozen (p := ⟨w.heap.size + 1, 0, none⟩) (by simp)]; exact hf
    refine leaves_cons (f := 82) (args := #[.pointer (some ⟨w.heap.size, 0, none⟩), .pointer (some ⟨w.heap.size + 1, 0, none⟩)]) (by simp) (by simp [go_sem]) ?_
    refine (catch_wrong w.heap.size 0 none 0 0 none 0 0 0 [] w1 hres he2 hf2).mono ?_
    rintro e u' w2 ⟨rfl, rfl, hb2, ⟨g1, g2, g3, g4, g5, g6⟩, hw⟩
    have Hp : Hid (DPost w l (.returned (.tuple #[zeroRec, .int .i64 4])) w2) := ⟨((opened_below w a n cap).trans (hb.mono (by omega))).trans hb2, .inr ⟨by unfold M.dec; rw [h1], rfl⟩⟩
    simp [Leaves, settle, results, Tryz.results67, go_sem, g1, g2, g3, hw]
    exact Hp.out
end Go.Proofs.YtofhijnfbilieaaGreat.C
namespace Go.Proofs.YtofhijnfbilieaaGreat.C
open Go.RowKit
set_option linter.unusedVariables false
set_option linter.unusedSimpArgs false
set_option maxRecDepth 20000

/-- a record that lies somewhere, as its three values -/
structure RecAt (w : World) (r : M.Rc) (aN : Option Addr) (nN cN : Nat) (aT : Option Addr) (nT cT : Nat) : Prop where
  nums : Row w aN nN cN (i64s r.nums)
  texts : Row w aT nT cT (strs r.texts)

theorem RecAt.lenN {w : World} {r : M.Rc} {aN : Option Addr} {nN cN : Nat} {aT : Option Addr} {nT cT : Nat} (h : RecAt w r aN nN cN aT nT cT) : nN = r.nums.length := by
  have := h.nums.1; rw [i64s_length] at this; exact this.symm
theorem RecAt.lenT {w : World} {r : M.Rc} {aN : Option Addr} {nN cN : Nat} {aT : Option Addr} {nT cT : Nat} (h : RecAt w r aN nN cN aT nT cT) : nT = r.texts.length := by
  have := h.texts.1; rw [strs_length] at this; exact this.symm
theorem RecAt.below {w w' : World} {r : M.Rc} {aN : Option Addr} {nN cN : Nat} {aT : Option Addr} {nT cT : Nat} (h : RecAt w r aN nN cN aT nT cT) {B : Nat} (hb : Below B w w') (hB : w.heap.size ≤ B) : RecAt w' r aN nN cN aT nT cT :=
  ⟨row_below h.nums hb hB, row_below h.texts hb hB⟩

theorem count_any (w : World) (n t : Nat) (hn : n ≤ 16) (ht : t ≤ 4) :
    Calls Tryz.prog 90 #[.int .i64 (n : Int), .int .i64 (t : Int)] w fun e w' => e = .returned (.int .u8 (M.cnt n t : Int)) ∧ w = w' := by
  by_cases h : n = 16
  · have e : M.cnt n t = 240 + t := by unfold M.cnt; rw [if_pos h]
    have hb : ((n : Int) == 16) = true := by rw [beq_iff_eq]; omega
    have ew : IntKind.u8.wrap (240 + (t : Int)) = ((240 + t : Nat) : Int) := by
      simp [IntKind.wrap, IntKind.bits, IntKind.signed]; omega
    have E := Lib.hid e
    have hlo : (0 : Int) ≤ (t : Int) := by omega
    have hhi : (t : Int) ≤ 4 := by omega
    clear e h
    go_enter Tryz.func90, Tryz.ntmps90
    go_wp2
    go_ret
    exact ⟨by rw [E.out]; first | rfl | (rw [← ew]; rfl), rfl⟩
  · have e : M.cnt n t = n + 16 * t := by unfold M.cnt; rw [if_neg h]
    have hb : ((n : Int) == 16) = false := by rw [beq_eq_false_iff_ne]; omega
    have ew : IntKind.u8.wrap ((n : Int) + 16 * (t : Int)) = ((n + 16 * t : Nat) : Int) := by
      simp [IntKind.wrap, IntKind.bits, IntKind.signed]; omega
    have E := Lib.hid e
    have hlo : (0 : Int) ≤ (t : Int) := by omega
    have hhi : (t : Int) ≤ 4 := by omega
    have hlo1 : (0 : Int) ≤ (n : Int) := by omega
    have hhi1 : (n : Int) ≤ 16 := by omega
    clear e h
    go_enter Tryz.func90, Tryz.ntmps90
    go_wp2
    go_ret
    exact ⟨by rw [E.out]; first | rfl | (rw [← ew]; rfl), rfl⟩

/-! may it be? -/
theorem row_str {w : World} {a : Option Addr} {n cap : Nat} {ts : List ByteArray} (h : Row w a n cap (strs ts)) (k : Nat) (hk : k < n) :
    ∃ b off t, a = some ⟨b, off, none⟩ ∧ b < w.heap.size ∧ ts[k]? = some t ∧ w.cell? ⟨b, off + k, none⟩ = some (.string t) := by
  obtain ⟨h1, h2, h3, h4⟩ := h
  rw [strs_length] at h1
  rcases h4 with h4 | ⟨b, off, ha, hb, hc⟩
  · have := congrArg List.length h4; rw [strs_length, List.length_nil] at this; omega
  · refine ⟨b, off, ts[k]'(by omega), ha, hb, List.getElem?_eq_getElem _, ?_⟩
    rw [hc k hk]
    simp [strs, List.getElem?_eq_getElem (show k < ts.length by omega)]

theorem row_i64 {w : World} {a : Option Addr} {n cap : Nat} {ts : List Int} (h : Row w a n cap (i64s ts)) (k : Nat) (hk : k < n) :
    ∃ b off t, a = some ⟨b, off, none⟩ ∧ b < w.heap.size ∧ ts[k]? = some t ∧ w.cell? ⟨b, off + k, none⟩ = some (.int .i64 t) := by
  obtain ⟨h1, h2, h3, h4⟩ := h
  rw [i64s_length] at h1
  rcases h4 with h4 | ⟨b, off, ha, hb, hc⟩
  · have := congrArg List.length h4; rw [i64s_length, List.length_nil] at this; omega
  · refine ⟨b, off, ts[k]'(by omega), ha, hb, List.getElem?_eq_getElem _, ?_⟩
    rw [hc k hk]
    simp [i64s, List.getElem?_eq_getElem (show k < ts.length by omega)]

theorem row_u8 {w : World} {a : Option Addr} {n cap : Nat} {ts : List UInt8} (h : Row w a n cap (u8s ts)) (k : Nat) (hk : k < n) :
    ∃ b off t, a = some ⟨b, off, none⟩ ∧ b < w.heap.size ∧ ts[k]? = some t ∧ w.cell? ⟨b, off + k, none⟩ = some (.int .u8 (t.toNat : Int)) := by
  obtain ⟨h1, h2, h3, h4⟩ := h
  rw [u8s_length] at h1
  rcases h4 with h4 | ⟨b, off, ha, hb, hc⟩
  · have := congrArg List.length h4; rw [u8s_length, List.length_nil] at this; omega
  · refine ⟨b, off, ts[k]'(by omega), ha, hb, List.getElem?_eq_getElem _, ?_⟩
    rw [hc k hk]
    simp [u8s, u8, List.getElem?_eq_getElem (show k < ts.length by omega)]

theorem take_one {α : Type} {l : List α} {k : Nat} {t : α} (h : l[k]? = some t) : l.take (k + 1) = l.take k ++ [t] := by
  obtain ⟨hk, rfl⟩ := List.getElem?_eq_some_iff.1 h
  exact List.take_succ_eq_append_getElem hk

theorem may_texts (w : World) (r : M.Rc) (aN : Option Addr) (nN cN : Nat) (aT : Option Addr) (nT cT : Nat) (h : RecAt w r aN nN cN aT nT cT) (hk : 0 ≤ r.kind ∧ r.kind ≤ 255) (h1 : nN ≤ 16) (h2 : nT ≤ 4) :
    Calls Tryz.prog 89 #[.agg #[.int .i64 r.kind, .slice aN nN cN, .slice aT nT cT]] w fun e w' => e = .returned (.bool (r.texts.all fun t => decide (t.size ≤ 200))) ∧ Below w.heap.size w w' := by
  obtain ⟨hk1, hk2⟩ := hk
  have g1 : decide ((16 : Int) < (nN : Int)) = false := by rw [decide_eq_false_iff_not]; omega
  have g2 : decide ((4 : Int) < (nT : Int)) = false := by rw [decide_eq_false_iff_not]; omega
  have g3 : decide (r.kind < 0) = false := by rw [decide_eq_false_iff_not]; omega
  have g4 : decide (255 < r.kind) = false := by rw [decide_eq_false_iff_not]; omega
  have HT := Lib.hid h.texts
  have hT4 : (nT : Int) ≤ 4 := by omega
  clear h
  go_enter Tryz.func89, Tryz.ntmps89
  go_wp2
  go_loop [28] (fun i => ∃ k : Nat, k ≤ nT ∧ i = .int .i64 k ∧ ∀ t ∈ r.texts.take k, t.size ≤ 200) (fun i => nT - (intOf i).toNat)
  case atStart => exact ⟨0, by omega, rfl, by simp⟩
  case round =>
    obtain ⟨k, hkl, rfl, hall⟩ := hrel
    have Hall := Lib.hid hall
    clear hall
    by_cases hlt : k < nT
    · obtain ⟨b, off, t, rfl, hb, ht, hc⟩ := row_str HT.out k hlt
      have hlim := HT.out.2
      have hltI : (k : Int) < (nT : Int) := by omega
      have hc' : (w.alloc (.cells #[.int .i64 r.kind, .slice aN nN cN, .slice (some ⟨b, off, none⟩) nT cT] 99)).cell? ⟨b, off + k, none⟩ = some (.string t) := by
        rw [((Below.refl w.heap.size w).alloc (Nat.le_refl _) _).cell (p := ⟨b, off + k, none⟩) hb]; exact hc
      have Ht := Lib.hid ht
      clear ht hc hlim
      by_cases h200 : t.size ≤ 200
      · have hs : (t.size : Int) ≤ 200 := by omega
        have H2 := Lib.hid h200
        clear h200
        go_wp2
        go_round
        case rel => exact ⟨k + 1, by omega, by go_num, fun x hx => by
          rw [take_one Ht.out] at hx
          rcases List.mem_append.1 hx with hx | hx
          · exact Hall.out x hx
          · rw [List.mem_singleton.1 hx]; exact H2.out⟩
        case measure => simp [intOf]; omega
      · have hs : (200 : Int) < (t.size : Int) := by omega
        have H2 := Lib.hid h200
        clear h200
        go_wp2
        go_ret
        refine ⟨?_, (Below.refl _ _).alloc (Nat.le_refl _) _⟩
        have : (r.texts.all fun t => decide (t.size ≤ 200)) = false := by
          rw [List.all_eq_false]
          exact ⟨t, List.mem_of_getElem? Ht.out, by simpa using H2.out⟩
        rw [this]
        rfl
    · obtain rfl : k = nT := by omega
      have hge : (k : Int) ≤ (k : Int) := Int.le_refl _
      go_wp2
      go_ret
      refine ⟨?_, (Below.refl _ _).alloc (Nat.le_refl _) _⟩
      have hl : r.texts.take k = r.texts := List.take_of_length_le (by have := HT.out.1; rw [strs_length] at this; omega)
      have : (r.texts.all fun t => decide (t.size ≤ 200)) = true := by
        rw [List.all_eq_true]
        intro x hx
        rw [decide_eq_true_eq]
        exact Hall.out x (by rw [hl]; exact hx)
      rw [this]
      rfl

theorem may_yes (w : World) (r : M.Rc) (aN : Option Addr) (nN cN : Nat) (aT : Option Addr) (nT cT : Nat) (h : RecAt w r aN nN cN aT nT cT) (hm : M.May r) :
    Calls Tryz.prog 89 #[.agg #[.int .i64 r.kind, .slice aN nN cN, .slice aT nT cT]] w fun e w' => e = .returned (.bool true) ∧ Below w.heap.size w w' := by
  obtain ⟨h1, h2, h3, h4, h5⟩ := hm
  refine (may_texts w r aN nN cN aT nT cT h ⟨h1, h2⟩ (by rw [h.lenN]; exact h3) (by rw [h.lenT]; exact h4)).mono ?_
  rintro e w' ⟨rfl, hb⟩
  have : (r.texts.all fun t => decide (t.size ≤ 200)) = true := by
    rw [List.all_eq_true]
    intro x hx
    rw [decide_eq_true_eq]
    exact h5 x hx
  exact ⟨by rw [this], hb⟩

theorem may_no (w : World) (r : M.Rc) (aN : Option Addr) (nN cN : Nat) (aT : Option Addr) (nT cT : Nat) (h : RecAt w r aN nN cN aT nT cT) (hm : ¬ M.May r) :
    Calls Tryz.prog 89 #[.agg #[.int .i64 r.kind, .slice aN nN cN, .slice aT nT cT]] w fun e w' => e = .returned (.bool false) ∧ Below w.heap.size w w' := by
  by_cases hs : 0 ≤ r.kind ∧ r.kind ≤ 255 ∧ nN ≤ 16 ∧ nT ≤ 4
  · obtain ⟨h1, h2, h3, h4⟩ := hs
    refine (may_texts w r aN nN cN aT nT cT h ⟨h1, h2⟩ h3 h4).mono ?_
    rintro e w' ⟨rfl, hb⟩
    have : (r.texts.all fun t => decide (t.size ≤ 200)) = false := by
      rw [Bool.eq_false_iff]
      intro ht
      rw [List.all_eq_true] at ht
      exact hm ⟨h1, h2, by rw [← h.lenN]; exact h3, by rw [← h.lenT]; exact h4, fun t htm => of_decide_eq_true (ht t htm)⟩
    exact ⟨by rw [this], hb⟩
  · clear hm h
    by_cases h1 : r.kind < 0
    · have g1 : decide (r.kind < 0) = true := by simpa using h1
      clear hs h1
      go_enter Tryz.func89, Tryz.ntmps89
      go_wp2
      go_ret
      exact ⟨rfl, (Below.refl _ _).alloc (Nat.le_refl _) _⟩
    · have g1 : decide (r.kind < 0) = false := by rw [decide_eq_false_iff_not]; exact h1
      by_cases h2 : 255 < r.kind
      · have g2 : decide (255 < r.kind) = true := by simpa using h2
        clear hs h1 h2
        go_enter Tryz.func89, Tryz.ntmps89
        go_wp2
        go_ret
        exact ⟨rfl, (Below.refl _ _).alloc (Nat.le_refl _) _⟩
      · have g2 : decide (255 < r.kind) = false := by rw [decide_eq_false_iff_not]; exact h2
        by_cases h3 : 16 < nN
        · have g3 : decide ((16 : Int) < (nN : Int)) = true := by rw [decide_eq_true_eq]; omega
          clear hs h1 h2 h3
          go_enter Tryz.func89, Tryz.ntmps89
          go_wp2
          go_ret
          exact ⟨rfl, (Below.refl _ _).alloc (Nat.le_refl _) _⟩
        · have g3 : decide ((16 : Int) < (nN : Int)) = false := by rw [decide_eq_false_iff_not]; omega
          have g4 : decide ((4 : Int) < (nT : Int)) = true := by rw [decide_eq_true_eq]; omega
          clear hs h1 h2 h3
          go_enter Tryz.func89, Tryz.ntmps89
          go_wp2
          go_ret
          exact ⟨rfl, (Below.refl _ _).alloc (Nat.le_refl _) _⟩
end Go.Proofs.YtofhijnfbilieaaGreat.C
namespace Go.Proofs.YtofhijnfbilieaaGreat.C
open Go.RowKit
set_option linter.unusedVariables false
set_option linter.unusedSimpArgs false
set_option maxRecDepth 20000

theorem wpList_append_u8 (w : World) {ops : Array Oper} {rest : List Oper} {o : Oper} {act : Act} {Q : Exit → Act → World → Prop} (hgd : o.guard = none) (s x : Operand)
    (ho : o.op = .call { callee := .builtin .append, args := #[s, x], argTypes := #[50, 50] })
    (B : Nat) (a : Option Addr) (n cap : Nat) (l : List UInt8) (hs : act.eval s = .slice a n cap) (hown : Own 5 w B a n cap (u8s l))
    (A : Option Addr) (m c : Nat) (y : List UInt8) (hx : act.eval x = .slice A m c) (hr : Row w A m c (u8s y)) (k : Nat) (hk : n + m = k) (hsum : k ≤ 1048576) (hB : B ≤ w.heap.size)
    (h : ∀ a' cap' w', Own 5 w' B a' k cap' (u8s (l ++ y)) → Below B w w' → wpList Tryz.prog ops Q rest (act.put o.dst (.slice a' k cap')) w') : wpList Tryz.prog ops Q (o :: rest) act w := by
  subst hk
  refine wpList_plain hgd fun K hK => ?_
  obtain ⟨a', cap', w', hrun, h2, h3, _, _⟩ := run_append_u8 w o.type B a n cap l hown A m c y hr hsum hB
  unfold Oper.wp execOp
  simp only [ho, resolve, invoke, builtin, Sem.run_bind, Sem.run_pure, Result.andThen_ok, List.map_toArray, List.map_cons, List.map_nil, hs, hx, hrun]
  exact hK _ _ (h a' cap' w' h2 h3)

theorem row_lit (w : World) (e : TypeId) (vs : List Value) (hn : vs.length ≤ 1000) : Row (w.alloc (.cells vs.toArray e)) (some ⟨w.heap.size, 0, none⟩) vs.length vs.length vs := by
  refine ⟨rfl, Nat.le_refl _, by simp [maxLen]; omega, .inr ⟨w.heap.size, 0, rfl, by simp, fun i hi => ?_⟩⟩
  rw [World.cell?_alloc_mark]
  simp

theorem row_byte (w : World) (x : Int) (c : UInt8) (hx : x = (c.toNat : Int)) : Row (w.alloc (.cells #[.int .u8 x] 5)) (some ⟨w.heap.size, 0, none⟩) 1 1 (u8s [c]) := by
  subst hx
  exact row_lit w 5 (u8s [c]) (by simp [u8s])

theorem or_128 (u : Nat) : bits BinOp.or IntKind.u8 (IntKind.u8.wrap (u : Int)) 128 = (((UInt8.ofNat (u % 128 + 128)).toNat : Nat) : Int) := by
  have h : ∀ j : Fin 256, bits BinOp.or IntKind.u8 ((j.val : Nat) : Int) 128 = (((UInt8.ofNat (j.val % 128 + 128)).toNat : Nat) : Int) := by decide +kernel
  have e : IntKind.u8.wrap (u : Int) = ((u % 256 : Nat) : Int) := by
    simp [IntKind.wrap, IntKind.bits, IntKind.signed]
  rw [e]
  have := h ⟨u % 256, Nat.mod_lt _ (by omega)⟩
  simp only at this
  rw [this, show u % 256 % 128 = u % 128 from by omega]

theorem wrap_u8 (u : Nat) (h : u < 128) : IntKind.u8.wrap (u : Int) = (((UInt8.ofNat u).toNat : Nat) : Int) := by
  rw [M.toNat_ofNat (by omega)]
  simp [IntKind.wrap, IntKind.bits, IntKind.signed]
  omega

/-- what is known at the head of the loop -/
def VInv (n : Int) (k U : Nat) (acc : List UInt8) : Prop := k ≤ 9 ∧ U < 2 ^ (64 - 7 * k) ∧ M.num n = acc ++ M.vb (9 - k) U

theorem vinv_start {n : Int} (h : M.fits n) : VInv n 0 (M.zig n) [] := ⟨by omega, M.zig_lt h, rfl⟩

theorem vinv_on {n : Int} {k U : Nat} {acc : List UInt8} (h : VInv n k U acc) (hU : ¬ U < 128) : VInv n (k + 1) (U / 128) (acc ++ [UInt8.ofNat (U % 128 + 128)]) := by
  obtain ⟨h1, h2, h3⟩ := h
  have hk : k < 9 := by
    rcases Nat.lt_or_ge k 9 with h | h
    · exact h
    · have e : k = 9 := by omega
      subst e
      have : 2 ^ (64 - 7 * 9) = 2 := by decide
      omega
  refine ⟨by omega, ?_, ?_⟩
  · have : 2 ^ (64 - 7 * k) = 128 * 2 ^ (64 - 7 * (k + 1)) := by
      rw [show 64 - 7 * k = 7 + (64 - 7 * (k + 1)) from by omega, Nat.pow_add]
    omega
  · rw [h3, show 9 - k = (9 - (k + 1)) + 1 from by omega]
    conv => lhs; unfold M.vb
    rw [if_neg hU]
    simp

theorem vinv_last {n : Int} {k U : Nat} {acc : List UInt8} (h : VInv n k U acc) (hU : U < 128) : M.num n = acc ++ [UInt8.ofNat U] := by
  obtain ⟨h1, h2, h3⟩ := h
  rw [h3]
  cases hk : 9 - k with
  | zero => rfl
  | succ f =>
    unfold M.vb
    rw [if_pos hU]

theorem zig_neg {n : Int} (h : M.fits n) (h0 : n < 0) : bits BinOp.xor IntKind.u64 IntKind.u64.max (IntKind.u64.wrap (IntKind.u64.wrap n * 2)) = (M.zig n : Int) := by
  obtain ⟨h1, h2⟩ := h
  have e1 : IntKind.u64.wrap (IntKind.u64.wrap n * 2) = ((2 * n + 18446744073709551616).toNat : Int) := by
    rw [IntKind.wrap_u64, IntKind.wrap_u64]; omega
  have e2 : IntKind.u64.max = ((18446744073709551615 : Nat) : Int) := by decide +kernel
  rw [e1, e2, bits_xor_u64_nat _ _ (by omega) (by omega)]
  have hx : 18446744073709551615 ^^^ (2 * n + 18446744073709551616).toNat = 18446744073709551615 - (2 * n + 18446744073709551616).toNat := by
    generalize hy : (2 * n + 18446744073709551616).toNat = y
    have hy2 : y < 18446744073709551616 := by omega
    have h := congrArg BitVec.toNat (BitVec.allOnes_xor (x := BitVec.ofNat 64 y))
    rw [BitVec.toNat_xor, BitVec.toNat_not, BitVec.toNat_allOnes, BitVec.toNat_ofNat, Nat.mod_eq_of_lt hy2] at h
    exact h
  rw [hx]
  unfold M.zig
  rw [if_pos h0]
  omega

theorem zig_pos {n : Int} (h0 : ¬ n < 0) : n * 2 = (M.zig n : Int) := by
  unfold M.zig
  rw [if_neg h0]
  omega

set_option maxHeartbeats 1000000 in
theorem number2_any (n : Int) (w : World) (hn : M.fits n) :
    Calls Tryz.prog 91 #[.int .i64 n] w fun e w' => ∃ a cap, e = .returned (.slice a (M.num n).length cap) ∧ Own 5 w' w.heap.size a (M.num n).length cap (u8s (M.num n)) ∧ Below w.heap.size w w' := by
  have Hn := Lib.hid hn
  by_cases h0 : n < 0
  · have Hz := Lib.hid (zig_neg hn h0)
    obtain ⟨hn1, hn2⟩ := hn
    go_enter Tryz.func91, Tryz.ntmps91
    go_wp2_with fail
    go_loopw [3, 4] (fun u b wr => ∃ (k U : Nat) (a : Option Addr) (cap : Nat) (acc : List UInt8), u = .int .u64 (U : Int) ∧ b = .slice a k cap ∧ acc.length = k ∧ Own 5 wr w.heap.size a k cap (u8s acc) ∧ Below w.heap.size w wr ∧ VInv n k U acc) (fun u _ _ => (intOf u).toNat)
    case atStart => exact ⟨0, M.zig n, none, 0, [], by first | rfl | (rw [Hz.out]), rfl, rfl, own_nil _ _ _, Below.refl _ _, vinv_start ⟨Hn.out.1, Hn.out.2⟩⟩
    case round =>
      obtain ⟨k, U, a, cap, acc, rfl, rfl, hl, hown, hb, hv⟩ := hrel
      have Hl := Lib.hid hl
      have Ho := Lib.hid hown
      have Hb := Lib.hid hb
      have Hv := Lib.hid hv
      clear hl hown hb hv
      have hU0 : (0 : Int) ≤ (U : Int) := by omega
      by_cases h128 : U < 128
      · have hU : (U : Int) < 128 := by omega
        have Hlast := Lib.hid (vinv_last Hv.out h128)
        have Hw := Lib.hid (show (U : Int) = (((UInt8.ofNat U).toNat : Nat) : Int) by rw [M.toNat_ofNat (by omega)])
        have hk10 := Lib.hid (show k ≤ 9 from Hv.out.1)
        clear h128
        go_wp2_with (at_builtin
                     refine wpList_append_u8 _ rfl (.tmp 22) (.tmp 25) rfl w.heap.size a k cap acc rfl (own_below Ho.out ((Below.refl _ _).alloc (Nat.le_refl _) _) (Nat.le_refl _)) _ 1 1 [UInt8.ofNat U] rfl (row_byte _ _ _ Hw.out) (k + 1) rfl (by have := hk10.out; omega) (by have := Hb.out.size; simp; omega) ?_
                     intro a2 cap2 w2 hown2 hb2
                     have Ho2 := Lib.hid hown2
                     have Hb2 := Lib.hid ((Hb.out.alloc Hb.out.size (.cells #[.int .u8 (U : Int)] 5)).trans hb2)
                     clear hown2 hb2)
        go_ret
        have hl : (M.num n).length = k + 1 := by rw [Hlast.out, List.length_append, Hl.out]; rfl
        refine ⟨a2, cap2, ?_, ?_, Hb2.out⟩
        · rw [hl]; rfl
        · rw [hl, Hlast.out]; exact Ho2.out
      · have hU : (128 : Int) ≤ (U : Int) := by omega
        have Hon := Lib.hid (vinv_on Hv.out h128)
        have Hw := Lib.hid (or_128 U)
        have Hlt := Lib.hid h128
        clear h128
        go_wp2_with (at_builtin
                     refine wpList_append_u8 _ rfl (.tmp 16) (.tmp 20) rfl w.heap.size a k cap acc rfl (own_below Ho.out ((Below.refl _ _).alloc (Nat.le_refl _) _) (Nat.le_refl _)) _ 1 1 [UInt8.ofNat (U % 128 + 128)] rfl (row_byte _ _ _ Hw.out) (k + 1) rfl (by have := Hv.out.1; omega) (by have := Hb.out.size; simp; omega) ?_
                     intro a2 cap2 w2 hown2 hb2
                     have Ho2 := Lib.hid hown2
                     have Hb2 := Lib.hid ((Hb.out.alloc Hb.out.size (.cells #[.int .u8 (bits BinOp.or IntKind.u8 (IntKind.u8.wrap (U : Int)) 128)] 5)).trans hb2)
                     clear hown2 hb2)
        go_roundw
        case rel => exact ⟨k + 1, U / 128, a2, cap2, acc ++ [UInt8.ofNat (U % 128 + 128)], by go_num, rfl, by rw [List.length_append, Hl.out]; rfl, Ho2.out, Hb2.out, Hon.out⟩
        case measure => have := Hlt.out; simp [intOf]; omega
  · have Hz := Lib.hid (zig_pos h0)
    obtain ⟨hn1, hn2⟩ := hn
    go_enter Tryz.func91, Tryz.ntmps91
    go_wp2_with fail
    go_loopw [3, 4] (fun u b wr => ∃ (k U : Nat) (a : Option Addr) (cap : Nat) (acc : List UInt8), u = .int .u64 (U : Int) ∧ b = .slice a k cap ∧ acc.length = k ∧ Own 5 wr w.heap.size a k cap (u8s acc) ∧ Below w.heap.size w wr ∧ VInv n k U acc) (fun u _ _ => (intOf u).toNat)
    case atStart => exact ⟨0, M.zig n, none, 0, [], by first | rfl | (rw [Hz.out]), rfl, rfl, own_nil _ _ _, Below.refl _ _, vinv_start ⟨Hn.out.1, Hn.out.2⟩⟩
    case round =>
      obtain ⟨k, U, a, cap, acc, rfl, rfl, hl, hown, hb, hv⟩ := hrel
      have Hl := Lib.hid hl
      have Ho := Lib.hid hown
      have Hb := Lib.hid hb
      have Hv := Lib.hid hv
      clear hl hown hb hv
      have hU0 : (0 : Int) ≤ (U : Int) := by omega
      by_cases h128 : U < 128
      · have hU : (U : Int) < 128 := by omega
        have Hlast := Lib.hid (vinv_last Hv.out h128)
        have Hw := Lib.hid (show (U : Int) = (((UInt8.ofNat U).toNat : Nat) : Int) by rw [M.toNat_ofNat (by omega)])
        have hk10 := Lib.hid (show k ≤ 9 from Hv.out.1)
        clear h128
        go_wp2_with (at_builtin
                     refine wpList_append_u8 _ rfl (.tmp 22) (.tmp 25) rfl w.heap.size a k cap acc rfl (own_below Ho.out ((Below.refl _ _).alloc (Nat.le_refl _) _) (Nat.le_refl _)) _ 1 1 [UInt8.ofNat U] rfl (row_byte _ _ _ Hw.out) (k + 1) rfl (by have := hk10.out; omega) (by have := Hb.out.size; simp; omega) ?_
                     intro a2 cap2 w2 hown2 hb2
                     have Ho2 := Lib.hid hown2
                     have Hb2 := Lib.hid ((Hb.out.alloc Hb.out.size (.cells #[.int .u8 (U : Int)] 5)).trans hb2)
                     clear hown2 hb2)
        go_ret
        have hl : (M.num n).length = k + 1 := by rw [Hlast.out, List.length_append, Hl.out]; rfl
        refine ⟨a2, cap2, ?_, ?_, Hb2.out⟩
        · rw [hl]; rfl
        · rw [hl, Hlast.out]; exact Ho2.out
      · have hU : (128 : Int) ≤ (U : Int) := by omega
        have Hon := Lib.hid (vinv_on Hv.out h128)
        have Hw := Lib.hid (or_128 U)
        have Hlt := Lib.hid h128
        clear h128
        go_wp2_with (at_builtin
                     refine wpList_append_u8 _ rfl (.tmp 16) (.tmp 20) rfl w.heap.size a k cap acc rfl (own_below Ho.out ((Below.refl _ _).alloc (Nat.le_refl _) _) (Nat.le_refl _)) _ 1 1 [UInt8.ofNat (U % 128 + 128)] rfl (row_byte _ _ _ Hw.out) (k + 1) rfl (by have := Hv.out.1; omega) (by have := Hb.out.size; simp; omega) ?_
                     intro a2 cap2 w2 hown2 hb2
                     have Ho2 := Lib.hid hown2
                     have Hb2 := Lib.hid ((Hb.out.alloc Hb.out.size (.cells #[.int .u8 (bits BinOp.or IntKind.u8 (IntKind.u8.wrap (U : Int)) 128)] 5)).trans hb2)
                     clear hown2 hb2)
        go_roundw
        case rel => exact ⟨k + 1, U / 128, a2, cap2, acc ++ [UInt8.ofNat (U % 128 + 128)], by go_num, rfl, by rw [List.length_append, Hl.out]; rfl, Ho2.out, Hb2.out, Hon.out⟩
        case measure => have := Hlt.out; simp [intOf]; omega
end Go.Proofs.YtofhijnfbilieaaGreat.C
namespace Go.Proofs.YtofhijnfbilieaaGreat.C
open Go.RowKit
set_option linter.unusedVariables false
set_option linter.unusedSimpArgs false
set_option maxRecDepth 20000

theorem wpList_append_text (w : World) {ops : Array Oper} {rest : List Oper} {o : Oper} {act : Act} {Q : Exit → Act → World → Prop} (hgd : o.guard = none) (s x : Operand)
    (ho : o.op = .call { callee := .builtin .append, args := #[s, x], argTypes := #[50, 9] })
    (B : Nat) (a : Option Addr) (n cap : Nat) (l : List UInt8) (hs : act.eval s = .slice a n cap) (hown : Own 5 w B a n cap (u8s l))
    (t : ByteArray) (hx : act.eval x = .string t) (k : Nat) (hk : n + t.size = k) (hsum : k ≤ 1048576) (hB : B ≤ w.heap.size)
    (h : ∀ a' cap' w', Own 5 w' B a' k cap' (u8s (l ++ t.data.toList)) → Below B w w' → wpList Tryz.prog ops Q rest (act.put o.dst (.slice a' k cap')) w') : wpList Tryz.prog ops Q (o :: rest) act w := by
  subst hk
  obtain ⟨i0, hi0, hz0, hz1, hz2⟩ := info_parts u8_info
  obtain ⟨g1, g2, g3⟩ := hown
  refine Lib.wpList_append_own_string w hgd s x 50 9 ho B 5 i0 Tryz.underlying50 Tryz.underlying9 hi0 hz0 hz1 hz2 _ n (u8s l) hs g1 t hx (by simp only [maxLen]; omega) (by omega) hB ?_
  intro v' w' h5 h6 h7
  obtain ⟨a', cap', rfl⟩ : ∃ a' cap', v' = .slice a' (n + t.size) cap' := by
    rcases h5.2 with ⟨rfl, h0⟩ | ⟨g, c', cur, rfl, _⟩
    · exact ⟨none, 0, by rw [h0]⟩
    · exact ⟨_, _, rfl⟩
  refine h a' cap' w' ⟨by rw [u8s_append]; exact h5, ?_, by omega⟩ ((Below.refl _ _).grown h6 hB fun k hk => (g1.lt k hk).1)
  rw [u8s_length] at g2 ⊢
  rw [List.length_append, g2, M.size_list]

theorem encode_no (w : World) (r : M.Rc) (aN : Option Addr) (nN cN : Nat) (aT : Option Addr) (nT cT : Nat) (h : RecAt w r aN nN cN aT nT cT) (hm : ¬ M.May r) :
    Calls Tryz.prog 77 #[.agg #[.int .i64 r.kind, .slice aN nN cN, .slice aT nT cT]] w fun e w' => e = .returned (.tuple #[.slice none 0 0, .int .i64 4]) ∧ Below w.heap.size w w' := by
  have hb0 := (Below.refl w.heap.size w).alloc (Nat.le_refl _) (.cells #[.int .i64 r.kind, .slice aN nN cN, .slice aT nT cT] 99)
  have HM := Lib.hid (may_no _ r aN nN cN aT nT cT (h.below hb0 (Nat.le_refl _)) hm)
  have Hb0 := Lib.hid hb0
  clear h hm hb0
  go_enter Tryz.func77, Tryz.ntmps77
  go_wp2_with (go_at_call 89; refine HM.out.mono ?_; rintro e w1 ⟨rfl, hb⟩; have Hb := Lib.hid (Hb0.out.trans (hb.mono (by simp))); clear hb)
  go_ret2
  exact ⟨rfl, Hb.out⟩

/-- the first two bytes -/
def hdr (r : M.Rc) : List UInt8 := [UInt8.ofNat r.kind.toNat, UInt8.ofNat (M.cnt r.nums.length r.texts.length)]

theorem enc_start {w w1 : World} {r : M.Rc} {aN : Option Addr} {nN cN : Nat} {aT : Option Addr} {nT cT : Nat}
    (hb : Below (w.alloc (.cells #[.int .i64 r.kind, .slice aN nN cN, .slice aT nT cT] 99)).heap.size (w.alloc (.cells #[.int .i64 r.kind, .slice aN nN cN, .slice aT nT cT] 99)) w1)
    (hn : nN = r.nums.length) (ht : nT = r.texts.length) (hm : M.May r) :
    Own 5 ((w1.alloc (.cells #[.int .u8 r.kind, .int .u8 (M.cnt nN nT : Int)] 5)).drew) (w.heap.size + 1) (some ⟨w1.heap.size, 0, none⟩) 2 2 (u8s (hdr r)) := by
  have hs := hb.size
  simp at hs
  have hu : u8s (hdr r) = [.int .u8 r.kind, .int .u8 (M.cnt nN nT : Int)] := by
    obtain ⟨h1, h2, h3, h4, h5⟩ := hm
    have hc : M.cnt r.nums.length r.texts.length < 256 := by unfold M.cnt; split <;> omega
    simp only [u8s, hdr, List.map_cons, List.map_nil, u8]
    rw [M.toNat_ofNat (n := r.kind.toNat) (by omega), M.toNat_ofNat hc, hn, ht, Int.toNat_of_nonneg h1]
  have := own_lit 5 w1 (w.heap.size + 1) (u8s (hdr r)) (by omega) (by simp [u8s, hdr])
  rw [hu] at this ⊢
  exact this

set_option maxHeartbeats 2000000 in
theorem encode_yes (w : World) (r : M.Rc) (aN : Option Addr) (nN cN : Nat) (aT : Option Addr) (nT cT : Nat) (h : RecAt w r aN nN cN aT nT cT) (hm : M.May r) (hf : M.Fits r) :
    Calls Tryz.prog 77 #[.agg #[.int .i64 r.kind, .slice aN nN cN, .slice aT nT cT]] w fun e w' => ∃ a cap, e = .returned (.tuple #[.slice a (M.enc r).length cap, .int .i64 0]) ∧
      Own 5 w' w.heap.size a (M.enc r).length cap (u8s (M.enc r)) ∧ Below w.heap.size w w' := by
  have hb0 := (Below.refl w.heap.size w).alloc (Nat.le_refl _) (.cells #[.int .i64 r.kind, .slice aN nN cN, .slice aT nT cT] 99)
  have HM := Lib.hid (may_yes _ r aN nN cN aT nT cT (h.below hb0 (Nat.le_refl _)) hm)
  have Hb0 := Lib.hid hb0
  have H := Lib.hid h
  have Hm := Lib.hid hm
  have Hf := Lib.hid hf
  obtain ⟨hk1, hk2, hn16, ht4, ht200⟩ := hm
  have HnN := h.lenN
  have HnT := h.lenT
  have hn16 : nN ≤ 16 := by omega
  have ht4 : nT ≤ 4 := by omega
  have HN := Lib.hid HnN
  have HT := Lib.hid HnT
  have H200 := Lib.hid ht200
  clear h hf hb0 ht200 HnN HnT
  have hw8 : IntKind.u8.wrap r.kind = r.kind := by simp [IntKind.wrap, IntKind.bits, IntKind.signed]; omega
  go_enter Tryz.func77, Tryz.ntmps77
  go_wp2_with (go_at_call 89; refine HM.out.mono ?_; rintro e w1 ⟨rfl, hb⟩; have Hb := Lib.hid hb; clear hb)
  obtain ⟨c1, c2, c3⟩ : w1.cell? ⟨w.heap.size, 0, none⟩ = some (.int .i64 r.kind) ∧ w1.cell? ⟨w.heap.size, 1, none⟩ = some (.slice aN nN cN) ∧ w1.cell? ⟨w.heap.size, 2, none⟩ = some (.slice aT nT cT) := by
    refine ⟨?_, ?_, ?_⟩ <;> (rw [Hb.out.cell (by simp)]; rw [World.cell?_alloc_mark]; rfl)
  go_region_held3 (fun w' => w'.cell? ⟨w.heap.size, 0, none⟩ = some (.int .i64 r.kind) ∧ w'.cell? ⟨w.heap.size, 1, none⟩ = some (.slice aN nN cN) ∧ w'.cell? ⟨w.heap.size, 2, none⟩ = some (.slice aT nT cT)) (go_keep)
    ((go_at_call 90; refine (count_any _ nN nT hn16 ht4).mono ?_; rintro e w2 ⟨rfl, rfl⟩))
  go_wp2_with fail
  have Hstart := Lib.hid (enc_start (r := r) Hb.out HN.out HT.out Hm.out)
  have HB1 : Hid (Below (w.heap.size + 1) (w.alloc (.cells #[.int .i64 r.kind, .slice aN nN cN, .slice aT nT cT] 99)) w1) := by
    have := Hb.out
    rw [show (w.alloc (.cells #[.int .i64 r.kind, .slice aN nN cN, .slice aT nT cT] 99)).heap.size = w.heap.size + 1 from by simp] at this
    exact this
  have hnI : (nN : Int) ≤ 16 := by omega
  have htI : (nT : Int) ≤ 4 := by omega
  clear c1 c2 c3 hw8 hn16 ht4 hk1 hk2 Hb
  go_loopw [4, 26] (fun b i wr => ∃ (k : Nat) (a : Option Addr) (m cap : Nat) (acc : List UInt8), k ≤ nN ∧ i = .int .i64 k ∧ b = .slice a m cap ∧ m ≤ 2 + 10 * k ∧ acc = hdr r ++ (r.nums.take k).flatMap M.num ∧ Own 5 wr (w.heap.size + 1) a m cap (u8s acc) ∧
      Below (w.heap.size + 1) (w.alloc (.cells #[.int .i64 r.kind, .slice aN nN cN, .slice aT nT cT] 99)) wr) (fun _ i _ => nN - (intOf i).toNat)
  case atStart => exact ⟨0, _, 2, 2, hdr r, by omega, rfl, rfl, by omega, by simp, Hstart.out, HB1.out.trans (((Below.refl _ w1).alloc (by have := HB1.out.size; simp at this; omega) _).drew)⟩
  case round =>
    obtain ⟨k, a, m, cap, acc, hk, rfl, rfl, hm2, hacc, hown, hb⟩ := hrel
    have Ho := Lib.hid hown
    have Hb := Lib.hid hb
    have Hacc := Lib.hid hacc
    have Hm2 := Lib.hid hm2
    clear hown hb hacc hm2
    by_cases hlt : k < nN
    · have hltI : (k : Int) < (nN : Int) := by omega
      obtain ⟨b, off, v, rfl, hbw, hv, hc0⟩ := row_i64 H.out.nums k hlt
      have hc : wr.cell? ⟨b, off + k, none⟩ = some (.int .i64 v) := by
        rw [Hb.out.cell (p := ⟨b, off + k, none⟩) (by simp; omega), Hb0.out.cell (p := ⟨b, off + k, none⟩) hbw]; exact hc0
      have Hv := Lib.hid hv
      have Hfit := Lib.hid (Hf.out v (List.mem_of_getElem? hv))
      have hlen := M.num_len v
      have Hlen := Lib.hid hlen
      clear hv hc0 hlen hbw
      go_wp2_with (first
        | (go_at_call 91; refine (number2_any v _ Hfit.out).mono ?_; rintro e w2 ⟨a2, cap2, rfl, ho2, hb2⟩; have Ho2 := Lib.hid ho2; have Hb2 := Lib.hid hb2; clear ho2 hb2)
        | (at_builtin
           refine wpList_append_u8 _ rfl (.tmp 30) (.tmp 32) rfl (w.heap.size + 1) a m cap acc rfl (own_below Ho.out Hb2.out (Nat.le_refl _)) _ _ _ (M.num v) rfl (own_row Ho2.out).1 (m + (M.num v).length) rfl (by have := Hlen.out; have := Hm2.out; omega) (by have := Hb.out.size; have := Hb2.out.size; simp at *; omega) ?_
           intro a3 cap3 w3 hown3 hb3
           have Ho3 := Lib.hid hown3
           have Hb3 := Lib.hid ((Hb.out.trans (Hb2.out.mono (by have := Hb.out.size; simp at this; omega))).trans hb3)
           clear hown3 hb3))
      go_roundw
      case rel => exact ⟨k + 1, a3, m + (M.num v).length, cap3, acc ++ M.num v, by omega, by go_num, rfl, by have := Hlen.out; have := Hm2.out; omega, by rw [Hacc.out, take_one Hv.out]; simp, Ho3.out, Hb3.out⟩
      case measure => simp [intOf]; omega
    · obtain rfl : k = nN := by omega
      have hge : (k : Int) ≤ (k : Int) := Int.le_refl _
      have Hacc1 : Hid (acc = hdr r ++ r.nums.flatMap M.num) := by
        have := Hacc.out
        rw [List.take_of_length_le (by rw [← HN.out]; exact Nat.le_refl _)] at this
        exact this
      have hm162 : m ≤ 162 := by have := Hm2.out; omega
      have Hm162 := Lib.hid hm162
      obtain ⟨c1, c2, c3⟩ : wr.cell? ⟨w.heap.size, 0, none⟩ = some (.int .i64 r.kind) ∧ wr.cell? ⟨w.heap.size, 1, none⟩ = some (.slice aN k cN) ∧ wr.cell? ⟨w.heap.size, 2, none⟩ = some (.slice aT nT cT) := by
        refine ⟨?_, ?_, ?_⟩ <;> (rw [Hb.out.cell (by simp)]; rw [World.cell?_alloc_mark]; rfl)
      clear Hacc Hm2 hm162
      go_wp2_with fail
      go_loopw [4, 38] (fun b i wr => ∃ (j : Nat) (a : Option Addr) (m cap : Nat) (acc : List UInt8), j ≤ nT ∧ i = .int .i64 j ∧ b = .slice a m cap ∧ m ≤ 162 + 201 * j ∧ acc = hdr r ++ r.nums.flatMap M.num ++ (r.texts.take j).flatMap M.txt ∧ Own 5 wr (w.heap.size + 1) a m cap (u8s acc) ∧
          Below (w.heap.size + 1) (w.alloc (.cells #[.int .i64 r.kind, .slice aN k cN, .slice aT nT cT] 99)) wr) (fun _ i _ => nT - (intOf i).toNat)
      case atStart => exact ⟨0, a, m, cap, acc, by omega, rfl, rfl, by have := Hm162.out; omega, by rw [Hacc1.out]; simp, Ho.out, Hb.out⟩
      case round =>
        clear Ho Hb Hacc1 Hm162 c1 c2 c3
        obtain ⟨j, a, m, cap, acc, hj, rfl, rfl, hm2, hacc, hown, hb⟩ := hrel
        have Ho := Lib.hid hown
        have Hb := Lib.hid hb
        have Hacc := Lib.hid hacc
        have Hm2 := Lib.hid hm2
        clear hown hb hacc hm2
        by_cases hlt : j < nT
        · have hltI : (j : Int) < (nT : Int) := by omega
          obtain ⟨b, off, t, rfl, hbw, ht, hc0⟩ := row_str H.out.texts j hlt
          have hc : wr.cell? ⟨b, off + j, none⟩ = some (.string t) := by
            rw [Hb.out.cell (p := ⟨b, off + j, none⟩) (by simp; omega), Hb0.out.cell (p := ⟨b, off + j, none⟩) hbw]; exact hc0
          have Ht := Lib.hid ht
          have hsz := H200.out t (List.mem_of_getElem? ht)
          have hszI : (t.size : Int) ≤ 200 := by omega
          have Hsz := Lib.hid hsz
          have Hbyte := Lib.hid (show (t.size : Int) = (((UInt8.ofNat t.size).toNat : Nat) : Int) by rw [M.toNat_ofNat (by omega)])
          clear ht hc0 hbw hsz
          go_wp2_with (first
            | (at_builtin
               refine wpList_append_u8 _ rfl (.tmp 42) (.tmp 46) rfl (w.heap.size + 1) a m cap acc rfl (own_below Ho.out ((Below.refl _ _).alloc (Nat.le_refl _) _) (Nat.le_refl _)) _ 1 1 [UInt8.ofNat t.size] rfl (row_byte _ _ _ Hbyte.out) (m + 1) rfl (by have := Hm2.out; omega) (by have := Hb.out.size; simp at *; omega) ?_
               intro a3 cap3 w3 hown3 hb3
               have Ho3 := Lib.hid hown3
               have Hb3 := Lib.hid ((Hb.out.alloc (by have := Hb.out.size; simp at this; omega) (.cells #[.int .u8 (t.size : Int)] 5)).trans hb3)
               clear hown3 hb3)
            | (at_builtin
               refine wpList_append_text _ rfl (.tmp 48) (.tmp 49) rfl (w.heap.size + 1) a3 (m + 1) cap3 (acc ++ [UInt8.ofNat t.size]) rfl Ho3.out t rfl (m + 1 + t.size) rfl (by have := Hm2.out; have := Hsz.out; omega) (by have := Hb3.out.size; simp at *; omega) ?_
               intro a4 cap4 w4 hown4 hb4
               have Ho4 := Lib.hid hown4
               have Hb4 := Lib.hid (Hb3.out.trans hb4)
               clear hown4 hb4))
          go_roundw
          case rel => exact ⟨j + 1, a4, m + 1 + t.size, cap4, _, by omega, by go_num, rfl, by have := Hm2.out; have := Hsz.out; omega, by rw [Hacc.out, take_one Ht.out]; simp [M.txt], Ho4.out, Hb4.out⟩
          case measure => simp [intOf]; omega
        · obtain rfl : j = nT := by omega
          have hge2 : (j : Int) ≤ (j : Int) := Int.le_refl _
          have Hacc2 : Hid (acc = M.enc r) := by
            have := Hacc.out
            rw [List.take_of_length_le (by rw [← HT.out]; exact Nat.le_refl _)] at this
            show acc = _
            rw [this]
            simp [M.enc, hdr]
          go_wp2_with fail
          go_ret2
          have hl : m = (M.enc r).length := by
            have := (own_row Ho.out).1.1
            rw [u8s_length, Hacc2.out] at this
            exact this.symm
          exact ⟨a, cap, by rw [← hl]; rfl, by rw [← hl, ← Hacc2.out]; exact own_mono Ho.out (by omega), Hb0.out.trans (Hb.out.mono (by omega))⟩

end Go.Proofs.YtofhijnfbilieaaGreat.C
namespace Go.Proofs.YtofhijnfbilieaaGreat.C
open Go.RowKit
set_option linter.unusedVariables false
set_option linter.unusedSimpArgs false
set_option maxRecDepth 20000

/-- a record that a call made itself -/
structure RecOwn (w : World) (B : Nat) (r : M.Rc) (aN : Option Addr) (nN cN : Nat) (aT : Option Addr) (nT cT : Nat) : Prop where
  nums : Own 2 w B aN nN cN (i64s r.nums)
  texts : Own 9 w B aT nT cT (strs r.texts)

theorem RecOwn.at {w : World} {B : Nat} {r : M.Rc} {aN : Option Addr} {nN cN : Nat} {aT : Option Addr} {nT cT : Nat} (h : RecOwn w B r aN nN cN aT nT cT) : RecAt w r aN nN cN aT nT cT := ⟨(own_row h.nums).1, (own_row h.texts).1⟩
theorem RecOwn.below {w w' : World} {B C : Nat} {r : M.Rc} {aN : Option Addr} {nN cN : Nat} {aT : Option Addr} {nT cT : Nat} (h : RecOwn w B r aN nN cN aT nT cT) (hb : Below C w w') (hC : w.heap.size ≤ C) : RecOwn w' B r aN nN cN aT nT cT :=
  ⟨own_below h.nums hb hC, own_below h.texts hb hC⟩
theorem RecOwn.set {w : World} {B : Nat} {r : M.Rc} {aN : Option Addr} {nN cN : Nat} {aT : Option Addr} {nT cT : Nat} (h : RecOwn w B r aN nN cN aT nT cT) {p : Addr} (v : Value) (hp : p.block < B) : RecOwn (w.setCell p v) B r aN nN cN aT nT cT :=
  ⟨own_set h.nums v hp, own_set h.texts v hp⟩

theorem decode_ok (w : World) (a : Option Addr) (n cap : Nat) (l : List UInt8) (r : M.Rc) (h : Row w a n cap (u8s l)) (hd : M.dec l = some r) :
    Calls Tryz.prog 67 #[.slice a n cap] w fun e w' => ∃ aN nN cN aT nT cT, e = .returned (.tuple #[.agg #[.int .i64 r.kind, .slice aN nN cN, .slice aT nT cT], .int .i64 0]) ∧ RecOwn w' w.heap.size r aN nN cN aT nT cT ∧ Below w.heap.size w w' := by
  refine (decode_any w a n cap l h).mono ?_
  rintro e w' ⟨hb, ⟨r', v, h1, ⟨aN, nN, cN, aT, nT, cT, rfl, h2, h3⟩, rfl⟩ | ⟨h1, _⟩⟩
  · rw [hd] at h1
    injection h1 with h1
    subst h1
    exact ⟨aN, nN, cN, aT, nT, cT, rfl, ⟨h2, h3⟩, hb⟩
  · rw [hd] at h1; cases h1

theorem decode_no (w : World) (a : Option Addr) (n cap : Nat) (l : List UInt8) (h : Row w a n cap (u8s l)) (hd : M.dec l = none) :
    Calls Tryz.prog 67 #[.slice a n cap] w fun e w' => e = .returned (.tuple #[.agg #[.int .i64 0, .slice none 0 0, .slice none 0 0], .int .i64 4]) ∧ Below w.heap.size w w' := by
  refine (decode_any w a n cap l h).mono ?_
  rintro e w' ⟨hb, ⟨r', v, h1, _, _⟩ | ⟨h1, rfl⟩⟩
  · rw [hd] at h1; cases h1
  · exact ⟨rfl, hb⟩

end Go.Proofs.YtofhijnfbilieaaGreat.C
