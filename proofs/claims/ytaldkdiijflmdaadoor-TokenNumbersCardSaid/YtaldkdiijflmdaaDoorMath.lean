/-
  Plain mathematics of words: a line's runes, the reader's steps, quoting.
-/
import Derived.Lib.MapLaws
import Derived.Lib.TrimAscii
import Derived.Lib.QuoteLoop
namespace Go.Proofs.YtaldkdiijflmdaaDoor.M
open Go.Lib
set_option linter.unusedVariables false
set_option linter.unusedSimpArgs false

/-! a text's pieces: each a rune and its bytes -/
def pcsF : Nat → List UInt8 → List (Nat × List UInt8)
  | 0, _ => []
  | f + 1, l => if l = [] then [] else ((decodeL l).1, l.take (decodeL l).2) :: pcsF f (l.drop (decodeL l).2)
def pcs (l : List UInt8) : List (Nat × List UInt8) := pcsF l.length l
def runes (l : List UInt8) : List Nat := (pcs l).map (·.1)

theorem pcsF_fuel : ∀ (n m : Nat) (l : List UInt8), l.length ≤ n → l.length ≤ m → pcsF n l = pcsF m l := by
  intro n
  induction n with
  | zero =>
    intro m l hn hm
    have : l = [] := List.eq_nil_of_length_eq_zero (by omega)
    subst this
    cases m <;> simp [pcsF]
  | succ n ih =>
    intro m l hn hm
    cases m with
    | zero =>
      have : l = [] := List.eq_nil_of_length_eq_zero (by omega)
      subst this
      simp [pcsF]
    | succ m =>
      by_cases h0 : l = []
      · subst h0; simp [pcsF]
      · have hw := decodeL_width l
        have hl : 0 < l.length := List.length_pos_iff.2 h0
        simp only [pcsF, if_neg h0]
        rw [ih m _ (by rw [List.length_drop]; omega) (by rw [List.length_drop]; omega)]

theorem pcs_nil : pcs [] = [] := rfl
theorem pcs_step (l : List UInt8) (h : l ≠ []) : pcs l = ((decodeL l).1, l.take (decodeL l).2) :: pcs (l.drop (decodeL l).2) := by
  have hw := decodeL_width l
  have hl : 0 < l.length := List.length_pos_iff.2 h
  obtain ⟨n, hn⟩ : ∃ n, l.length = n + 1 := ⟨l.length - 1, by omega⟩
  unfold pcs
  rw [hn]
  simp only [pcsF, if_neg h]
  rw [pcsF_fuel n _ _ (by rw [List.length_drop]; omega) (Nat.le_refl _)]

theorem runes_nil : runes [] = [] := rfl
theorem runes_step (l : List UInt8) (h : l ≠ []) : runes l = (decodeL l).1 :: runes (l.drop (decodeL l).2) := by
  unfold runes; rw [pcs_step l h]; rfl

theorem pcs_ascii (b : UInt8) (t : List UInt8) (h : b.toNat < 128) : pcs (b :: t) = (b.toNat, [b]) :: pcs t := by
  rw [pcs_step _ (by simp), decodeL_ascii b t h]; rfl
theorem runes_ascii (b : UInt8) (t : List UInt8) (h : b.toNat < 128) : runes (b :: t) = b.toNat :: runes t := by
  unfold runes; rw [pcs_ascii b t h]; rfl

/-- the bytes of the pieces are the text -/
theorem pcs_flat : ∀ (n : Nat) (l : List UInt8), l.length ≤ n → (pcs l).flatMap (·.2) = l := by
  intro n
  induction n with
  | zero => intro l h; have : l = [] := List.eq_nil_of_length_eq_zero (by omega); subst this; rfl
  | succ n ih =>
    intro l h
    by_cases h0 : l = []
    · subst h0; rfl
    · have hw := decodeL_width l
      have hl : 0 < l.length := List.length_pos_iff.2 h0
      rw [pcs_step l h0, List.flatMap_cons, ih _ (by rw [List.length_drop]; omega)]
      exact List.take_append_drop _ _

/-- what a piece is -/
structure Piece (p : Nat × List UInt8) : Prop where
  rune : p.1 ≤ 1114111
  valid : p.1 < 55296 ∨ 57343 < p.1
  bytes : 1 ≤ p.2.length ∧ p.2.length ≤ 4
  enc : p.1 ≠ 65533 → encodeRune (p.1 : Int) = p.2

theorem decodeL_piece (l : List UInt8) (h : l ≠ []) : Piece ((decodeL l).1, l.take (decodeL l).2) := by
  have hw := decodeL_width l
  have hle := decodeL_le l h
  have k0 := (l.getD 0 0).toNat_lt
  have hv : (decodeL l).1 < 55296 ∨ (57343 < (decodeL l).1 ∧ (decodeL l).1 ≤ 1114111) := by rw [decodeL_N]; exact decodeN_valid _ _ _ _ _ k0
  have h4 : (decodeL l).2 ≤ 4 := by
    rw [decodeL_N]
    rcases decodeN_shape l.length (l.getD 0 0).toNat (l.getD 1 0).toNat (l.getD 2 0).toNat (l.getD 3 0).toNat with ⟨c, e⟩ | ⟨c1, c2, c3, cv, e⟩ | ⟨c1, c2, c3, c4, cv, cs, e⟩ | ⟨c1, c2, c3, c4, c5, cv, cw, e⟩ | e
    all_goals rw [e]; simp
  refine ⟨by simp only; omega, by simp only; omega, by simp only [List.length_take]; omega, fun hne => ?_⟩
  exact encode_decode l h (fun ⟨e1, _⟩ => hne e1)

theorem pcs_piece : ∀ (n : Nat) (l : List UInt8), l.length ≤ n → ∀ p ∈ pcs l, Piece p := by
  intro n
  induction n with
  | zero => intro l h; have : l = [] := List.eq_nil_of_length_eq_zero (by omega); subst this; simp [pcs_nil]
  | succ n ih =>
    intro l h
    by_cases h0 : l = []
    · subst h0; simp [pcs_nil]
    · have hw := decodeL_width l
      have hl : 0 < l.length := List.length_pos_iff.2 h0
      rw [pcs_step l h0]
      intro p hp
      rcases List.mem_cons.1 hp with rfl | hp
      · exact decodeL_piece l h0
      · exact ih _ (by rw [List.length_drop]; omega) p hp

theorem pcs_length : ∀ (n : Nat) (l : List UInt8), l.length ≤ n → (pcs l).length ≤ l.length := by
  intro n
  induction n with
  | zero => intro l h; have : l = [] := List.eq_nil_of_length_eq_zero (by omega); subst this; simp [pcs_nil]
  | succ n ih =>
    intro l h
    by_cases h0 : l = []
    · subst h0; simp [pcs_nil]
    · have hw := decodeL_width l
      have hl : 0 < l.length := List.length_pos_iff.2 h0
      have := ih (l.drop (decodeL l).2) (by rw [List.length_drop]; omega)
      rw [List.length_drop] at this
      rw [pcs_step l h0, List.length_cons]
      omega

theorem runes_length (l : List UInt8) : (runes l).length ≤ l.length := by
  unfold runes; rw [List.length_map]; exact pcs_length _ l (Nat.le_refl _)

/-! an ASCII byte parts runes -/
set_option maxRecDepth 100000 in
set_option maxHeartbeats 2000000 in
theorem decodeL_cut (l : List UInt8) (c : UInt8) (t : List UInt8) (h : l ≠ []) (hc : c.toNat < 128) : decodeL (l ++ c :: t) = decodeL l := by
  rw [decodeL_N, decodeL_N]
  have hz : UInt8.toNat 0 = 0 := rfl
  match l, h with
  | [a], _ =>
    simp only [List.cons_append, List.nil_append, List.length_cons, List.length_nil, List.getD_cons_zero, List.getD_cons_succ, List.getD_nil, hz]
    generalize (t.getD 0 0).toNat = x
    generalize (t.getD 1 0).toNat = y
    generalize c.toNat = z at *
    generalize a.toNat = u
    have n1 : ¬ (z / 64 = 2) := by omega
    have n2 : ¬ (1 < 0 + 1) := by omega
    unfold decodeN
    simp only [n1, n2, and_false, false_and, if_false]
  | [a, b], _ =>
    simp only [List.cons_append, List.nil_append, List.length_cons, List.length_nil, List.getD_cons_zero, List.getD_cons_succ, List.getD_nil, hz]
    generalize (t.getD 0 0).toNat = y
    generalize c.toNat = z at *
    generalize a.toNat = u
    generalize b.toNat = v
    have n1 : ¬ (z / 64 = 2) := by omega
    have n2 : ¬ (2 < 0 + 1 + 1) := by omega
    have p1 : 1 < 0 + 1 + 1 := by omega
    have p2 : 1 < t.length + 1 + 1 + 1 := by omega
    unfold decodeN
    simp only [n1, n2, p1, p2, and_false, false_and, if_false, true_and]
  | [a, b, d], _ =>
    simp only [List.cons_append, List.nil_append, List.length_cons, List.length_nil, List.getD_cons_zero, List.getD_cons_succ, List.getD_nil, hz]
    generalize c.toNat = z at *
    generalize a.toNat = u
    generalize b.toNat = v
    generalize d.toNat = x
    have n1 : ¬ (z / 64 = 2) := by omega
    have n2 : ¬ (3 < 0 + 1 + 1 + 1) := by omega
    have p1 : 1 < 0 + 1 + 1 + 1 := by omega
    have p2 : 1 < t.length + 1 + 1 + 1 + 1 := by omega
    have p3 : 2 < 0 + 1 + 1 + 1 := by omega
    have p4 : 2 < t.length + 1 + 1 + 1 + 1 := by omega
    unfold decodeN
    simp only [n1, n2, p1, p2, p3, p4, and_false, false_and, if_false, true_and]
  | a :: b :: d :: e :: r, _ =>
    simp only [List.cons_append, List.nil_append, List.length_cons, List.length_append, List.getD_cons_zero, List.getD_cons_succ]
    have p1 : 1 < r.length + (t.length + 1) + 1 + 1 + 1 + 1 := by omega
    have p2 : 2 < r.length + (t.length + 1) + 1 + 1 + 1 + 1 := by omega
    have p3 : 3 < r.length + (t.length + 1) + 1 + 1 + 1 + 1 := by omega
    have q1 : 1 < r.length + 1 + 1 + 1 + 1 := by omega
    have q2 : 2 < r.length + 1 + 1 + 1 + 1 := by omega
    have q3 : 3 < r.length + 1 + 1 + 1 + 1 := by omega
    unfold decodeN
    simp only [p1, p2, p3, q1, q2, q3, true_and]

theorem pcs_cut : ∀ (n : Nat) (l : List UInt8) (c : UInt8) (t : List UInt8), l.length ≤ n → c.toNat < 128 → pcs (l ++ c :: t) = pcs l ++ pcs (c :: t) := by
  intro n
  induction n with
  | zero => intro l c t h _; have : l = [] := List.eq_nil_of_length_eq_zero (by omega); subst this; rfl
  | succ n ih =>
    intro l c t h hc
    by_cases h0 : l = []
    · subst h0; rfl
    · have hw := decodeL_width l
      have hle := decodeL_le l h0
      have hl : 0 < l.length := List.length_pos_iff.2 h0
      rw [pcs_step l h0, pcs_step (l ++ c :: t) (by simp), decodeL_cut l c t h0 hc, List.take_append_of_le_length hle, List.drop_append_of_le_length hle,
        ih _ c t (by rw [List.length_drop]; omega) hc]
      rfl

theorem runes_cut (l : List UInt8) (c : UInt8) (t : List UInt8) (hc : c.toNat < 128) : runes (l ++ c :: t) = runes l ++ c.toNat :: runes t := by
  rw [← runes_ascii c t hc]
  unfold runes
  rw [pcs_cut _ l c t (Nat.le_refl _) hc, List.map_append]

/-- the bytes x are the runes rs, whatever follows -/
def Ends (x : List UInt8) (rs : List Nat) : Prop := ∀ t, runes (x ++ t) = rs ++ runes t

theorem ends_nil : Ends [] [] := fun _ => rfl
theorem ends_append {x y : List UInt8} {a b : List Nat} (hx : Ends x a) (hy : Ends y b) : Ends (x ++ y) (a ++ b) := fun t => by
  rw [List.append_assoc, hx, hy, List.append_assoc]
theorem ends_ascii (c : UInt8) (hc : c.toNat < 128) : Ends [c] [c.toNat] := fun t => runes_ascii c t hc
theorem ends_cons {c : UInt8} {x : List UInt8} {a : List Nat} (hc : c.toNat < 128) (hx : Ends x a) : Ends (c :: x) (c.toNat :: a) := ends_append (ends_ascii c hc) hx
theorem ends_runes {x : List UInt8} {a : List Nat} (h : Ends x a) : runes x = a := by
  have := h []
  simpa [runes_nil] using this
theorem ends_flat {α : Type} (f : α → List UInt8) (g : α → List Nat) : ∀ (l : List α), (∀ p ∈ l, Ends (f p) (g p)) → Ends (l.flatMap f) (l.flatMap g) := by
  intro l
  induction l with
  | nil => intro _; exact ends_nil
  | cons p l ih =>
    intro h
    rw [List.flatMap_cons, List.flatMap_cons]
    exact ends_append (h p (by simp)) (ih fun q hq => h q (by simp [hq]))

theorem toUInt8_toNat (z : Int) (h0 : 0 ≤ z) (h1 : z < 256) : (z.toNat.toUInt8).toNat = z.toNat := by
  have : z.toNat < 256 := by omega
  simp [Nat.mod_eq_of_lt this]

theorem ends_enc (r : Nat) (h1 : r ≤ 1114111) (h2 : r < 55296 ∨ 57343 < r) : Ends (encodeRune (r : Int)) [r] := by
  intro t
  have hne : encodeRune (r : Int) ++ t ≠ [] := by
    have := encodeRuneZ_length (r : Int)
    intro h
    have h3 := (List.append_eq_nil_iff.1 h).1
    have h4 : (encodeRuneZ (r : Int)).length = 0 := by have := congrArg List.length h3; rwa [encodeRune, List.length_map, List.length_nil] at this
    omega
  have key : decodeL (encodeRune (r : Int) ++ t) = (r, (encodeRune (r : Int)).length) := by
    rw [decodeL_N]
    unfold encodeRune
    by_cases c1 : r ≤ 127
    · rw [encodeRuneZ_one (by omega) (by omega)]
      simp only [List.map_cons, List.map_nil, List.cons_append, List.nil_append, List.length_cons, List.length_nil, List.getD_cons_zero]
      rw [toUInt8_toNat _ (by omega) (by omega)]
      unfold decodeN
      rw [if_pos (by omega)]
      simp
    by_cases c2 : r ≤ 2047
    · rw [encodeRuneZ_two (by omega) (by omega)]
      simp only [List.map_cons, List.map_nil, List.cons_append, List.nil_append, List.length_cons, List.length_nil, List.getD_cons_zero, List.getD_cons_succ]
      rw [toUInt8_toNat _ (by omega) (by omega), toUInt8_toNat _ (by omega) (by omega)]
      rw [show ((192 + (r : Int) / 64).toNat) = 192 + r / 64 from by omega, show ((128 + (r : Int) % 64).toNat) = 128 + r % 64 from by omega]
      unfold decodeN
      rw [if_neg (by omega), if_pos (by omega), if_pos (by omega)]
      apply Prod.ext <;> simp only <;> omega
    by_cases c3 : r ≤ 65535
    · rw [encodeRuneZ_three (by omega)]
      simp only [List.map_cons, List.map_nil, List.cons_append, List.nil_append, List.length_cons, List.length_nil, List.getD_cons_zero, List.getD_cons_succ]
      rw [toUInt8_toNat _ (by omega) (by omega), toUInt8_toNat _ (by omega) (by omega), toUInt8_toNat _ (by omega) (by omega)]
      rw [show ((224 + (r : Int) / 4096).toNat) = 224 + r / 4096 from by omega, show ((128 + (r : Int) / 64 % 64).toNat) = 128 + r / 64 % 64 from by omega, show ((128 + (r : Int) % 64).toNat) = 128 + r % 64 from by omega]
      unfold decodeN
      rw [if_neg (by omega), if_neg (by omega), if_pos (by omega), if_pos (by omega)]
      apply Prod.ext <;> simp only <;> omega
    · rw [encodeRuneZ_four (by omega) (by omega)]
      simp only [List.map_cons, List.map_nil, List.cons_append, List.nil_append, List.length_cons, List.length_nil, List.getD_cons_zero, List.getD_cons_succ]
      rw [toUInt8_toNat _ (by omega) (by omega), toUInt8_toNat _ (by omega) (by omega), toUInt8_toNat _ (by omega) (by omega), toUInt8_toNat _ (by omega) (by omega)]
      rw [show ((240 + (r : Int) / 262144).toNat) = 240 + r / 262144 from by omega, show ((128 + (r : Int) / 4096 % 64).toNat) = 128 + r / 4096 % 64 from by omega, show ((128 + (r : Int) / 64 % 64).toNat) = 128 + r / 64 % 64 from by omega, show ((128 + (r : Int) % 64).toNat) = 128 + r % 64 from by omega]
      unfold decodeN
      rw [if_neg (by omega), if_neg (by omega), if_neg (by omega), if_pos (by omega), if_pos (by omega)]
      apply Prod.ext <;> simp only <;> omega
  rw [runes_step _ hne, key]
  simp

/-! signs -/
def blankB (r : Nat) : Bool := decide (r = 32 ∨ r = 9)
def shownB (r : Nat) : Bool := decide (32 ≤ r ∧ r ≠ 127 ∧ r ≠ 65533)
def plainB (r : Nat) : Bool := decide (32 < r ∧ r ≠ 127 ∧ r ≠ 65533 ∧ r ≠ 34 ∧ r ≠ 35)
def hexv (r : Nat) : Option Nat := if 48 ≤ r ∧ r ≤ 57 then some (r - 48) else if 97 ≤ r ∧ r ≤ 102 then some (r - 87) else none
def hexd (n : Nat) : UInt8 := if n < 10 then UInt8.ofNat (48 + n) else UInt8.ofNat (87 + n)

theorem hexv_lt {r d : Nat} (h : hexv r = some d) : d < 16 := by
  unfold hexv at h
  split at h
  · injection h with h; omega
  · split at h
    · injection h with h; omega
    · cases h

theorem hexd_ok : ∀ n : Fin 16, (hexd n.val).toNat < 128 ∧ hexv (hexd n.val).toNat = some n.val ∧ shownB (hexd n.val).toNat = true := by decide +kernel

/-! the reader -/
structure St where
  at_ : Nat
  ws : List (List UInt8)
  wd : List UInt8
  hi : Nat

def FORM : Int := 4
def MANY : Int := 5

def say (r : Nat) (s : St) : St := { s with wd := s.wd ++ encodeRune (r : Int) }
def endS (r : Nat) (s : St) : Except Int St := if blankB r then .ok ⟨0, s.ws ++ [s.wd], [], s.hi⟩ else .error FORM
def beginS (r : Nat) (s : St) : Except Int St :=
  if blankB r then .ok s else if r ≠ 34 ∧ plainB r = false then .error FORM else if s.ws.length = 12 then .error MANY
  else if r = 34 then .ok { s with at_ := 2 } else .ok { s with at_ := 1, wd := s.wd ++ encodeRune (r : Int) }
def plainS (r : Nat) (s : St) : Except Int St := if plainB r then .ok (say r s) else endS r s
def quotedS (r : Nat) (s : St) : Except Int St :=
  if r = 34 then .ok { s with at_ := 6 } else if r = 92 then .ok { s with at_ := 3 } else if shownB r then .ok (say r s) else .error FORM
def escapedS (r : Nat) (s : St) : Except Int St :=
  if r = 34 ∨ r = 92 then .ok { s with at_ := 2, wd := s.wd ++ encodeRune (r : Int) } else if r = 120 then .ok { s with at_ := 4 } else .error FORM
def digitS (r : Nat) (s : St) : Except Int St :=
  match hexv r with
  | none => .error FORM
  | some d => if s.at_ = 4 then .ok { s with hi := d * 16, at_ := 5 } else .ok { s with wd := s.wd ++ [UInt8.ofNat (s.hi + d)], at_ := 2 }
def step (r : Nat) (s : St) : Except Int St :=
  if s.at_ = 0 then beginS r s else if s.at_ = 1 then plainS r s else if s.at_ = 2 then quotedS r s else if s.at_ = 3 then escapedS r s
  else if s.at_ = 4 ∨ s.at_ = 5 then digitS r s else endS r s

def go : List Nat → St → Except Int St
  | [], s => .ok s
  | r :: rs, s => if r = 35 ∧ s.at_ = 0 then .ok s else match step r s with
    | .ok s' => go rs s'
    | .error e => .error e

def fin : Except Int St → Except Int (List (List UInt8))
  | .error e => .error e
  | .ok s => match step 32 s with
    | .error _ => .error FORM
    | .ok s' => if s'.at_ = 0 then .ok s'.ws else .error FORM

def st0 : St := ⟨0, [], [], 0⟩
/-- a line's words -/
def words (l : List UInt8) : Except Int (List (List UInt8)) := if 400 < l.length then .error MANY else fin (go (runes l) st0)

/-! what a step can do -/
/-- how a reader stands -/
structure Ok (s : St) : Prop where
  at6 : s.at_ ≤ 6
  ws : s.ws.length ≤ 12
  ws' : s.at_ ≠ 0 → s.ws.length < 12
  wd : s.at_ = 0 → s.wd = []
  hi : s.hi < 256
  hi5 : s.at_ = 5 → s.hi % 16 = 0

theorem ok0 : Ok st0 := ⟨by simp [st0], by simp [st0], by simp [st0], by simp [st0], by simp [st0], by simp [st0]⟩

theorem step_ok {r : Nat} {s s' : St} (h : Ok s) (hs : step r s = .ok s') : Ok s' ∧ s'.wd.length ≤ s.wd.length + 4 := by
  obtain ⟨h1, h2, h3, h4, h5, h6⟩ := h
  have he := encodeRuneZ_length (r : Int)
  have hl : (encodeRune (r : Int)).length ≤ 4 := by simpa [encodeRune] using he.2
  have hd : ∀ d, hexv r = some d → d < 16 := fun d hd => hexv_lt hd
  obtain ⟨at_, ws, wd, hi⟩ := s
  simp only at h1 h2 h3 h4 h5 h6
  have dig : digitS r ⟨at_, ws, wd, hi⟩ = .ok s' → at_ ≠ 0 → Ok s' ∧ s'.wd.length ≤ wd.length + 4 := by
    intro hs h0
    unfold digitS at hs
    cases hh : hexv r with
    | none => rw [hh] at hs; cases hs
    | some d =>
      rw [hh] at hs
      have := hd d hh
      simp only at hs
      split at hs
      · injection hs with hs; subst hs
        exact ⟨⟨by simp, by simp only; omega, by simp only; intro _; exact h3 h0, by simp, by simp only; omega, by simp only; omega⟩, by simp⟩
      · injection hs with hs; subst hs
        exact ⟨⟨by simp, by simp only; omega, by simp only; intro _; exact h3 h0, by simp, by simpa using h5, by simp⟩, by simp⟩
  have fin : endS r ⟨at_, ws, wd, hi⟩ = .ok s' → at_ ≠ 0 → Ok s' ∧ s'.wd.length ≤ wd.length + 4 := by
    intro hs h0
    unfold endS at hs
    split at hs
    · injection hs with hs; subst hs
      have := h3 h0
      exact ⟨⟨by simp, by simp only [List.length_append, List.length_cons, List.length_nil]; omega, by simp, by simp, by simpa using h5, by simp⟩, by simp⟩
    · cases hs
  unfold step at hs
  simp only at hs
  split at hs
  · rename_i h0
    subst h0
    unfold beginS at hs
    simp only at hs
    split at hs
    · injection hs with hs; subst hs; exact ⟨⟨h1, h2, h3, h4, h5, h6⟩, by simp⟩
    · split at hs
      · cases hs
      · split at hs
        · cases hs
        · split at hs
          · injection hs with hs; subst hs
            exact ⟨⟨by simp, by simp only; omega, by simp only; omega, by simp, by simpa using h5, by simp⟩, by simp⟩
          · injection hs with hs; subst hs
            exact ⟨⟨by simp, by simp only; omega, by simp only; omega, by simp, by simpa using h5, by simp⟩, by simp only [List.length_append]; omega⟩
  · rename_i h0
    have h3' := h3 h0
    split at hs
    · unfold plainS at hs
      split at hs
      · injection hs with hs; subst hs
        exact ⟨⟨by simpa [say] using h1, by simpa [say] using h2, by simpa [say] using h3, by simp only [say]; intro h; exact absurd h h0, by simpa [say] using h5, by simpa [say] using h6⟩, by simp only [say, List.length_append]; omega⟩
      · exact fin hs h0
    · split at hs
      · unfold quotedS at hs
        split at hs
        · injection hs with hs; subst hs
          exact ⟨⟨by simp, by simp only; omega, by simp only; omega, by simp, by simpa using h5, by simp⟩, by simp⟩
        · split at hs
          · injection hs with hs; subst hs
            exact ⟨⟨by simp, by simp only; omega, by simp only; omega, by simp, by simpa using h5, by simp⟩, by simp⟩
          · split at hs
            · injection hs with hs; subst hs
              exact ⟨⟨by simpa [say] using h1, by simpa [say] using h2, by simpa [say] using h3, by simp only [say]; intro h; exact absurd h h0, by simpa [say] using h5, by simpa [say] using h6⟩, by simp only [say, List.length_append]; omega⟩
            · cases hs
      · split at hs
        · unfold escapedS at hs
          split at hs
          · injection hs with hs; subst hs
            exact ⟨⟨by simp, by simp only; omega, by simp only; omega, by simp, by simpa using h5, by simp⟩, by simp only [List.length_append]; omega⟩
          · split at hs
            · injection hs with hs; subst hs
              exact ⟨⟨by simp, by simp only; omega, by simp only; omega, by simp, by simpa using h5, by simp⟩, by simp⟩
            · cases hs
        · split at hs
          · exact dig hs h0
          · exact fin hs h0

/-! blanks change nothing -/
theorem step_blank0 (r : Nat) (s : St) (h : s.at_ = 0) (hr : blankB r = true) : step r s = .ok s := by
  simp [step, h, beginS, hr]

theorem blank_32 : blankB 32 = true := by decide
theorem blank_9 : blankB 9 = true := by decide

/-- a blank ends what is under way as a line's end does -/
theorem fin_blank (b : Nat) (hb : blankB b = true) (s : St) (h6 : s.at_ ≤ 6) : fin (go [b] s) = fin (.ok s) := by
  have hb35 : b ≠ 35 := by intro h; subst h; simp [blankB] at hb
  have hb' : b = 32 ∨ b = 9 := by simpa [blankB] using hb
  obtain ⟨at_, ws, wd, hi⟩ := s
  simp only at h6
  have : at_ = 0 ∨ at_ = 1 ∨ at_ = 2 ∨ at_ = 3 ∨ at_ = 4 ∨ at_ = 5 ∨ at_ = 6 := by omega
  rcases this with rfl | rfl | rfl | rfl | rfl | rfl | rfl <;> rcases hb' with rfl | rfl <;> simp [go, fin, step, beginS, plainS, endS, quotedS, escapedS, digitS, blankB, plainB, shownB, hexv, say]

theorem fin_go (t : List Nat) (P : St → Prop) (hP : ∀ r s s', P s → step r s = .ok s' → P s') (ht : ∀ s, P s → fin (go t s) = fin (.ok s)) : ∀ (a : List Nat) (s : St), P s → fin (go (a ++ t) s) = fin (go a s) := by
  intro a
  induction a with
  | nil => intro s hs; exact ht s hs
  | cons r a ih =>
    intro s hs
    simp only [List.cons_append, go]
    split
    · rfl
    · cases h : step r s with
      | error e => rfl
      | ok s' => exact ih s' (hP r s s' hs h)

theorem fin_blanks : ∀ (t : List Nat), (∀ b ∈ t, blankB b = true) → ∀ s : St, Ok s → fin (go t s) = fin (.ok s) := by
  intro t
  induction t with
  | nil => intro _ s _; rfl
  | cons b t ih =>
    intro h s hs
    have hb := h b (by simp)
    have hb35 : b ≠ 35 := by intro h; subst h; simp [blankB] at hb
    rw [← fin_blank b hb s hs.at6]
    simp only [go]
    rw [if_neg (by simp [hb35]), if_neg (by simp [hb35])]
    cases hst : step b s with
    | error e => rfl
    | ok s' => exact ih (fun c hc => h c (by simp [hc])) s' (step_ok hs hst).1

theorem go_blanks0 : ∀ (t : List Nat), (∀ b ∈ t, blankB b = true) → ∀ (a : List Nat) (s : St), s.at_ = 0 → go (t ++ a) s = go a s := by
  intro t
  induction t with
  | nil => intro _ a s _; rfl
  | cons b t ih =>
    intro h a s hs
    have hb := h b (by simp)
    have hb35 : b ≠ 35 := by intro h; subst h; simp [blankB] at hb
    simp only [List.cons_append, go]
    rw [if_neg (by simp [hb35]), step_blank0 b s hs hb]
    exact ih (fun c hc => h c (by simp [hc])) a s hs

theorem words_blanks (p q l : List UInt8) (hp : ∀ b ∈ p, b = 32) (hq : ∀ b ∈ q, b = 9) (hlen : (p ++ l ++ q).length ≤ 400) : words (p ++ l ++ q) = words l := by
  have hpr : ∀ p : List UInt8, (∀ b ∈ p, b = 32) → ∀ t, ∃ m, (∀ b ∈ m, blankB b = true) ∧ runes (p ++ t) = m ++ runes t := by
    intro p
    induction p with
    | nil => intro _ t; exact ⟨[], by simp, rfl⟩
    | cons b p ih =>
      intro h t
      have hb := h b (by simp); subst hb
      obtain ⟨m, hm, e⟩ := ih (fun c hc => h c (by simp [hc])) t
      refine ⟨32 :: m, ?_, ?_⟩
      · intro c hc
        rcases List.mem_cons.1 hc with rfl | hc
        · rfl
        · exact hm c hc
      · rw [List.cons_append, runes_ascii _ _ (by decide), e]; rfl
  have hqr : ∀ q : List UInt8, (∀ b ∈ q, b = 9) → ∃ m, (∀ b ∈ m, blankB b = true) ∧ ∀ l, runes (l ++ q) = runes l ++ m := by
    intro q hq
    cases q with
    | nil => exact ⟨[], by simp, by simp⟩
    | cons c q =>
      have hc := hq c (by simp); subst hc
      have hr : ∀ q : List UInt8, (∀ b ∈ q, b = 9) → ∀ b ∈ runes q, blankB b = true := by
        intro q
        induction q with
        | nil => intro _ b hb; simp [runes_nil] at hb
        | cons c q ih =>
          intro h b hb
          have hc := h c (by simp); subst hc
          rw [runes_ascii _ _ (by decide)] at hb
          rcases List.mem_cons.1 hb with rfl | hb
          · rfl
          · exact ih (fun c hc => h c (by simp [hc])) b hb
      refine ⟨9 :: runes q, ?_, fun l => by rw [runes_cut _ _ _ (by decide)]; rfl⟩
      intro b hb
      rcases List.mem_cons.1 hb with rfl | hb
      · rfl
      · exact hr q (fun c hc => hq c (by simp [hc])) b hb
  obtain ⟨mq, hmq, eq⟩ := hqr q hq
  obtain ⟨mp, hmp, ep⟩ := hpr p hp l
  simp only [List.length_append] at hlen
  unfold words
  rw [if_neg (by simp only [List.length_append]; omega), if_neg (by omega), eq, ep, List.append_assoc, go_blanks0 mp hmp _ _ rfl]
  exact fin_go mq Ok (fun r s s' h h' => (step_ok h h').1) (fun s hs => fin_blanks mq hmq s hs) _ _ ok0

/-- a sign that passes all over, behind a blank -/
theorem words_over (l t : List UInt8) (hlen : (l ++ 32 :: 35 :: t).length ≤ 400) (h : ∀ ws, words l ≠ .ok ws → t = [32, 120]) : words (l ++ 32 :: 35 :: t) = words l := by
  simp only [List.length_append, List.length_cons] at hlen
  unfold words at h ⊢
  rw [if_neg (by simp only [List.length_append, List.length_cons]; omega), if_neg (by omega)]
  rw [if_neg (by omega)] at h
  rw [runes_cut _ _ _ (by decide), runes_ascii _ _ (by decide)]
  have e32 : (32 : UInt8).toNat = 32 := rfl
  have e35 : (35 : UInt8).toNat = 35 := rfl
  rw [e32, e35]
  by_cases ht : t = [32, 120]
  · subst ht
    have er : runes [32, 120] = [32, 120] := by rw [runes_ascii _ _ (by decide), runes_ascii _ _ (by decide)]; rfl
    rw [er]
    refine fin_go _ Ok (fun r s s' h h' => (step_ok h h').1) (fun s hs => ?_) _ _ ok0
    obtain ⟨at_, ws, wd, hi⟩ := s
    have h6 := hs.at6
    simp only at h6
    have : at_ = 0 ∨ at_ = 1 ∨ at_ = 2 ∨ at_ = 3 ∨ at_ = 4 ∨ at_ = 5 ∨ at_ = 6 := by omega
    rcases this with rfl | rfl | rfl | rfl | rfl | rfl | rfl <;> simp [go, fin, step, beginS, plainS, endS, quotedS, escapedS, digitS, blankB, plainB, shownB, hexv, say]
  · have h2 : ∃ ws, fin (go (runes l) st0) = .ok ws := by
      cases hf : fin (go (runes l) st0) with
      | ok ws => exact ⟨ws, rfl⟩
      | error e => exact absurd (h [] (by rw [hf]; intro h; cases h)) ht
    clear h ht
    have : ∀ (a : List Nat) (s : St) ws, Ok s → fin (go a s) = .ok ws → fin (go (a ++ 32 :: 35 :: runes t) s) = .ok ws := by
      intro a
      induction a with
      | nil =>
        intro s ws hs hf
        simp only [List.nil_append, go] at hf ⊢
        unfold fin at hf
        simp only at hf
        rw [if_neg (by simp)]
        cases hst : step 32 s with
        | error e => rw [hst] at hf; cases hf
        | ok s' =>
          rw [hst] at hf
          simp only at hf ⊢
          split at hf
          · rename_i h0
            rw [if_pos (by simp [h0])]
            unfold fin
            simp only
            rw [step_blank0 32 s' h0 blank_32]
            simp only
            rw [if_pos h0]
            exact hf
          · cases hf
      | cons r a ih =>
        intro s ws hs hf
        simp only [List.cons_append, go] at hf ⊢
        split
        · rename_i h0; rw [if_pos h0] at hf; exact hf
        · rename_i h0
          rw [if_neg h0] at hf
          cases hst : step r s with
          | error e => rw [hst] at hf; cases hf
          | ok s' => rw [hst] at hf; exact ih s' ws (step_ok hs hst).1 hf
    obtain ⟨ws, hws⟩ := h2
    rw [hws]
    exact this _ _ ws ok0 hws

/-- a line's words are twelve at most -/
theorem words_le {l : List UInt8} {ws : List (List UInt8)} (h : words l = .ok ws) : ws.length ≤ 12 := by
  unfold words at h
  split at h
  · cases h
  · have : ∀ (a : List Nat) (s : St), Ok s → ∀ s', go a s = .ok s' → Ok s' := by
      intro a
      induction a with
      | nil => intro s hs s' h; injection h with h; subst h; exact hs
      | cons r a ih =>
        intro s hs s' h
        simp only [go] at h
        split at h
        · injection h with h; subst h; exact hs
        · cases hst : step r s with
          | error e => rw [hst] at h; cases h
          | ok s1 => rw [hst] at h; exact ih s1 (step_ok hs hst).1 s' h
    cases hg : go (runes l) st0 with
    | error e => rw [hg] at h; cases h
    | ok s =>
      rw [hg] at h
      unfold fin at h
      simp only at h
      cases hst : step 32 s with
      | error e => rw [hst] at h; cases h
      | ok s1 =>
        rw [hst] at h
        simp only at h
        split at h
        · injection h with h; subst h; exact (step_ok (this _ _ ok0 _ hg) hst).1.ws
        · cases h
end Go.Proofs.YtaldkdiijflmdaaDoor.M
