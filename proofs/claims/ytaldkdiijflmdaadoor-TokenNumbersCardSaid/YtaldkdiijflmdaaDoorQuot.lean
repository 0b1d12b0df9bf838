/-
  Plain mathematics of quoting: a quoted text is one word again.
-/
import Derived.Test.YtaldkdiijflmdaaDoorMath
namespace Go.Proofs.YtaldkdiijflmdaaDoor.M
open Go.Lib
set_option linter.unusedVariables false
set_option linter.unusedSimpArgs false

/-- is it a plain word? -/
def plainW (l : List UInt8) : Bool := decide (l ≠ []) && (runes l).all plainB
def hex1 (c : UInt8) : List UInt8 := [92, 120, hexd (c.toNat / 16), hexd (c.toNat % 16)]
def hexs (l : List UInt8) : List UInt8 := l.flatMap hex1
def esc1 (p : Nat × List UInt8) : List UInt8 :=
  if p.1 = 34 ∨ p.1 = 92 then [92, UInt8.ofNat p.1] else if shownB p.1 then encodeRune (p.1 : Int) else hexs p.2
def quote (l : List UInt8) : List UInt8 := if plainW l then l else 34 :: (pcs l).flatMap esc1 ++ [34]

/-! what runes a quoted text has -/
def hexr (c : UInt8) : List Nat := [92, 120, (hexd (c.toNat / 16)).toNat, (hexd (c.toNat % 16)).toNat]
def escr (p : Nat × List UInt8) : List Nat :=
  if p.1 = 34 ∨ p.1 = 92 then [92, p.1] else if shownB p.1 then [p.1] else p.2.flatMap hexr
def quoter (l : List UInt8) : List Nat := if plainW l then runes l else 34 :: (pcs l).flatMap escr ++ [34]

theorem hexd_div (c : UInt8) : (hexd (c.toNat / 16)).toNat < 128 ∧ hexv (hexd (c.toNat / 16)).toNat = some (c.toNat / 16) ∧ shownB (hexd (c.toNat / 16)).toNat = true :=
  hexd_ok ⟨c.toNat / 16, by have := c.toNat_lt; omega⟩
theorem hexd_mod (c : UInt8) : (hexd (c.toNat % 16)).toNat < 128 ∧ hexv (hexd (c.toNat % 16)).toNat = some (c.toNat % 16) ∧ shownB (hexd (c.toNat % 16)).toNat = true :=
  hexd_ok ⟨c.toNat % 16, by omega⟩

theorem ends_hex1 (c : UInt8) : Ends (hex1 c) (hexr c) :=
  ends_cons (c := 92) (by decide) (ends_cons (c := 120) (by decide) (ends_cons (hexd_div c).1 (ends_cons (hexd_mod c).1 ends_nil)))

theorem ends_esc1 (p : Nat × List UInt8) (hp : Piece p) : Ends (esc1 p) (escr p) := by
  unfold esc1 escr
  split
  · rename_i h
    have : (UInt8.ofNat p.1).toNat = p.1 := by rcases h with h | h <;> rw [h] <;> rfl
    have h1 := ends_ascii (UInt8.ofNat p.1) (by omega)
    rw [this] at h1
    exact ends_append (ends_ascii 92 (by decide)) h1
  · split
    · exact ends_enc p.1 hp.rune hp.valid
    · exact ends_flat hex1 hexr p.2 fun c _ => ends_hex1 c

theorem runes_quote (l : List UInt8) (c : UInt8) (t : List UInt8) (hc : c.toNat < 128) : runes (quote l ++ c :: t) = quoter l ++ c.toNat :: runes t := by
  unfold quote quoter
  split
  · exact runes_cut l c t hc
  · have h1 : Ends ((pcs l).flatMap esc1) ((pcs l).flatMap escr) := ends_flat esc1 escr _ fun p hp => ends_esc1 p (pcs_piece _ l (Nat.le_refl _) p hp)
    have h2 := ends_append (ends_cons (c := 34) (by decide) h1) (ends_ascii 34 (by decide))
    have h3 := h2 (c :: t)
    rw [runes_ascii c t hc] at h3
    exact h3

theorem runes_quote0 (l : List UInt8) : runes (quote l) = quoter l := by
  unfold quote quoter
  split
  · rfl
  · have h1 : Ends ((pcs l).flatMap esc1) ((pcs l).flatMap escr) := ends_flat esc1 escr _ fun p hp => ends_esc1 p (pcs_piece _ l (Nat.le_refl _) p hp)
    exact ends_runes (ends_append (ends_cons (c := 34) (by decide) h1) (ends_ascii 34 (by decide)))

/-! a quoted text has signs that can be shown -/
theorem plain_shown {r : Nat} (h : plainB r = true) : shownB r = true := by
  simp only [plainB, shownB, decide_eq_true_eq] at h ⊢; omega

theorem quoter_shown (l : List UInt8) : ∀ r ∈ quoter l, shownB r = true := by
  intro r hr
  unfold quoter at hr
  split at hr
  · rename_i h
    unfold plainW at h
    rw [Bool.and_eq_true, List.all_eq_true] at h
    exact plain_shown (h.2 r hr)
  · simp only [List.cons_append, List.mem_cons, List.mem_append, List.mem_nil_iff, or_false, List.mem_flatMap] at hr
    rcases hr with rfl | ⟨p, hp, hr⟩ | rfl
    · rfl
    · unfold escr at hr
      split at hr
      · rename_i h
        simp only [List.mem_cons, List.mem_nil_iff, or_false] at hr
        rcases hr with rfl | rfl
        · rfl
        · rcases h with h | h <;> rw [h] <;> rfl
      · split at hr
        · rename_i h
          simp only [List.mem_cons, List.mem_nil_iff, or_false] at hr
          rw [hr]; exact h
        · obtain ⟨c, _, hr⟩ := List.mem_flatMap.1 hr
          simp only [hexr, List.mem_cons, List.mem_nil_iff, or_false] at hr
          rcases hr with rfl | rfl | rfl | rfl
          · rfl
          · rfl
          · exact (hexd_div c).2.2
          · exact (hexd_mod c).2.2
    · rfl

/-! how long -/
theorem esc1_ge (p : Nat × List UInt8) (hp : Piece p) (hd : p.1 < 128 → p.2.length = 1) : p.2.length ≤ (esc1 p).length ∧ (esc1 p).length ≤ 16 := by
  unfold esc1
  split
  · rename_i h
    have : p.2.length = 1 := hd (by omega)
    simp [this]
  · split
    · rename_i h
      have hne : p.1 ≠ 65533 := by simp [shownB] at h; omega
      rw [hp.enc hne]
      have := hp.bytes
      omega
    · have := hp.bytes
      have h2 : ∀ x : List UInt8, (hexs x).length = 4 * x.length := by
        intro x
        induction x with
        | nil => rfl
        | cons c x ih => simp only [hexs, List.flatMap_cons, List.length_append] at ih ⊢; rw [ih]; simp [hex1]; omega
      rw [h2]
      omega

theorem piece_one (l : List UInt8) : ∀ (n : Nat), l.length ≤ n → ∀ p ∈ pcs l, p.1 < 128 → p.2.length = 1 := by
  intro n
  induction n generalizing l with
  | zero => intro h; have : l = [] := List.eq_nil_of_length_eq_zero (by omega); subst this; simp [pcs_nil]
  | succ n ih =>
    intro h
    by_cases h0 : l = []
    · subst h0; simp [pcs_nil]
    · have hw := decodeL_width l
      have hle := decodeL_le l h0
      have hl : 0 < l.length := List.length_pos_iff.2 h0
      rw [pcs_step l h0]
      intro p hp
      rcases List.mem_cons.1 hp with rfl | hp
      · intro h128
        simp only at h128 ⊢
        rw [List.length_take]
        have : (decodeL l).2 = 1 := by
          rw [decodeL_N] at h128 ⊢
          have k0 := (l.getD 0 0).toNat_lt
          rcases decodeN_shape l.length (l.getD 0 0).toNat (l.getD 1 0).toNat (l.getD 2 0).toNat (l.getD 3 0).toNat with ⟨c, e⟩ | ⟨c1, c2, c3, cv, e⟩ | ⟨c1, c2, c3, c4, cv, cs, e⟩ | ⟨c1, c2, c3, c4, c5, cv, cw, e⟩ | e
          all_goals first
            | (rw [e]; done)
            | (exfalso; rw [e] at h128; simp only at h128; omega)
        omega
      · exact ih _ (by rw [List.length_drop]; omega) p hp

theorem flat_ge (f : Nat × List UInt8 → List UInt8) : ∀ (ps : List (Nat × List UInt8)), (∀ p ∈ ps, p.2.length ≤ (f p).length ∧ (f p).length ≤ 16) → (ps.flatMap (·.2)).length ≤ (ps.flatMap f).length ∧ (ps.flatMap f).length ≤ 16 * ps.length := by
  intro ps
  induction ps with
  | nil => intro _; simp
  | cons p ps ih =>
    intro h
    have h1 := h p (by simp)
    have h2 := ih fun q hq => h q (by simp [hq])
    simp only [List.flatMap_cons, List.length_append, List.length_cons]
    omega

theorem esc_len (l : List UInt8) : l.length ≤ ((pcs l).flatMap esc1).length ∧ ((pcs l).flatMap esc1).length ≤ 16 * l.length := by
  have h := flat_ge esc1 (pcs l) fun p hp => esc1_ge p (pcs_piece _ l (Nat.le_refl _) p hp) (piece_one l _ (Nat.le_refl _) p hp)
  rw [pcs_flat _ l (Nat.le_refl _)] at h
  have := pcs_length _ l (Nat.le_refl _)
  omega

theorem quote_len (l : List UInt8) : (quote l).length ≤ 16 * l.length + 2 ∧ 1 ≤ (quote l).length := by
  have := esc_len l
  unfold quote
  split
  · rename_i h
    unfold plainW at h
    rw [Bool.and_eq_true] at h
    have h1 : l ≠ [] := by simpa using h.1
    have := List.length_pos_iff.2 h1
    omega
  · simp only [List.cons_append, List.length_cons, List.length_append, List.length_nil]; omega

theorem quote_big (l : List UInt8) (h : plainW l = false) : l.length + 2 ≤ (quote l).length ∧ (quote l).getD 0 0 = 34 ∧ (quote l).getD ((quote l).length - 1) 0 = 34 := by
  have := esc_len l
  unfold quote
  rw [h]
  simp only [Bool.false_eq_true, if_false]
  refine ⟨by simp only [List.cons_append, List.length_cons, List.length_append, List.length_nil]; omega, by simp, ?_⟩
  simp [List.getD_eq_getElem?_getD]

/-! reading what was quoted -/
theorem enc_ascii (r : Nat) (h : r < 128) : encodeRune (r : Int) = [UInt8.ofNat r] := by
  unfold encodeRune
  rw [encodeRuneZ_one (by omega) (by omega)]
  simp

theorem go_step {r : Nat} {rs : List Nat} {s s' : St} (h : ¬ (r = 35 ∧ s.at_ = 0)) (hs : step r s = .ok s') : go (r :: rs) s = go rs s' := by
  simp only [go, if_neg h, hs]

theorem go_hex (c : UInt8) (rest : List Nat) (ws : List (List UInt8)) (wd : List UInt8) (hi : Nat) : ∃ hi', go (hexr c ++ rest) ⟨2, ws, wd, hi⟩ = go rest ⟨2, ws, wd ++ [c], hi'⟩ := by
  have h1 := (hexd_div c).2.1
  have h2 := (hexd_mod c).2.1
  have hc := c.toNat_lt
  refine ⟨c.toNat / 16 * 16, ?_⟩
  simp only [hexr, List.cons_append, List.nil_append]
  rw [go_step (s' := ⟨3, ws, wd, hi⟩) (by simp) (by simp [step, quotedS])]
  rw [go_step (s' := ⟨4, ws, wd, hi⟩) (by simp) (by simp [step, escapedS])]
  rw [go_step (s' := ⟨5, ws, wd, c.toNat / 16 * 16⟩) (by simp) (by simp [step, digitS, h1])]
  rw [go_step (s' := ⟨2, ws, wd ++ [c], c.toNat / 16 * 16⟩) (by simp) ?_]
  simp only [step, digitS, h2]
  simp only [show ¬ ((5 : Nat) = 0) from by omega, show ¬ ((5 : Nat) = 1) from by omega, show ¬ ((5 : Nat) = 2) from by omega, show ¬ ((5 : Nat) = 3) from by omega, show ¬ ((5 : Nat) = 4) from by omega, if_false, or_true, if_true]
  rw [show c.toNat / 16 * 16 + c.toNat % 16 = c.toNat from by omega]
  simp

theorem go_hexs : ∀ (x : List UInt8) (rest : List Nat) (ws : List (List UInt8)) (wd : List UInt8) (hi : Nat), ∃ hi', go (x.flatMap hexr ++ rest) ⟨2, ws, wd, hi⟩ = go rest ⟨2, ws, wd ++ x, hi'⟩ := by
  intro x
  induction x with
  | nil => intro rest ws wd hi; exact ⟨hi, by simp⟩
  | cons c x ih =>
    intro rest ws wd hi
    rw [List.flatMap_cons, List.append_assoc]
    obtain ⟨h1, e1⟩ := go_hex c (x.flatMap hexr ++ rest) ws wd hi
    obtain ⟨h2, e2⟩ := ih rest ws (wd ++ [c]) h1
    exact ⟨h2, by rw [e1, e2, List.append_assoc]; rfl⟩

theorem go_esc (p : Nat × List UInt8) (hp : Piece p) (hd : p.1 < 128 → p.2.length = 1) (rest : List Nat) (ws : List (List UInt8)) (wd : List UInt8) (hi : Nat) : ∃ hi', go (escr p ++ rest) ⟨2, ws, wd, hi⟩ = go rest ⟨2, ws, wd ++ p.2, hi'⟩ := by
  unfold escr
  split
  · rename_i h
    refine ⟨hi, ?_⟩
    have h92 : p.1 ≠ 35 := by omega
    rw [List.cons_append, go_step (s' := ⟨3, ws, wd, hi⟩) (by simp) (by simp [step, quotedS])]
    rw [List.cons_append, go_step (s' := ⟨2, ws, wd ++ encodeRune (p.1 : Int), hi⟩) (by simp [h92]) (by simp [step, escapedS, h])]
    rw [hp.enc (by omega)]
    rfl
  · rename_i h
    split
    · rename_i hs
      refine ⟨hi, ?_⟩
      have hne : p.1 ≠ 65533 := by simp [shownB] at hs; omega
      rw [List.cons_append, go_step (s' := ⟨2, ws, wd ++ encodeRune (p.1 : Int), hi⟩) (by simp) ?_]
      · rw [hp.enc hne]; rfl
      · have h1 : p.1 ≠ 34 := fun e => h (.inl e)
        have h2 : p.1 ≠ 92 := fun e => h (.inr e)
        simp [step, quotedS, h1, h2, hs, say]
    · exact go_hexs p.2 rest ws wd hi

theorem go_escs : ∀ (ps : List (Nat × List UInt8)), (∀ p ∈ ps, Piece p ∧ (p.1 < 128 → p.2.length = 1)) → ∀ (rest : List Nat) (ws : List (List UInt8)) (wd : List UInt8) (hi : Nat),
    ∃ hi', go (ps.flatMap escr ++ rest) ⟨2, ws, wd, hi⟩ = go rest ⟨2, ws, wd ++ ps.flatMap (·.2), hi'⟩ := by
  intro ps
  induction ps with
  | nil => intro _ rest ws wd hi; exact ⟨hi, by simp⟩
  | cons p ps ih =>
    intro h rest ws wd hi
    rw [List.flatMap_cons, List.append_assoc]
    obtain ⟨h1, e1⟩ := go_esc p (h p (by simp)).1 (h p (by simp)).2 (ps.flatMap escr ++ rest) ws wd hi
    obtain ⟨h2, e2⟩ := ih (fun q hq => h q (by simp [hq])) rest ws (wd ++ p.2) h1
    exact ⟨h2, by rw [e1, e2, List.flatMap_cons, List.append_assoc]⟩

theorem go_plains : ∀ (ps : List (Nat × List UInt8)), (∀ p ∈ ps, Piece p ∧ plainB p.1 = true) → ∀ (rest : List Nat) (ws : List (List UInt8)) (wd : List UInt8) (hi : Nat),
    go (ps.map (·.1) ++ rest) ⟨1, ws, wd, hi⟩ = go rest ⟨1, ws, wd ++ ps.flatMap (·.2), hi⟩ := by
  intro ps
  induction ps with
  | nil => intro _ rest ws wd hi; simp
  | cons p ps ih =>
    intro h rest ws wd hi
    have hp := (h p (by simp)).2
    have hne : p.1 ≠ 65533 := by simp [plainB] at hp; omega
    rw [List.map_cons, List.cons_append, go_step (s' := ⟨1, ws, wd ++ encodeRune (p.1 : Int), hi⟩) (by simp) (by simp [step, plainS, hp, say]), (h p (by simp)).1.enc hne,
      ih (fun q hq => h q (by simp [hq])), List.flatMap_cons, List.append_assoc]

/-- a quoted text, and a blank behind it: one word more -/
theorem go_quote (l : List UInt8) (b : Nat) (hb : blankB b = true) (ws : List (List UInt8)) (hw : ws.length < 12) (hi : Nat) (rest : List Nat) :
    ∃ hi', go (quoter l ++ b :: rest) ⟨0, ws, [], hi⟩ = go rest ⟨0, ws ++ [l], [], hi'⟩ := by
  have hb35 : b ≠ 35 := by intro h; subst h; simp [blankB] at hb
  have hb' : b = 32 ∨ b = 9 := by simpa [blankB] using hb
  have hall := pcs_piece _ l (Nat.le_refl _)
  have hone := piece_one l _ (Nat.le_refl _)
  have hflat := pcs_flat _ l (Nat.le_refl _)
  have hw12 : ws.length ≠ 12 := by omega
  unfold quoter
  split
  · rename_i hp
    unfold plainW at hp
    rw [Bool.and_eq_true, List.all_eq_true] at hp
    have hne : l ≠ [] := by simpa using hp.1
    have hpl : ∀ p ∈ pcs l, Piece p ∧ plainB p.1 = true := fun p h => ⟨hall p h, hp.2 p.1 (List.mem_map.2 ⟨p, h, rfl⟩)⟩
    have hb1 : plainB b = false := by rcases hb' with h | h <;> subst h <;> decide
    unfold runes
    cases hc : pcs l with
    | nil => rw [pcs_step l hne] at hc; cases hc
    | cons p ps =>
      rw [hc] at hpl hflat
      have h1 := (hpl p (by simp)).2
      have h2 : blankB p.1 = false := by simp [plainB, blankB] at h1 ⊢; omega
      have h34 : p.1 ≠ 34 := by simp [plainB] at h1; omega
      have h35 : p.1 ≠ 35 := by simp [plainB] at h1; omega
      have h65 : p.1 ≠ 65533 := by simp [plainB] at h1; omega
      refine ⟨hi, ?_⟩
      rw [List.map_cons, List.cons_append, go_step (s' := ⟨1, ws, encodeRune (p.1 : Int), hi⟩) (by simp [h35]) (by simp [step, beginS, h2, h34, h1, hw12]), (hpl p (by simp)).1.enc h65,
        go_plains ps (fun q hq => hpl q (by simp [hq])), ← List.flatMap_cons (f := fun q : Nat × List UInt8 => q.2), hflat]
      rw [go_step (s' := ⟨0, ws ++ [l], [], hi⟩) (by simp) (by simp [step, plainS, hb1, endS, hb])]
  · obtain ⟨h1, e1⟩ := go_escs (pcs l) (fun p h => ⟨hall p h, hone p h⟩) (34 :: b :: rest) ws [] hi
    refine ⟨h1, ?_⟩
    rw [List.cons_append, List.cons_append, go_step (s' := ⟨2, ws, [], hi⟩) (by simp) (by simp [step, beginS, blankB, hw12])]
    rw [List.append_assoc, List.cons_append, List.nil_append, e1, hflat]
    rw [go_step (s' := ⟨6, ws, [] ++ l, h1⟩) (by simp) (by simp [step, quotedS])]
    rw [go_step (s' := ⟨0, ws ++ [[] ++ l], [], h1⟩) (by simp) (by simp [step, endS, hb])]
    simp

theorem ok_between (ws : List (List UInt8)) (hw : ws.length ≤ 12) (hi : Nat) (h : hi < 256) : Ok ⟨0, ws, [], hi⟩ := ⟨by simp, hw, by simp, by simp, h, by simp⟩

/-- a blank at the end changes nothing -/
theorem fin_snoc (a : List Nat) (s : St) (hs : Ok s) : fin (go (a ++ [32]) s) = fin (go a s) :=
  fin_go [32] Ok (fun r s s' h h' => (step_ok h h').1) (fun s hs => fin_blank 32 blank_32 s hs.at6) a s hs

theorem fin_between (ws : List (List UInt8)) (hi : Nat) : fin (.ok ⟨0, ws, [], hi⟩) = .ok ws := by simp [fin, step, beginS, blankB]

theorem words_two (a b : List UInt8) (hlen : (quote a ++ 32 :: 9 :: quote b).length ≤ 400) : words (quote a ++ 32 :: 9 :: quote b) = .ok [a, b] := by
  unfold words
  rw [if_neg (by omega), runes_quote a 32 _ (by decide), runes_ascii 9 _ (by decide), runes_quote0]
  have e32 : (32 : UInt8).toNat = 32 := rfl
  have e9 : (9 : UInt8).toNat = 9 := rfl
  rw [e32, e9, ← fin_snoc _ _ ok0]
  rw [List.append_assoc]
  obtain ⟨h1, e1⟩ := go_quote a 32 blank_32 [] (by simp) 0 (9 :: quoter b ++ [32])
  rw [List.cons_append]
  have e1' : go (quoter a ++ 32 :: (9 :: quoter b ++ [32])) st0 = _ := e1
  rw [e1', List.cons_append, go_step (s' := ⟨0, [] ++ [a], [], h1⟩) (by simp) (step_blank0 9 _ rfl blank_9)]
  obtain ⟨h2, e2⟩ := go_quote b 32 blank_32 ([] ++ [a]) (by simp) h1 []
  rw [e2]
  simp only [go]
  rw [fin_between]
  rfl

theorem words_one (l : List UInt8) (hlen : (quote l).length ≤ 400) : words (quote l) = .ok [l] := by
  unfold words
  rw [if_neg (by omega), runes_quote0, ← fin_snoc _ _ ok0]
  obtain ⟨h1, e1⟩ := go_quote l 32 blank_32 [] (by simp) 0 []
  have e1' : go (quoter l ++ [32]) st0 = _ := e1
  rw [e1']
  simp only [go]
  rw [fin_between]
  rfl

/-- words, each quoted, with a blank ahead -/
def joined (ls : List (List UInt8)) : List UInt8 := ls.flatMap fun l => 32 :: quote l

theorem runes_joined : ∀ (ls : List (List UInt8)), runes (joined ls) = ls.flatMap fun l => 32 :: quoter l := by
  intro ls
  have : ∀ (ls : List (List UInt8)) (l : List UInt8), runes (quote l ++ joined ls) = quoter l ++ ls.flatMap fun l => 32 :: quoter l := by
    intro ls
    induction ls with
    | nil => intro l; simp [joined, runes_quote0]
    | cons m ls ih =>
      intro l
      have : joined (m :: ls) = 32 :: (quote m ++ joined ls) := by simp [joined]
      rw [this, runes_quote l 32 _ (by decide), ih m]
      simp
  cases ls with
  | nil => rfl
  | cons l ls =>
    have e : joined (l :: ls) = 32 :: (quote l ++ joined ls) := by simp [joined]
    rw [e, runes_ascii 32 _ (by decide), this ls l]
    simp

theorem go_joined : ∀ (ls : List (List UInt8)) (ws : List (List UInt8)) (hi : Nat), ws.length + ls.length ≤ 12 → ∃ hi', go ((ls.flatMap fun l => 32 :: quoter l) ++ [32]) ⟨0, ws, [], hi⟩ = .ok ⟨0, ws ++ ls, [], hi'⟩ := by
  intro ls
  induction ls with
  | nil =>
    intro ws hi h
    refine ⟨hi, ?_⟩
    rw [List.flatMap_nil, List.nil_append, go_step (s' := ⟨0, ws, [], hi⟩) (by simp) (step_blank0 32 _ rfl blank_32)]
    simp [go]
  | cons l ls ih =>
    intro ws hi h
    simp only [List.length_cons] at h
    rw [List.flatMap_cons, List.append_assoc, List.cons_append, go_step (s' := ⟨0, ws, [], hi⟩) (by simp) (step_blank0 32 _ rfl blank_32)]
    have hx : ∀ ls : List (List UInt8), ∃ rest, (ls.flatMap fun l => 32 :: quoter l) ++ [32] = 32 :: rest := by
      intro ls
      cases ls with
      | nil => exact ⟨[], rfl⟩
      | cons m ls => exact ⟨_, rfl⟩
    obtain ⟨rest, hrest⟩ := hx ls
    obtain ⟨h1, e1⟩ := go_quote l 32 blank_32 ws (by omega) hi rest
    obtain ⟨h2, e2⟩ := ih (ws ++ [l]) h1 (by simp only [List.length_append, List.length_cons, List.length_nil]; omega)
    refine ⟨h2, ?_⟩
    rw [hrest, e1]
    rw [hrest, go_step (s' := ⟨0, ws ++ [l], [], h1⟩) (by simp) (step_blank0 32 _ rfl blank_32)] at e2
    rw [e2, List.append_assoc]
    rfl

theorem words_joined (ls : List (List UInt8)) (h : ls.length ≤ 12) (hlen : (joined ls).length ≤ 400) : words (joined ls) = .ok ls := by
  unfold words
  rw [if_neg (by omega), runes_joined, ← fin_snoc _ _ ok0]
  obtain ⟨h1, e1⟩ := go_joined ls [] 0 (by simpa using h)
  have e1' : go ((ls.flatMap fun l => 32 :: quoter l) ++ [32]) st0 = _ := e1
  rw [e1', fin_between]
  rfl

/-- a word again and again, each with a blank behind -/
def many (k : Nat) (l : List UInt8) : List UInt8 := (List.replicate k (quote l ++ [32])).flatten

theorem many_succ (k : Nat) (l : List UInt8) : many (k + 1) l = many k l ++ (quote l ++ [32]) := by
  unfold many
  rw [List.replicate_succ', List.flatten_append]
  simp

theorem runes_many (l : List UInt8) : ∀ k, runes (many k l) = (List.replicate k (quoter l ++ [32])).flatten := by
  intro k
  induction k with
  | zero => rfl
  | succ k ih =>
    have e : many (k + 1) l = quote l ++ 32 :: many k l := by
      unfold many
      rw [List.replicate_succ, List.flatten_cons]
      simp
    rw [e, runes_quote l 32 _ (by decide), ih, List.replicate_succ, List.flatten_cons]
    simp

theorem go_many (l : List UInt8) : ∀ (k : Nat) (ws : List (List UInt8)) (hi : Nat) (rest : List Nat), ws.length + k ≤ 12 → ∃ hi', go ((List.replicate k (quoter l ++ [32])).flatten ++ rest) ⟨0, ws, [], hi⟩ = go rest ⟨0, ws ++ List.replicate k l, [], hi'⟩ := by
  intro k
  induction k with
  | zero => intro ws hi rest _; exact ⟨hi, by simp⟩
  | succ k ih =>
    intro ws hi rest h
    rw [List.replicate_succ, List.flatten_cons, List.append_assoc, List.append_assoc, List.cons_append, List.nil_append]
    obtain ⟨h1, e1⟩ := go_quote l 32 blank_32 ws (by omega) hi ((List.replicate k (quoter l ++ [32])).flatten ++ rest)
    obtain ⟨h2, e2⟩ := ih (ws ++ [l]) h1 rest (by simp only [List.length_append, List.length_cons, List.length_nil]; omega)
    refine ⟨h2, ?_⟩
    rw [e1, e2, List.append_assoc]
    rfl

theorem quoter_head (l : List UInt8) : ∃ r rs, quoter l = r :: rs ∧ (r = 34 ∨ plainB r = true) := by
  unfold quoter
  split
  · rename_i hp
    unfold plainW at hp
    rw [Bool.and_eq_true, List.all_eq_true] at hp
    have hne : l ≠ [] := by simpa using hp.1
    rw [runes_step l hne] at hp ⊢
    exact ⟨_, _, rfl, .inr (hp.2 _ (by simp))⟩
  · exact ⟨34, _, rfl, .inl rfl⟩

theorem words_many (k : Nat) (l : List UInt8) (hlen : (many k l).length ≤ 400) : words (many k l) = if 12 < k then .error MANY else .ok (List.replicate k l) := by
  unfold words
  rw [if_neg (by omega), runes_many]
  split
  · rename_i hk
    obtain ⟨j, rfl⟩ : ∃ j, k = 12 + (j + 1) := ⟨k - 13, by omega⟩
    obtain ⟨h1, e1⟩ := go_many l 12 [] 0 ((List.replicate (j + 1) (quoter l ++ [32])).flatten) (by simp)
    rw [← List.replicate_append_replicate, List.flatten_append]
    have e1' : go ((List.replicate 12 (quoter l ++ [32])).flatten ++ (List.replicate (j + 1) (quoter l ++ [32])).flatten) st0 = _ := e1
    rw [e1']
    obtain ⟨r, rs, e, hr⟩ := quoter_head l
    rw [List.replicate_succ, List.flatten_cons, e]
    have h35 : r ≠ 35 := by rcases hr with h | h; omega; simp [plainB] at h; omega
    have hbl : blankB r = false := by
      rcases hr with h | h
      · subst h; rfl
      · simp [plainB, blankB] at h ⊢; omega
    have hst : step r ⟨0, [] ++ List.replicate 12 l, [], h1⟩ = .error MANY := by
      unfold step
      rw [if_pos rfl]
      unfold beginS
      rw [hbl]
      rw [if_neg (by simp), if_neg (by rcases hr with h | h; simp [h]; simp [h]), if_pos (by simp)]
    simp only [List.cons_append, go]
    rw [if_neg (by simp [h35]), hst]
    rfl
  · rename_i hk
    obtain ⟨h1, e1⟩ := go_many l k [] 0 [] (by simpa using (by omega : k ≤ 12))
    have e1' : go ((List.replicate k (quoter l ++ [32])).flatten ++ []) st0 = _ := e1
    rw [List.append_nil] at e1'
    rw [e1']
    simp only [go]
    rw [fin_between]
    simp
end Go.Proofs.YtaldkdiijflmdaaDoor.M
