/-
  A message that has been taken, taken again; rows of what a store told.
-/
import Derived.Test.YtofhijnfbilieaaBvMem
namespace Go.Proofs.Ytofhijnfbilieaa.Bk
open Go.RowKit
open Ml (Mg may msgV Lm)
open Bv (OwnM)
set_option linter.unusedVariables false
set_option linter.unusedSimpArgs false
set_option maxRecDepth 20000

/-- a message that makes nothing of a store any more -/
def Settled (bl : Nat) (C : Cs) (m : Mg) : Prop := can m = true → m.epoch ≤ token C ∧ (m.epoch = token C → m.kind = 10 → fresh bl C m = false)

theorem above_no {a b c e c' e' : Int} (h : above a b c e = false) (g : above c' e' c e = true) : above a b c' e' = false := by
  unfold above at *
  simp only [Bool.or_eq_false_iff, Bool.and_eq_false_iff, Bool.or_eq_true, Bool.and_eq_true, decide_eq_true_eq, decide_eq_false_iff_not] at *
  omega
theorem above_self (a b : Int) : above a b a b = false := by
  unfold above
  simp
theorem fresh_on {bl : Nat} {C C' : Cs} {m m' : Mg} (hf : fresh bl C m = false) (hn : ∀ k, blk C' k = if fresh bl C m' = true ∧ m'.block = (k : Int) then newS bl C m' else blk C k) : fresh bl C' m = false := by
  unfold fresh at hf ⊢
  cases hb : isB bl m.block with
  | false => rfl
  | true =>
    rw [hb] at hf
    by_cases h8 : m.data.size = 8
    · rw [decide_eq_true h8] at hf ⊢
      simp only [Bool.true_and] at hf ⊢
      rw [hn]
      by_cases hx : fresh bl C m' = true ∧ m'.block = (m.block.toNat : Int)
      · rw [if_pos hx]
        have hx2 := hx.1
        unfold fresh at hx2
        simp only [Bool.and_eq_true] at hx2
        have : m'.block.toNat = m.block.toNat := by omega
        rw [this] at hx2
        exact above_no hf hx2.2
      · rw [if_neg hx]; exact hf
    · rw [decide_eq_false h8]; rfl

theorem FR.settled {n f bl : Nat} {g : Int} {d : M.Dv} {C : Cs} (h : FR n f bl g d C) (hg : g + 1 < 4611686018427387904) (m : Mg) : Settled bl (takC n f bl d C m) m := by
  obtain ⟨_, h2, h3, _, _, _, _, _⟩ := h.take hg m
  intro hc
  rw [hc] at h2
  simp only [if_true] at h2
  refine ⟨by omega, fun he hk => ?_⟩
  have hok : ok C m = true := by unfold ok; rw [hc, decide_eq_true (by omega)]; rfl
  cases hf : fresh bl C m with
  | false => exact fresh_on (m' := m) hf (fun k => by rw [h3]; unfold news; rw [hf]; simp)
  | true =>
    have hn : news bl C m = true := by unfold news; rw [hok, hf, decide_eq_true hk]; rfl
    have hf' := hf
    unfold fresh at hf' ⊢
    simp only [Bool.and_eq_true, decide_eq_true_eq] at hf'
    obtain ⟨⟨hb, h8⟩, _⟩ := hf'
    have hb' := hb
    unfold isB at hb'
    simp at hb'
    rw [h3, if_pos ⟨hn, by omega⟩]
    unfold newS
    simp only
    rw [above_self]
    simp
theorem FR.settled_on {n f bl : Nat} {g : Int} {d : M.Dv} {C : Cs} (h : FR n f bl g d C) (hg : g + 1 < 4611686018427387904) (m' : Mg) {m : Mg} (hs : Settled bl C m) : Settled bl (takC n f bl d C m') m := by
  obtain ⟨_, h2, h3, _, _, _, _, _⟩ := h.take hg m'
  intro hc
  obtain ⟨s1, s2⟩ := hs hc
  refine ⟨by rw [h2]; split <;> omega, fun he hk => ?_⟩
  have he2 : m.epoch = token C := by rw [h2] at he; split at he <;> omega
  have hf := s2 he2 hk
  cases hn : news bl C m' with
  | false => 
    rw [← hf]
    exact fresh_same (fun k => by rw [h3, hn]; simp) m
  | true =>
    have hfr : fresh bl C m' = true := by unfold news at hn; simp at hn; exact hn.2
    exact fresh_on (m' := m') hf (fun k => by rw [h3, hn, hfr])
/-- taken again, it makes nothing, and is answered the same -/
theorem FR.again2 {n f bl : Nat} {g : Int} {d : M.Dv} {C : Cs} (h : FR n f bl g d C) (hg : g + 3 < 4611686018427387904) {m : Mg} (hs : Settled bl C m) :
    token (takC n f bl d C m) = token C ∧ (∀ k, blk (takC n f bl d C m) k = blk C k) ∧ takI n f bl (takD n f bl d C m) (takC n f bl d C m) m = takI n f bl d C m ∧ takA n f bl (takD n f bl d C m) (takC n f bl d C m) m = takA n f bl d C m ∧ Settled bl (takC n f bl d C m) m := by
  obtain ⟨h1, h2, h3, h4, h5, h6, h7, h8⟩ := h.take (by omega) m
  obtain ⟨g1, g2, g3, g4, g5, g6, g7, g8⟩ := h1.take (by omega) m
  have hn : news bl C m = false := by
    cases hc : can m with
    | false => unfold news ok; rw [hc]; rfl
    | true =>
      obtain ⟨s1, s2⟩ := hs hc
      unfold news ok
      rw [hc]
      by_cases he : m.epoch = token C
      · by_cases hk : m.kind = 10
        · rw [s2 he hk]; simp
        · rw [decide_eq_false hk]; simp
      · rw [decide_eq_false (show ¬ token C ≤ m.epoch by omega)]; rfl
  have tk : token (takC n f bl d C m) = token C := by
    rw [h2]
    cases hc : can m with
    | false => simp
    | true => have := (hs hc).1; simp only [if_true]; omega
  have bk : ∀ k, blk (takC n f bl d C m) k = blk C k := fun k => by rw [h3, hn]; simp
  have lt : loaT bl (takC n f bl d C m) m.block = loaT bl C m.block := by unfold loaT; rw [tab_same bk]
  have ls : loaS bl (takC n f bl d C m) m.block = loaS bl C m.block := by unfold loaS getV; rw [bk]
  refine ⟨tk, bk, by rw [g4, h4], ?_, h.settled_on (by omega) m hs⟩
  cases hc : can m with
  | false => rw [g8 hc, h8 hc]
  | true =>
    rw [tk, lt, ls] at g6
    rw [tk] at g5 g7
    by_cases h12 : m.kind = 12 ∧ token C ≤ m.epoch
    · rw [g6 hc h12.1 h12.2, h6 hc h12.1 h12.2]
    · have hor : m.kind ≠ 12 ∨ m.epoch < token C := by omega
      rw [g7 hc hor, h7 hc hor, g5 hc, h5 hc]

/-- the versions, the bytes of the first k blocks -/
def vers (C : Cs) (k : Nat) : List Lm := (List.range k).map fun j => ⟨(blk C j).ep, (blk C j).sq⟩
def datas (C : Cs) (k : Nat) : List ByteArray := (List.range k).map fun j => (blk C j).data
theorem vers_len (C : Cs) (k : Nat) : (vers C k).length = k := by simp [vers]
theorem vers_on (C : Cs) (k : Nat) : vers C (k + 1) = vers C k ++ [⟨(blk C k).ep, (blk C k).sq⟩] := by simp [vers, List.range_succ]
theorem datas_on (C : Cs) (k : Nat) : datas C (k + 1) = datas C k ++ [(blk C k).data] := by simp [datas, List.range_succ]
theorem datas_len (C : Cs) (k : Nat) : (datas C k).length = k := by simp [datas]
theorem vers_at {C : Cs} {k j : Nat} (h : j < k) : (vers C k)[j]? = some ⟨(blk C j).ep, (blk C j).sq⟩ := by simp [vers, h]
theorem datas_at {C : Cs} {k j : Nat} (h : j < k) : (datas C k)[j]? = some (blk C j).data := by simp [datas, h]

/-- the two rows -/
structure VD (B : Nat) (w : World) (av : Option Addr) (cv kv : Nat) (ad : Option Addr) (cd kd : Nat) (Q : Cs) : Prop where
  ov : OwnM w av cv (vers Q kv)
  od : C.Own 9 w B ad kd cd (C.strs (datas Q kd))
  va : ∀ p, av = some p → B ≤ p.block ∧ p.block < w.heap.size
  ne : ∀ p p', av = some p → ad = some p' → p.block ≠ p'.block
  hB : B ≤ w.heap.size
theorem VD.below {B : Nat} {w w' : World} {av : Option Addr} {cv kv : Nat} {ad : Option Addr} {cd kd : Nat} {Q : Cs} (h : VD B w av cv kv ad cd kd Q) (hb : Below w.heap.size w w') : VD B w' av cv kv ad cd kd Q :=
  ⟨h.ov.below hb (Nat.le_refl _), C.own_below h.od hb (Nat.le_refl _), fun p e => ⟨(h.va p e).1, Nat.lt_of_lt_of_le (h.va p e).2 hb.size⟩, h.ne, Nat.le_trans h.hB hb.size⟩
theorem cown_blocks {e : TypeId} {w w' : World} {B : Nat} {a : Option Addr} {n cap : Nat} {vs : List Value} (h : C.Own e w B a n cap vs) (hb : ∀ g, B ≤ g → g < w.heap.size → w'.heap[g]? = w.heap[g]?) : C.Own e w' B a n cap vs := by
  obtain ⟨h1, h2, h3⟩ := h
  have hlt := h1.lt
  obtain ⟨hl, ho⟩ := h1
  refine ⟨⟨hl, ?_⟩, h2, h3⟩
  rcases ho with ho | ⟨g, c, cur, hv, hg, hh, hr⟩
  · exact .inl ho
  · refine .inr ⟨g, c, cur, hv, hg, ?_, hr⟩
    have := hlt g (by rw [hv]; rfl)
    rw [hb g hg this.2]
    exact hh
theorem VD.but {B : Nat} {w w' : World} {av : Option Addr} {cv kv : Nat} {ad : Option Addr} {cd kd : Nat} {Q : Cs} (h : VD B w av cv kv ad cd kd Q) {l : List Nat} (hb : But l w w') (hl : ∀ x ∈ l, x < B) : VD B w' av cv kv ad cd kd Q := by
  refine ⟨?_, cown_blocks h.od fun g hg hlt => hb.block g hlt (fun hx => by have := hl g hx; omega), fun p e => ⟨(h.va p e).1, Nat.lt_of_lt_of_le (h.va p e).2 hb.size⟩, h.ne, Nat.le_trans h.hB hb.size⟩
  cases av with
  | none =>
    rcases h.ov with ⟨h1, h2, h3⟩ | ⟨g, cur, h1, h2⟩
    · exact .inl ⟨h1, h2, h3⟩
    · cases h1
  | some p =>
    have hv := h.va p rfl
    refine h.ov.but (q := l) (p := 0) ⟨hb.os, hb.tape, hb.output, hb.size, hb.block⟩ ?_
    show p.block ∉ l
    exact fun hx => by have := hl _ hx; omega
theorem VD.appV {B : Nat} {w w' : World} {av : Option Addr} {cv kv : Nat} {ad : Option Addr} {cd kd : Nat} {Q : Cs} (h : VD B w av cv kv ad cd kd Q) {a' : Option Addr} {c' n' : Nat} (o : OwnM w' a' c' (vers Q kv ++ [⟨(blk Q kv).ep, (blk Q kv).sq⟩])) (g : w.grownBy w' (Value.slice av n' cv).ownBlock) (an : Bv.Anew w av a') : VD B w' a' c' (kv + 1) ad cd kd Q := by
  have hs := g.size
  have hod := h.od.1.lt
  refine ⟨by rw [vers_on]; exact o, ⟨h.od.1.kept g ?_, h.od.2⟩, fun p e => ?_, fun p p' e e' => ?_, Nat.le_trans h.hB hs⟩
  · cases ad with
    | none => exact .inl rfl
    | some p' =>
      refine .inr ?_
      cases av with
      | none => simp [Value.ownBlock]
      | some p =>
        simp only [Value.ownBlock]
        intro hx
        injection hx with hx
        exact h.ne p p' rfl rfl hx.symm
  · rcases an with rfl | ⟨q, rfl, hq⟩
    · exact ⟨(h.va p e).1, Nat.lt_of_lt_of_le (h.va p e).2 hs⟩
    · injection e with e
      subst e
      have hlt : Bv.blk 0 (some ⟨q, 0, none⟩) < w'.heap.size := o.lt (by
        rcases o with ⟨h1, _⟩ | ⟨g', cur, h1, h2, _⟩
        · cases h1
        · have := Bv.lt_of_heap h2; omega)
      exact ⟨Nat.le_trans h.hB hq, hlt⟩
  · rcases an with rfl | ⟨q, rfl, hq⟩
    · exact h.ne p p' e e'
    · injection e with e
      subst e e'
      have := hod p'.block rfl
      show q ≠ p'.block
      omega
theorem VD.appD {B : Nat} {w w' : World} {av : Option Addr} {cv kv : Nat} {ad : Option Addr} {cd kd : Nat} {Q : Cs} (h : VD B w av cv kv ad cd kd Q) {a' : Option Addr} {c' n' : Nat} (o : C.Own 9 w' B a' (kd + 1) c' (C.strs (datas Q kd ++ [(blk Q kd).data]))) (g : w.grownBy w' (Value.slice ad kd cd).ownBlock) (an : (Value.slice a' n' c').ownBlock = (Value.slice ad kd cd).ownBlock ∨ (Value.slice a' n' c').ownBlock = some w.heap.size) : VD B w' av cv kv a' c' (kd + 1) Q := by
  have hs := g.size
  have hod := h.od.1.lt
  refine ⟨?_, by rw [datas_on]; exact o, fun p e => ⟨(h.va p e).1, Nat.lt_of_lt_of_le (h.va p e).2 hs⟩, fun p p' e e' => ?_, Nat.le_trans h.hB hs⟩
  · cases av with
    | none =>
      rcases h.ov with ⟨h1, h2, h3⟩ | ⟨g, cur, h1, h2⟩
      · exact .inl ⟨h1, h2, h3⟩
      · cases h1
    | some p =>
      have hv := h.va p rfl
      refine h.ov.of_block (p := 0) ?_
      show w'.heap[p.block]? = w.heap[p.block]?
      refine g.block _ hv.2 ?_
      cases ad with
      | none => simp [Value.ownBlock]
      | some p' =>
        simp only [Value.ownBlock]
        intro hx
        injection hx with hx
        exact h.ne p p' rfl rfl hx
  · subst e e'
    have hv := h.va p rfl
    rcases an with an | an
    · cases ad with
      | none => simp [Value.ownBlock] at an
      | some q =>
        simp only [Value.ownBlock] at an
        injection an with an
        rw [an]
        exact h.ne p q rfl rfl
    · simp only [Value.ownBlock] at an
      injection an with an
      omega
theorem VD.start {w : World} {Q : Cs} : VD w.heap.size ((w.alloc (.cells #[] 37)).alloc (.cells #[] 9)) (some ⟨w.heap.size, 0, none⟩) 0 0 (some ⟨w.heap.size + 1, 0, none⟩) 0 0 Q := by
  have h1 : OwnM (w.alloc (.cells #[] 37)) (some ⟨w.heap.size, 0, none⟩) 0 [] := by
    refine .inr ⟨w.heap.size, #[], rfl, ?_⟩
    refine ⟨heap_alloc_new w _, ?_⟩
    simp [Bv.lms, maxLen]
  have h2 := C.own_lit 9 (w.alloc (.cells #[] 37)) w.heap.size [] (by simp) (by simp)
  rw [show (w.alloc (.cells #[] 37)).heap.size = w.heap.size + 1 by simp] at h2
  refine ⟨?_, h2, fun p e => ?_, fun p p' e e' => ?_, by simp; omega⟩
  · exact h1.below ((Below.refl _ _).alloc (Nat.le_refl _) _) (Nat.le_refl _)
  · injection e with e; subst e; simp; omega
  · injection e with e; injection e' with e'; subst e e'; simp

theorem rd_ver {w : World} {g : Nat} {p q : Int} (h : w.heap[g]? = some (.cells #[.int .i64 p, .int .i64 q] 37)) : Bv.RdM w (some ⟨g, 0, none⟩) 1 [⟨p, q⟩] :=
  OwnM.rd (cap := 1) (l := [⟨p, q⟩]) (.inr ⟨g, _, rfl, h, by simp, by simp [maxLen], by simp, rfl⟩)
theorem rd_str {w : World} {g : Nat} {s : ByteArray} (h : w.heap[g]? = some (.cells #[.string s] 9)) : C.Row w (some ⟨g, 0, none⟩) 1 1 (C.strs [s]) := by
  refine ⟨rfl, Nat.le_refl _, by simp [maxLen], .inr ⟨g, 0, rfl, Ml.lt_of_heap h, fun i hi => ?_⟩⟩
  obtain rfl : i = 0 := by omega
  simp [World.cell?, h, C.strs]
theorem wpList_append_D (w : World) {ops : Array Oper} {rest : List Oper} {o : Oper} {act : Act} {R : Exit → Act → World → Prop} (hgd : o.guard = none) (s x : Operand)
    (ho : o.op = .call { callee := .builtin .append, args := #[s, x], argTypes := #[53, 53] })
    (B : Nat) (a : Option Addr) (n cap : Nat) (l : List ByteArray) (hs : act.eval s = .slice a n cap) (hown : C.Own 9 w B a n cap (C.strs l))
    (A : Option Addr) (c : Nat) (y : ByteArray) (hx : act.eval x = .slice A 1 c) (hr : C.Row w A 1 c (C.strs [y])) (hsum : n + 1 ≤ 1000) (hB : B ≤ w.heap.size)
    (h : ∀ a' cap' w', C.Own 9 w' B a' (n + 1) cap' (C.strs (l ++ [y])) → w.grownBy w' (Value.slice a n cap).ownBlock → ((Value.slice a' (n + 1) cap').ownBlock = (Value.slice a n cap).ownBlock ∨ (Value.slice a' (n + 1) cap').ownBlock = some w.heap.size) → wpList Try.prog ops R rest (act.put o.dst (.slice a' (n + 1) cap')) w') :
    wpList Try.prog ops R (o :: rest) act w := by
  refine C.wpList_append_run w hgd s x 53 53 ho (p := fun v w' => ∃ a' cap', v = .slice a' (n + 1) cap' ∧ C.Own 9 w' B a' (n + 1) cap' (C.strs (l ++ [y])) ∧ w.grownBy w' (Value.slice a n cap).ownBlock ∧ ((Value.slice a' (n + 1) cap').ownBlock = (Value.slice a n cap).ownBlock ∨ (Value.slice a' (n + 1) cap').ownBlock = some w.heap.size)) ?_ ?_
  · obtain ⟨a', cap', w', h1, h2, _, h4, h5⟩ := C.run_append_str w o.type B a n cap l hown A 1 c [y] hr (by omega) hB
    rw [hs, hx]
    exact ⟨_, _, h1, a', cap', rfl, h2, h4, h5⟩
  · rintro v w' ⟨a', cap', rfl, h2, h4, h5⟩
    exact h a' cap' w' h2 h4 h5
theorem grown_but {w w' : World} {row : Option Nat} (g : w.grownBy w' row) : But row.toList w w' :=
  (But.refl row.toList w).grown g fun k hk => .inl (by rw [hk]; simp)
theorem own_blk {a : Option Addr} {n cap b : Nat} (h : (Value.slice a n cap).ownBlock = some b) : ∃ p, a = some p ∧ p.block = b := by
  cases a with
  | none => simp [Value.ownBlock] at h
  | some p => simp [Value.ownBlock] at h; exact ⟨p, rfl, h⟩
theorem RS.grown {w0 w w' : World} {dB sB mB n bl : Nat} {d : M.Dv} {tB : Nat} {K : Nat → Nat} {Q : Cs} {g : Int} (h : RS w0 w dB sB mB n bl d tB K Q g) {row : Option Nat} (hg : w.grownBy w' row) (hr : ∀ b, row = some b → w0.heap.size ≤ b ∧ b ≠ tB ∧ b ∉ ours dB sB mB bl K) : RS w0 w' dB sB mB n bl d tB K Q g := by
  have hb := grown_but hg
  have hm : ∀ x ∈ row.toList, row = some x := fun x hx => by simpa using hx
  exact ⟨h.st.but hb (fun x hx => ⟨(hr x (hm x hx)).2.1, (hr x (hm x hx)).2.2⟩), h.fr, h.be.trans (hb.to_below (fun x hx => (hr x (hm x hx)).1) h.be.size), h.ge⟩
theorem Bo.grown {w w' : World} {g : Nat} {cs : Array Value} {t : TypeId} (h : Bo w g cs t) {row : Option Nat} (hg : w.grownBy w' row) (hr : ∀ b, row = some b → b ≠ g) : Bo w' g cs t :=
  h.but (grown_but hg) (fun hx => hr g (by simpa using hx) rfl)
theorem VD.blkV {B : Nat} {w : World} {av : Option Addr} {cv kv : Nat} {ad : Option Addr} {cd kd : Nat} {Q : Cs} (h : VD B w av cv kv ad cd kd Q) {n : Nat} {b : Nat} (hb : (Value.slice av n cv).ownBlock = some b) : B ≤ b := by
  obtain ⟨p, rfl, rfl⟩ := own_blk hb
  exact (h.va p rfl).1
theorem VD.blkD {B : Nat} {w : World} {av : Option Addr} {cv kv : Nat} {ad : Option Addr} {cd kd : Nat} {Q : Cs} (h : VD B w av cv kv ad cd kd Q) {b : Nat} (hb : (Value.slice ad kd cd).ownBlock = some b) : B ≤ b := (h.od.1.lt b hb).1
/-- a version, bytes of the rows -/
theorem VD.atV {B : Nat} {w : World} {av : Option Addr} {cv kv : Nat} {ad : Option Addr} {cd kd : Nat} {Q : Cs} (h : VD B w av cv kv ad cd kd Q) {j : Nat} (hj : j < kv) : ∃ b off, av = some ⟨b, off, none⟩ ∧ w.cell? ⟨b, off + j * 2, none⟩ = some (.int .i64 (blk Q j).ep) ∧ w.cell? ⟨b, off + j * 2 + 1, none⟩ = some (.int .i64 (blk Q j).sq) := by
  obtain ⟨b, off, h1, _, h3, h4⟩ := h.ov.rd.at (vers_at hj)
  exact ⟨b, off, h1, h3, h4⟩
theorem VD.atD {B : Nat} {w : World} {av : Option Addr} {cv kv : Nat} {ad : Option Addr} {cd kd : Nat} {Q : Cs} (h : VD B w av cv kv ad cd kd Q) {j : Nat} (hj : j < kd) : ∃ b off, ad = some ⟨b, off, none⟩ ∧ w.cell? ⟨b, off + j, none⟩ = some (.string (blk Q j).data) := by
  obtain ⟨b, off, t, h1, _, h3, h4⟩ := C.row_str (C.own_row h.od).1 j hj
  rw [datas_at hj] at h3
  injection h3 with h3
  subst h3
  exact ⟨b, off, h1, h4⟩
end Go.Proofs.Ytofhijnfbilieaa.Bk
