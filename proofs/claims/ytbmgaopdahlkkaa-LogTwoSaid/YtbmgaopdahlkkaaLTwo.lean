/-
  PROVED: two logs in sectors of their own tell as if each were alone
-/
import Derived.Test.YtbmgaopdahlkkaaLRun2
namespace Go.Proofs.Ytbmgaopdahlkkaa.logTwo
open Go.ChangeShapes Go.WideShapes Go.ChangeAt Go.RowKit Go.Joins
open Go.ChangeMaps (open_string shut_string)
set_option linter.unusedVariables false
set_option linter.unusedSimpArgs false
set_option maxRecDepth 20000


/-- no block of the one is one of the other -/
def Dis (A B : List Nat) : Prop := ∀ x ∈ A, ∀ y ∈ B, x ≠ y
/-- the sectors of a log -/
def Sct (f N a b j : Nat) : Prop := (f ≤ j ∧ j < f + N) ∨ j = a ∨ j = b

theorem Dis.symm {A B : List Nat} (h : Dis A B) : Dis B A := fun x hx y hy e => h y hy x hx e.symm
theorem Dis.out {A B : List Nat} (h : Dis A B) {y : Nat} (hy : y ∈ B) : y ∉ A := fun hm => h y hm y hy rfl
theorem Dis.new {l r c r' q : Nat} {B : List Nat} (h : Dis [l, r, c] B) (hr : r' = r ∨ q ≤ r') (hB : ∀ y ∈ B, y < q) : Dis [l, r', c] B := fun x hx y hy => by
  simp only [List.mem_cons, List.not_mem_nil, or_false] at hx
  rcases hx with hx | hx | hx
  · exact h x (by rw [hx]; simp) y hy
  · rcases hr with hr | hr
    · exact h x (by rw [hx, hr]; simp) y hy
    · have := hB y hy; omega
  · exact h x (by rw [hx]; simp) y hy
theorem Dis.of_apart {dB sB mB lB rb cB : Nat} (h : Apart dB sB mB lB rb cB) : Dis [dB, sB, mB] [lB, rb, cB] := fun x hx y hy => by
  have h1 := h.c1
  have h2 := h.l1
  have h3 := h.r1
  simp only [List.mem_cons, List.not_mem_nil, or_false] at hx hy
  rcases hx with hx | hx | hx <;> rcases hy with hy | hy | hy <;> subst hx hy <;> omega
/-- no block of the caller's, nor R -/
def Far (w0 : World) (R : Nat) (A : List Nat) : Prop := ∀ x ∈ A, w0.heap.size ≤ x ∧ x ≠ R
theorem Far.new {w0 w : World} {R l r c r' : Nat} (h : Far w0 R [l, r, c]) (hr : r' = r ∨ w.heap.size ≤ r') (hs : w0.heap.size ≤ w.heap.size) (hR : R < w.heap.size) : Far w0 R [l, r', c] := fun x hx => by
  simp only [List.mem_cons, List.not_mem_nil, or_false] at hx
  rcases hx with hx | hx | hx
  · exact h x (by rw [hx]; simp)
  · rcases hr with hr | hr
    · exact h x (by rw [hx, hr]; simp)
    · omega
  · exact h x (by rw [hx]; simp)
theorem three_lt {a b c q : Nat} (h1 : a < q) (h2 : b < q) (h3 : c < q) : ∀ y ∈ [a, b, c], y < q := fun y hy => by
  simp only [List.mem_cons, List.not_mem_nil, or_false] at hy
  rcases hy with hy | hy | hy <;> omega
theorem three_out {a b c : Nat} {A B : List Nat} (h1 : Dis A [a, b, c]) (h2 : Dis B [a, b, c]) : (a ∉ A ++ B ∧ b ∉ A ++ B ∧ c ∉ A ++ B) := by
  refine ⟨fun h => ?_, fun h => ?_, fun h => ?_⟩ <;> rcases List.mem_append.1 h with h | h
  · exact h1.out (by simp) h
  · exact h2.out (by simp) h
  · exact h1.out (by simp) h
  · exact h2.out (by simp) h
  · exact h1.out (by simp) h
  · exact h2.out (by simp) h

/-- two logs on one device, and one on its own; another block R with what lies in it -/
def Tri (w0 w : World) (R : Nat) (O : Option Obj) (dB sB mB n eB tB nB n3 N : Nat) (lB cB f a b : Nat) (L : M.Lg) (lB2 cB2 f2 a2 b2 : Nat) (L2 : M.Lg) (lB3 cB3 f3 a3 b3 : Nat) (L3 : M.Lg) (K : Int) : Prop :=
  (∃ (d e : M.Dv) (rb rb2 rb3 : Nat) (c c2 c3 : M.Cl), DevAt w dB sB mB n d ∧ Free d ∧ DevAt w eB tB nB n3 e ∧ Free e ∧
    LG w dB sB mB n d lB rb cB f N a b c L K ∧ LG w dB sB mB n d lB2 rb2 cB2 f2 N a2 b2 c2 L2 K ∧ LG w eB tB nB n3 e lB3 rb3 cB3 f3 N a3 b3 c3 L3 K ∧
    (Dis [dB, sB, mB] [eB, tB, nB] ∧ Dis [dB, sB, mB] [lB3, rb3, cB3] ∧ Dis [eB, tB, nB] [lB, rb, cB] ∧ Dis [eB, tB, nB] [lB2, rb2, cB2] ∧ Dis [lB, rb, cB] [lB2, rb2, cB2] ∧ Dis [lB, rb, cB] [lB3, rb3, cB3] ∧ Dis [lB2, rb2, cB2] [lB3, rb3, cB3]) ∧ (Far w0 R [dB, sB, mB] ∧ Far w0 R [eB, tB, nB] ∧ Far w0 R [lB, rb, cB] ∧ Far w0 R [lB2, rb2, cB2] ∧ Far w0 R [lB3, rb3, cB3])) ∧
  Below w0.heap.size w0 w ∧ (R < w.heap.size ∧ w.heap[R]? = O) ∧ (∀ j, Sct f N a b j → ¬ Sct f2 N a2 b2 j)

variable {w0 : World} {R : Nat} {O : Option Obj} {dB sB mB n eB tB nB n3 N : Nat} {lB cB f a b : Nat} {L : M.Lg} {lB2 cB2 f2 a2 b2 : Nat} {L2 : M.Lg} {lB3 cB3 f3 a3 b3 : Nat} {L3 : M.Lg} {K : Int}

theorem Tri.swap {w : World} (h : Tri w0 w R O dB sB mB n eB tB nB n3 N lB cB f a b L lB2 cB2 f2 a2 b2 L2 lB3 cB3 f3 a3 b3 L3 K) : Tri w0 w R O dB sB mB n eB tB nB n3 N lB2 cB2 f2 a2 b2 L2 lB cB f a b L lB3 cB3 f3 a3 b3 L3 K := by
  obtain ⟨⟨d, e, rb, rb2, rb3, c, c2, c3, hd, hf, he, hfe, hA, hB, hC, ⟨D1, D2, D3, D4, D5, D6, D7⟩, ⟨F1, F2, F3, F4, F5⟩⟩, hbe, hob, hsc⟩ := h
  exact ⟨⟨d, e, rb2, rb, rb3, c2, c, c3, hd, hf, he, hfe, hB, hA, hC, ⟨D1, D2, D4, D3, D5.symm, D7, D6⟩, ⟨F1, F2, F4, F3, F5⟩⟩, hbe, hob, fun j h1 h2 => hsc j h2 h1⟩

/-- a step of the first log -/
theorem Tri.mkA {w w' : World} {d e : M.Dv} {rb rb2 rb3 : Nat} {c c2 c3 : M.Cl} {d' : M.Dv} {rb' : Nat} {c' : M.Cl} {L' : M.Lg} {K' : Int} (hd : DevAt w dB sB mB n d) (he : DevAt w eB tB nB n3 e) (hfe : Free e)
    (hA : LG w dB sB mB n d lB rb cB f N a b c L K) (hB : LG w dB sB mB n d lB2 rb2 cB2 f2 N a2 b2 c2 L2 K) (hC : LG w eB tB nB n3 e lB3 rb3 cB3 f3 N a3 b3 c3 L3 K)
    (hD : (Dis [dB, sB, mB] [eB, tB, nB] ∧ Dis [dB, sB, mB] [lB3, rb3, cB3] ∧ Dis [eB, tB, nB] [lB, rb, cB] ∧ Dis [eB, tB, nB] [lB2, rb2, cB2] ∧ Dis [lB, rb, cB] [lB2, rb2, cB2] ∧ Dis [lB, rb, cB] [lB3, rb3, cB3] ∧ Dis [lB2, rb2, cB2] [lB3, rb3, cB3]))
    (hall : (Far w0 R [dB, sB, mB] ∧ Far w0 R [eB, tB, nB] ∧ Far w0 R [lB, rb, cB] ∧ Far w0 R [lB2, rb2, cB2] ∧ Far w0 R [lB3, rb3, cB3])) (hbe : Below w0.heap.size w0 w) (hob : R < w.heap.size ∧ w.heap[R]? = O) (hsc : ∀ j, Sct f N a b j → ¬ Sct f2 N a2 b2 j)
    (hd' : DevAt w' dB sB mB n d') (hf' : Free d') (hA' : LG w' dB sB mB n d' lB rb' cB f N a b c' L' K') (hr' : rb' = rb ∨ w.heap.size ≤ rb') (hb0 : But [dB, sB, mB, cB, lB, rb] w w') (hs' : ∀ j, ¬ Sct f N a b j → M.seen d' j = M.seen d j) (hK : K ≤ K') :
    Tri w0 w' R O dB sB mB n eB tB nB n3 N lB cB f a b L' lB2 cB2 f2 a2 b2 L2 lB3 cB3 f3 a3 b3 L3 K' := by
  have hb' : But ([dB, sB, mB] ++ [lB, rb, cB]) w w' := hb0.mono (fun x hx => by simp at hx ⊢; rcases hx with h | h | h | h | h | h <;> simp [h])
  obtain ⟨D1, D2, D3, D4, D5, D6, D7⟩ := hD
  obtain ⟨F1, F2, F3, F4, F5⟩ := hall
  have q1 := hbe.size
  have q2 := hb'.size
  obtain ⟨o1, o2, o3⟩ := three_out (Dis.of_apart hB.sp) D5
  obtain ⟨o4, o5, o6⟩ := three_out D2 D6
  obtain ⟨o7, o8, o9⟩ := three_out D1 D3.symm
  have hB' : LG w' dB sB mB n d' lB2 rb2 cB2 f2 N a2 b2 c2 L2 K := (hB.but hb' o1 o2 o3).dev (fun j hj => hs' j (fun h => hsc j h hj))
  have hC' : LG w' eB tB nB n3 e lB3 rb3 cB3 f3 N a3 b3 c3 L3 K := hC.but hb' o4 o5 o6
  have l2 := three_lt he.ltD he.lt he.pend.lt
  have l4 := three_lt hB.la.lt.1 hB.la.lt.2 hB.ca.lt
  have l5 := three_lt hC.la.lt.1 hC.la.lt.2 hC.ca.lt
  refine ⟨⟨d', e, rb', rb2, rb3, c', c2, c3, hd', hf', he.but hb' o7 o8 o9, hfe, hA', hB'.mono hK, hC'.mono hK, ⟨D1, D2, (D3.symm.new hr' l2).symm, D4, D5.new hr' l4, D6.new hr' l5, D7⟩, ⟨F1, F2, F3.new hr' q1 hob.1, F4, F5⟩⟩, hbe.trans (hb'.to_below (fun x hx => ?_) hbe.size), ⟨by omega, (hb'.block R hob.1 (fun hm => ?_)).trans hob.2⟩, hsc⟩
  · rcases List.mem_append.1 hx with h | h
    · exact (F1 x h).1
    · exact (F3 x h).1
  · rcases List.mem_append.1 hm with h | h
    · exact (F1 R h).2 rfl
    · exact (F3 R h).2 rfl

/-- a step of the log that is alone -/
theorem Tri.mkC {w w' : World} {d e : M.Dv} {rb rb2 rb3 : Nat} {c c2 c3 : M.Cl} {e' : M.Dv} {rb' : Nat} {c' : M.Cl} {L' : M.Lg} {K' : Int} (hd : DevAt w dB sB mB n d) (hf : Free d) (he : DevAt w eB tB nB n3 e)
    (hA : LG w dB sB mB n d lB rb cB f N a b c L K) (hB : LG w dB sB mB n d lB2 rb2 cB2 f2 N a2 b2 c2 L2 K) (hC : LG w eB tB nB n3 e lB3 rb3 cB3 f3 N a3 b3 c3 L3 K)
    (hD : (Dis [dB, sB, mB] [eB, tB, nB] ∧ Dis [dB, sB, mB] [lB3, rb3, cB3] ∧ Dis [eB, tB, nB] [lB, rb, cB] ∧ Dis [eB, tB, nB] [lB2, rb2, cB2] ∧ Dis [lB, rb, cB] [lB2, rb2, cB2] ∧ Dis [lB, rb, cB] [lB3, rb3, cB3] ∧ Dis [lB2, rb2, cB2] [lB3, rb3, cB3]))
    (hall : (Far w0 R [dB, sB, mB] ∧ Far w0 R [eB, tB, nB] ∧ Far w0 R [lB, rb, cB] ∧ Far w0 R [lB2, rb2, cB2] ∧ Far w0 R [lB3, rb3, cB3])) (hbe : Below w0.heap.size w0 w) (hob : R < w.heap.size ∧ w.heap[R]? = O) (hsc : ∀ j, Sct f N a b j → ¬ Sct f2 N a2 b2 j)
    (he' : DevAt w' eB tB nB n3 e') (hf' : Free e') (hC' : LG w' eB tB nB n3 e' lB3 rb' cB3 f3 N a3 b3 c' L' K') (hr' : rb' = rb3 ∨ w.heap.size ≤ rb') (hb0 : But [eB, tB, nB, cB3, lB3, rb3] w w') (hK : K ≤ K') :
    Tri w0 w' R O dB sB mB n eB tB nB n3 N lB cB f a b L lB2 cB2 f2 a2 b2 L2 lB3 cB3 f3 a3 b3 L' K' := by
  have hb' : But ([eB, tB, nB] ++ [lB3, rb3, cB3]) w w' := hb0.mono (fun x hx => by simp at hx ⊢; rcases hx with h | h | h | h | h | h <;> simp [h])
  obtain ⟨D1, D2, D3, D4, D5, D6, D7⟩ := hD
  obtain ⟨F1, F2, F3, F4, F5⟩ := hall
  have q1 := hbe.size
  have q2 := hb'.size
  obtain ⟨o1, o2, o3⟩ := three_out D3 D6.symm
  obtain ⟨o4, o5, o6⟩ := three_out D4 D7.symm
  obtain ⟨o7, o8, o9⟩ := three_out D1.symm D2.symm
  have l1 := three_lt hd.ltD hd.lt hd.pend.lt
  have l3 := three_lt hA.la.lt.1 hA.la.lt.2 hA.ca.lt
  have l4 := three_lt hB.la.lt.1 hB.la.lt.2 hB.ca.lt
  refine ⟨⟨d, e', rb, rb2, rb', c, c2, c', hd.but hb' o7 o8 o9, hf, he', hf', (hA.but hb' o1 o2 o3).mono hK, (hB.but hb' o4 o5 o6).mono hK, hC', ⟨D1, (D2.symm.new hr' l1).symm, D3, D4, D5, (D6.symm.new hr' l3).symm, (D7.symm.new hr' l4).symm⟩, ⟨F1, F2, F3, F4, F5.new hr' q1 hob.1⟩⟩, hbe.trans (hb'.to_below (fun x hx => ?_) hbe.size), ⟨by omega, (hb'.block R hob.1 (fun hm => ?_)).trans hob.2⟩, hsc⟩
  · rcases List.mem_append.1 hx with h | h
    · exact (F2 x h).1
    · exact (F5 x h).1
  · rcases List.mem_append.1 hm with h | h
    · exact (F2 R h).2 rfl
    · exact (F5 R h).2 rfl

theorem Tri.appA {w : World} (h : Tri w0 w R O dB sB mB n eB tB nB n3 N lB cB f a b L lB2 cB2 f2 a2 b2 L2 lB3 cB3 f3 a3 b3 L3 K) (hK : K ≤ 1000000000) (s : ByteArray) :
    Calls Try.prog 11 #[.pointer (some ⟨lB, 0, none⟩), .string s] w fun e w' => e = .returned (.int .i64 (M.appR N L s)) ∧ Tri w0 w' R O dB sB mB n eB tB nB n3 N lB cB f a b (M.appL (M.appR N L s) L s) lB2 cB2 f2 a2 b2 L2 lB3 cB3 f3 a3 b3 L3 (K + 1) := by
  obtain ⟨⟨d, e, rb, rb2, rb3, c, c2, c3, hd, hf, he, hfe, hA, hB, hC, hD, hall⟩, hbe, hob, hsc⟩ := h
  refine (append_lg w hd hf hA hK s).mono ?_
  rintro e w' ⟨rfl, d', rb', hd', hf', hA', hr', hb', hs'⟩
  refine ⟨rfl, Tri.mkA hd he hfe hA hB hC hD hall hbe hob hsc hd' hf' hA' hr' (hb'.mono (by simp)) (fun j hj => hs' j (fun e => hj ?_)) (by omega)⟩
  obtain ⟨p, hp, hq⟩ := M.place_lt (first := f) (show 0 < N by have := hA.geo.n2; omega) L.tail
  exact .inl (by omega)
theorem Tri.syncA {w : World} (h : Tri w0 w R O dB sB mB n eB tB nB n3 N lB cB f a b L lB2 cB2 f2 a2 b2 L2 lB3 cB3 f3 a3 b3 L3 K) :
    Calls Try.prog 19 #[.pointer (some ⟨lB, 0, none⟩)] w fun e w' => e = .returned (.int .i64 0) ∧ Tri w0 w' R O dB sB mB n eB tB nB n3 N lB cB f a b L lB2 cB2 f2 a2 b2 L2 lB3 cB3 f3 a3 b3 L3 K := by
  obtain ⟨⟨d, e, rb, rb2, rb3, c, c2, c3, hd, hf, he, hfe, hA, hB, hC, hD, hall⟩, hbe, hob, hsc⟩ := h
  refine (sync_lg w hd hf hA).mono ?_
  rintro e w' ⟨rfl, d', hd', hf', hA', hb', hs', _⟩
  exact ⟨rfl, Tri.mkA hd he hfe hA hB hC hD hall hbe hob hsc hd' hf' hA' (.inl rfl) (hb'.mono (by simp)) (fun j _ => hs' j) (by omega)⟩
theorem Tri.trimA {w : World} (h : Tri w0 w R O dB sB mB n eB tB nB n3 N lB cB f a b L lB2 cB2 f2 a2 b2 L2 lB3 cB3 f3 a3 b3 L3 K) (hK : K ≤ 1000000000) (m : Nat) {x : Int} (hx : x = L.head + (m : Int)) :
    Calls Try.prog 12 #[.pointer (some ⟨lB, 0, none⟩), .int .i64 x] w fun e w' => e = .returned (.int .i64 (M.cutR L m)) ∧ Tri w0 w' R O dB sB mB n eB tB nB n3 N lB cB f a b (M.cutL L m) lB2 cB2 f2 a2 b2 L2 lB3 cB3 f3 a3 b3 L3 (K + 1) := by
  subst hx
  obtain ⟨⟨d, e, rb, rb2, rb3, c, c2, c3, hd, hf, he, hfe, hA, hB, hC, hD, hall⟩, hbe, hob, hsc⟩ := h
  by_cases hm : m ≤ L.rs.length
  · have e1 : M.cutR L m = 0 := if_pos hm
    have e2 : M.cutL L m = L.cut m := if_pos hm
    rw [e1, e2]
    refine (trim_lg w hd hf hA hK m hm).mono ?_
    rintro e w' ⟨rfl, d', c', hd', hf', hA', hb', hs', _⟩
    exact ⟨rfl, Tri.mkA hd he hfe hA hB hC hD hall hbe hob hsc hd' hf' hA' (.inl rfl) (hb'.mono (by simp)) (fun j hj => hs' j (fun e => hj (.inr (.inl e))) (fun e => hj (.inr (.inr e)))) (by omega)⟩
  · have e1 : M.cutR L m = 1 := if_neg hm
    have e2 : M.cutL L m = L := if_neg hm
    rw [e1, e2]
    refine (trim_no w hd hA hK (L.head + m) (.inr (by unfold M.Lg.tail; omega))).mono ?_
    rintro e w' ⟨rfl, hb⟩
    exact ⟨rfl, Tri.mkA hd he hfe hA hB hC hD hall hbe hob hsc (hd.but (But.of_below hb) (by simp) (by simp) (by simp)) hf ((hA.below hb).mono (show K ≤ K + 1 by omega)) (.inl rfl) ((But.of_below hb).mono (by simp)) (fun _ _ => rfl) (by omega)⟩
theorem Tri.appC {w : World} (h : Tri w0 w R O dB sB mB n eB tB nB n3 N lB cB f a b L lB2 cB2 f2 a2 b2 L2 lB3 cB3 f3 a3 b3 L3 K) (hK : K ≤ 1000000000) (s : ByteArray) :
    Calls Try.prog 11 #[.pointer (some ⟨lB3, 0, none⟩), .string s] w fun e w' => e = .returned (.int .i64 (M.appR N L3 s)) ∧ Tri w0 w' R O dB sB mB n eB tB nB n3 N lB cB f a b L lB2 cB2 f2 a2 b2 L2 lB3 cB3 f3 a3 b3 (M.appL (M.appR N L3 s) L3 s) (K + 1) := by
  obtain ⟨⟨d, e, rb, rb2, rb3, c, c2, c3, hd, hf, he, hfe, hA, hB, hC, hD, hall⟩, hbe, hob, hsc⟩ := h
  refine (append_lg w he hfe hC hK s).mono ?_
  rintro e w' ⟨rfl, d', rb', hd', hf', hC', hr', hb', hs'⟩
  exact ⟨rfl, Tri.mkC hd hf he hA hB hC hD hall hbe hob hsc hd' hf' hC' hr' (hb'.mono (by simp)) (by omega)⟩
theorem Tri.syncC {w : World} (h : Tri w0 w R O dB sB mB n eB tB nB n3 N lB cB f a b L lB2 cB2 f2 a2 b2 L2 lB3 cB3 f3 a3 b3 L3 K) :
    Calls Try.prog 19 #[.pointer (some ⟨lB3, 0, none⟩)] w fun e w' => e = .returned (.int .i64 0) ∧ Tri w0 w' R O dB sB mB n eB tB nB n3 N lB cB f a b L lB2 cB2 f2 a2 b2 L2 lB3 cB3 f3 a3 b3 L3 K := by
  obtain ⟨⟨d, e, rb, rb2, rb3, c, c2, c3, hd, hf, he, hfe, hA, hB, hC, hD, hall⟩, hbe, hob, hsc⟩ := h
  refine (sync_lg w he hfe hC).mono ?_
  rintro e w' ⟨rfl, d', hd', hf', hC', hb', hs', _⟩
  exact ⟨rfl, Tri.mkC hd hf he hA hB hC hD hall hbe hob hsc hd' hf' hC' (.inl rfl) (hb'.mono (by simp)) (by omega)⟩
theorem Tri.trimC {w : World} (h : Tri w0 w R O dB sB mB n eB tB nB n3 N lB cB f a b L lB2 cB2 f2 a2 b2 L2 lB3 cB3 f3 a3 b3 L3 K) (hK : K ≤ 1000000000) (m : Nat) {x : Int} (hx : x = L3.head + (m : Int)) :
    Calls Try.prog 12 #[.pointer (some ⟨lB3, 0, none⟩), .int .i64 x] w fun e w' => e = .returned (.int .i64 (M.cutR L3 m)) ∧ Tri w0 w' R O dB sB mB n eB tB nB n3 N lB cB f a b L lB2 cB2 f2 a2 b2 L2 lB3 cB3 f3 a3 b3 (M.cutL L3 m) (K + 1) := by
  subst hx
  obtain ⟨⟨d, e, rb, rb2, rb3, c, c2, c3, hd, hf, he, hfe, hA, hB, hC, hD, hall⟩, hbe, hob, hsc⟩ := h
  by_cases hm : m ≤ L3.rs.length
  · have e1 : M.cutR L3 m = 0 := if_pos hm
    have e2 : M.cutL L3 m = L3.cut m := if_pos hm
    rw [e1, e2]
    refine (trim_lg w he hfe hC hK m hm).mono ?_
    rintro e w' ⟨rfl, d', c', hd', hf', hC', hb', hs', _⟩
    exact ⟨rfl, Tri.mkC hd hf he hA hB hC hD hall hbe hob hsc hd' hf' hC' (.inl rfl) (hb'.mono (by simp)) (by omega)⟩
  · have e1 : M.cutR L3 m = 1 := if_neg hm
    have e2 : M.cutL L3 m = L3 := if_neg hm
    rw [e1, e2]
    refine (trim_no w he hC hK (L3.head + m) (.inr (by unfold M.Lg.tail; omega))).mono ?_
    rintro e w' ⟨rfl, hb⟩
    exact ⟨rfl, Tri.mkC hd hf he hA hB hC hD hall hbe hob hsc (he.but (But.of_below hb) (by simp) (by simp) (by simp)) hfe ((hC.below hb).mono (show K ≤ K + 1 by omega)) (.inl rfl) ((But.of_below hb).mono (by simp)) (by omega)⟩

theorem Tri.below {w w' : World} (h : Tri w0 w R O dB sB mB n eB tB nB n3 N lB cB f a b L lB2 cB2 f2 a2 b2 L2 lB3 cB3 f3 a3 b3 L3 K) (hb : Below w.heap.size w w') : Tri w0 w' R O dB sB mB n eB tB nB n3 N lB cB f a b L lB2 cB2 f2 a2 b2 L2 lB3 cB3 f3 a3 b3 L3 K := by
  obtain ⟨⟨d, e, rb, rb2, rb3, c, c2, c3, hd, hf, he, hfe, hA, hB, hC, hD, hall⟩, hbe, hob, hsc⟩ := h
  have hbu := But.of_below hb
  have := hb.size
  exact ⟨⟨d, e, rb, rb2, rb3, c, c2, c3, hd.but hbu (by simp) (by simp) (by simp), hf, he.but hbu (by simp) (by simp) (by simp), hfe, hA.below hb, hB.below hb, hC.below hb, hD, hall⟩, hbe.trans (hb.mono hbe.size), ⟨by omega, (hbu.block R hob.1 (by simp)).trans hob.2⟩, hsc⟩
theorem Tri.mono {w : World} {K' : Int} (h : Tri w0 w R O dB sB mB n eB tB nB n3 N lB cB f a b L lB2 cB2 f2 a2 b2 L2 lB3 cB3 f3 a3 b3 L3 K) (hK : K ≤ K') : Tri w0 w R O dB sB mB n eB tB nB n3 N lB cB f a b L lB2 cB2 f2 a2 b2 L2 lB3 cB3 f3 a3 b3 L3 K' := by
  obtain ⟨⟨d, e, rb, rb2, rb3, c, c2, c3, hd, hf, he, hfe, hA, hB, hC, hD, hall⟩, hbe, hob, hsc⟩ := h
  exact ⟨⟨d, e, rb, rb2, rb3, c, c2, c3, hd, hf, he, hfe, hA.mono hK, hB.mono hK, hC.mono hK, hD, hall⟩, hbe, hob, hsc⟩
/-- none of the caller's -/
def Fresh (w0 : World) (A : List Nat) : Prop := ∀ x ∈ A, w0.heap.size ≤ x
/-- the same, at a round's head -/
def Tri0 (w0 w : World) (dB sB mB n eB tB nB n3 N : Nat) (lB cB f a b : Nat) (L : M.Lg) (lB2 cB2 f2 a2 b2 : Nat) (L2 : M.Lg) (lB3 cB3 f3 a3 b3 : Nat) (L3 : M.Lg) (K : Int) : Prop :=
  (∃ (d e : M.Dv) (rb rb2 rb3 : Nat) (c c2 c3 : M.Cl), DevAt w dB sB mB n d ∧ Free d ∧ DevAt w eB tB nB n3 e ∧ Free e ∧
    LG w dB sB mB n d lB rb cB f N a b c L K ∧ LG w dB sB mB n d lB2 rb2 cB2 f2 N a2 b2 c2 L2 K ∧ LG w eB tB nB n3 e lB3 rb3 cB3 f3 N a3 b3 c3 L3 K ∧
    (Dis [dB, sB, mB] [eB, tB, nB] ∧ Dis [dB, sB, mB] [lB3, rb3, cB3] ∧ Dis [eB, tB, nB] [lB, rb, cB] ∧ Dis [eB, tB, nB] [lB2, rb2, cB2] ∧ Dis [lB, rb, cB] [lB2, rb2, cB2] ∧ Dis [lB, rb, cB] [lB3, rb3, cB3] ∧ Dis [lB2, rb2, cB2] [lB3, rb3, cB3]) ∧ (Fresh w0 [dB, sB, mB] ∧ Fresh w0 [eB, tB, nB] ∧ Fresh w0 [lB, rb, cB] ∧ Fresh w0 [lB2, rb2, cB2] ∧ Fresh w0 [lB3, rb3, cB3])) ∧
  Below w0.heap.size w0 w ∧ (∀ j, Sct f N a b j → ¬ Sct f2 N a2 b2 j)
theorem Tri.head0 {w : World} (h : Tri w0 w R O dB sB mB n eB tB nB n3 N lB cB f a b L lB2 cB2 f2 a2 b2 L2 lB3 cB3 f3 a3 b3 L3 K) : Tri0 w0 w dB sB mB n eB tB nB n3 N lB cB f a b L lB2 cB2 f2 a2 b2 L2 lB3 cB3 f3 a3 b3 L3 K := by
  obtain ⟨⟨d, e, rb, rb2, rb3, c, c2, c3, hd, hf, he, hfe, hA, hB, hC, hD, ⟨F1, F2, F3, F4, F5⟩⟩, hbe, hob, hsc⟩ := h
  exact ⟨⟨d, e, rb, rb2, rb3, c, c2, c3, hd, hf, he, hfe, hA, hB, hC, hD, ⟨fun x hx => (F1 x hx).1, fun x hx => (F2 x hx).1, fun x hx => (F3 x hx).1, fun x hx => (F4 x hx).1, fun x hx => (F5 x hx).1⟩⟩, hbe, hsc⟩
theorem far_new {w : World} {R' : Nat} {A : List Nat} (h : Fresh w0 A) (hl : ∀ y ∈ A, y < w.heap.size) (h1 : w.heap.size ≤ R') : Far w0 R' A := fun x hx => ⟨h x hx, by have := hl x hx; omega⟩
/-- another block, made since -/
theorem Tri0.block {w w' : World} {R' : Nat} (h : Tri0 w0 w dB sB mB n eB tB nB n3 N lB cB f a b L lB2 cB2 f2 a2 b2 L2 lB3 cB3 f3 a3 b3 L3 K) (hb : Below w.heap.size w w') (h1 : w.heap.size ≤ R') (h2 : R' < w'.heap.size) :
    Tri w0 w' R' w'.heap[R']? dB sB mB n eB tB nB n3 N lB cB f a b L lB2 cB2 f2 a2 b2 L2 lB3 cB3 f3 a3 b3 L3 K := by
  obtain ⟨⟨d, e, rb, rb2, rb3, c, c2, c3, hd, hf, he, hfe, hA, hB, hC, hD, ⟨F1, F2, F3, F4, F5⟩⟩, hbe, hsc⟩ := h
  have hbu := But.of_below hb
  exact ⟨⟨d, e, rb, rb2, rb3, c, c2, c3, hd.but hbu (by simp) (by simp) (by simp), hf, he.but hbu (by simp) (by simp) (by simp), hfe, hA.below hb, hB.below hb, hC.below hb, hD,
    ⟨far_new (w := w) F1 (three_lt hd.ltD hd.lt hd.pend.lt) h1, far_new (w := w) F2 (three_lt he.ltD he.lt he.pend.lt) h1, far_new (w := w) F3 (three_lt hA.la.lt.1 hA.la.lt.2 hA.ca.lt) h1, far_new (w := w) F4 (three_lt hB.la.lt.1 hB.la.lt.2 hB.ca.lt) h1, far_new (w := w) F5 (three_lt hC.la.lt.1 hC.la.lt.2 hC.ca.lt) h1⟩⟩, hbe.trans (hb.mono hbe.size), ⟨h2, rfl⟩, hsc⟩
theorem Tri0.below {w w' : World} (h : Tri0 w0 w dB sB mB n eB tB nB n3 N lB cB f a b L lB2 cB2 f2 a2 b2 L2 lB3 cB3 f3 a3 b3 L3 K) (hb : Below w.heap.size w w') : Tri0 w0 w' dB sB mB n eB tB nB n3 N lB cB f a b L lB2 cB2 f2 a2 b2 L2 lB3 cB3 f3 a3 b3 L3 K := by
  obtain ⟨⟨d, e, rb, rb2, rb3, c, c2, c3, hd, hf, he, hfe, hA, hB, hC, hD, hF⟩, hbe, hsc⟩ := h
  have hbu := But.of_below hb
  exact ⟨⟨d, e, rb, rb2, rb3, c, c2, c3, hd.but hbu (by simp) (by simp) (by simp), hf, he.but hbu (by simp) (by simp) (by simp), hfe, hA.below hb, hB.below hb, hC.below hb, hD, hF⟩, hbe.trans (hb.mono hbe.size), hsc⟩
theorem Tri0.mono {w : World} {K' : Int} (h : Tri0 w0 w dB sB mB n eB tB nB n3 N lB cB f a b L lB2 cB2 f2 a2 b2 L2 lB3 cB3 f3 a3 b3 L3 K) (hK : K ≤ K') : Tri0 w0 w dB sB mB n eB tB nB n3 N lB cB f a b L lB2 cB2 f2 a2 b2 L2 lB3 cB3 f3 a3 b3 L3 K' := by
  obtain ⟨⟨d, e, rb, rb2, rb3, c, c2, c3, hd, hf, he, hfe, hA, hB, hC, hD, hF⟩, hbe, hsc⟩ := h
  exact ⟨⟨d, e, rb, rb2, rb3, c, c2, c3, hd, hf, he, hfe, hA.mono hK, hB.mono hK, hC.mono hK, hD, hF⟩, hbe, hsc⟩
theorem Tri.be {w : World} (h : Tri w0 w R O dB sB mB n eB tB nB n3 N lB cB f a b L lB2 cB2 f2 a2 b2 L2 lB3 cB3 f3 a3 b3 L3 K) : Below w0.heap.size w0 w := h.2.1
theorem Tri.cell {w w4 : World} (h : Tri w0 w R w4.heap[R]? dB sB mB n eB tB nB n3 N lB cB f a b L lB2 cB2 f2 a2 b2 L2 lB3 cB3 f3 a3 b3 L3 K) (o : Nat) : w.cell? ⟨R, o, none⟩ = w4.cell? ⟨R, o, none⟩ :=
  World.cell?_of_block (w := w4) (a := ⟨R, o, none⟩) h.2.2.1.2
theorem Tri.headA {w : World} (h : Tri w0 w R O dB sB mB n eB tB nB n3 N lB cB f a b L lB2 cB2 f2 a2 b2 L2 lB3 cB3 f3 a3 b3 L3 K) : Calls Try.prog 13 #[.pointer (some ⟨lB, 0, none⟩)] w fun e w' => e = .returned (.int .i64 L.head) ∧ w = w' := by
  obtain ⟨⟨d, e, rb, rb2, rb3, c, c2, c3, hd, hf, he, hfe, hA, _⟩, _⟩ := h
  exact head_lg w hA
theorem Tri.headC {w : World} (h : Tri w0 w R O dB sB mB n eB tB nB n3 N lB cB f a b L lB2 cB2 f2 a2 b2 L2 lB3 cB3 f3 a3 b3 L3 K) : Calls Try.prog 13 #[.pointer (some ⟨lB3, 0, none⟩)] w fun e w' => e = .returned (.int .i64 L3.head) ∧ w = w' := by
  obtain ⟨⟨d, e, rb, rb2, rb3, c, c2, c3, hd, hf, he, hfe, hA, hB, hC, _⟩, _⟩ := h
  exact head_lg w hC
theorem Tri.hd {w : World} (h : Tri w0 w R O dB sB mB n eB tB nB n3 N lB cB f a b L lB2 cB2 f2 a2 b2 L2 lB3 cB3 f3 a3 b3 L3 K) : 1 ≤ L.head ∧ L.head ≤ K ∧ 1 ≤ L2.head ∧ L2.head ≤ K := by
  obtain ⟨⟨d, e, rb, rb2, rb3, c, c2, c3, hd, hf, he, hfe, hA, hB, hC, _⟩, _⟩ := h
  have h1 := hA.gd.ring.h1
  have h2 := hA.gd.tail
  have h3 := hB.gd.ring.h1
  have h4 := hB.gd.tail
  unfold M.Lg.tail at h2 h4
  omega
/-- what the first one and the one that is alone tell, in each world behind -/
theorem Tri.tells {w : World} (h : Tri w0 w R O dB sB mB n eB tB nB n3 N lB cB f a b L lB2 cB2 f2 a2 b2 L2 lB3 cB3 f3 a3 b3 L K) (hK : K ≤ 1000000000) :
    (∀ w', Below w.heap.size w w' → Calls Try.prog 15 #[.pointer (some ⟨lB, 0, none⟩)] w' fun e w'' => ∃ aR cR, e = .returned (.slice aR L.rs.length cR) ∧ C.Row w'' aR L.rs.length cR (C.strs (L.rs.map (·.s))) ∧ Below w.heap.size w w'' ∧ Below w'.heap.size w' w'') ∧
    (∀ w', Below w.heap.size w w' → Calls Try.prog 15 #[.pointer (some ⟨lB3, 0, none⟩)] w' fun e w'' => ∃ aR cR, e = .returned (.slice aR L.rs.length cR) ∧ C.Row w'' aR L.rs.length cR (C.strs (L.rs.map (·.s))) ∧ Below w.heap.size w w'' ∧ Below w'.heap.size w' w'') ∧
    (∀ w', Below w.heap.size w w' → Calls Try.prog 13 #[.pointer (some ⟨lB, 0, none⟩)] w' fun e w'' => e = .returned (.int .i64 L.head) ∧ Below w.heap.size w w'') ∧
    (∀ w', Below w.heap.size w w' → Calls Try.prog 13 #[.pointer (some ⟨lB3, 0, none⟩)] w' fun e w'' => e = .returned (.int .i64 L.head) ∧ Below w.heap.size w w'') ∧
    (∀ w', Below w.heap.size w w' → Calls Try.prog 23 #[.pointer (some ⟨lB, 0, none⟩)] w' fun e w'' => e = .returned (.int .i64 L.tail) ∧ Below w.heap.size w w'') ∧
    (∀ w', Below w.heap.size w w' → Calls Try.prog 23 #[.pointer (some ⟨lB3, 0, none⟩)] w' fun e w'' => e = .returned (.int .i64 L.tail) ∧ Below w.heap.size w w'') ∧ L.rs.length ≤ 1000000 := by
  obtain ⟨⟨d, e, rb, rb2, rb3, c, c2, c3, hd, hf, he, hfe, hA, hB, hC, _⟩, _⟩ := h
  refine ⟨fun w' hb => ?_, fun w' hb => ?_, fun w' hb => ?_, fun w' hb => ?_, fun w' hb => ?_, fun w' hb => ?_, by have := hA.gd.ring.len; have := hA.geo.fn; have := hA.geo.n5; omega⟩
  · refine (records_any w' L (hA.below hb).la).mono ?_
    rintro e w'' ⟨aR, cR, rfl, ho, hb2⟩
    exact ⟨aR, cR, rfl, (C.own_row ho).1, hb.trans (hb2.mono hb.size), hb2⟩
  · refine (records_any w' L (hC.below hb).la).mono ?_
    rintro e w'' ⟨aR, cR, rfl, ho, hb2⟩
    exact ⟨aR, cR, rfl, (C.own_row ho).1, hb.trans (hb2.mono hb.size), hb2⟩
  · refine (head_lg w' (hA.below hb)).mono ?_
    rintro e w'' ⟨rfl, rfl⟩
    exact ⟨rfl, hb⟩
  · refine (head_lg w' (hC.below hb)).mono ?_
    rintro e w'' ⟨rfl, rfl⟩
    exact ⟨rfl, hb⟩
  · refine (tail_lg w' (hA.below hb) hK).mono ?_
    rintro e w'' ⟨rfl, j, rfl⟩
    exact ⟨rfl, below_dn hb j⟩
  · refine (tail_lg w' (hC.below hb) hK).mono ?_
    rintro e w'' ⟨rfl, j, rfl⟩
    exact ⟨rfl, below_dn hb j⟩
theorem dis_lt {A B : List Nat} {q : Nat} (h1 : ∀ x ∈ A, x < q) (h2 : ∀ y ∈ B, q ≤ y) : Dis A B := fun x hx y hy e => by have := h1 x hx; have := h2 y hy; omega
theorem three_ge {a b c q : Nat} (h1 : q ≤ a) (h2 : q ≤ b) (h3 : q ≤ c) : ∀ y ∈ [a, b, c], q ≤ y := fun y hy => by
  simp only [List.mem_cons, List.not_mem_nil, or_false] at hy
  rcases hy with hy | hy | hy <;> omega

theorem tri_start {w3 w4 w5 w6 : World} {d1 d2 e1 : M.Dv} {rb rb2 rb3 : Nat} {c c2 c3 : M.Cl} {dd ee : M.Dv} (h1 : Dev w0 w3 dB sB mB n dd) (h2 : Dev w0 w3 eB tB nB n3 ee) (hD : Dis [dB, sB, mB] [eB, tB, nB])
    (hl : Run w0 w4 dB sB mB n d1 lB rb cB f N a b c L K) (o1 : w3.heap.size ≤ lB ∧ w3.heap.size ≤ cB ∧ w3.heap.size ≤ rb) (b1 : But [dB, sB, mB] w3 w4)
    (hm : Run w0 w5 dB sB mB n d2 lB2 rb2 cB2 f2 N a2 b2 c2 L2 K) (o2 : w4.heap.size ≤ lB2 ∧ w4.heap.size ≤ cB2 ∧ w4.heap.size ≤ rb2) (b2' : But [dB, sB, mB] w4 w5) (s2 : ∀ j : Nat, j ≠ a2 → j ≠ b2 → M.seen d2 j = M.seen d1 j)
    (hk : Run w0 w6 eB tB nB n3 e1 lB3 rb3 cB3 f3 N a3 b3 c3 L3 K) (o3 : w5.heap.size ≤ lB3 ∧ w5.heap.size ≤ cB3 ∧ w5.heap.size ≤ rb3) (b3' : But [eB, tB, nB] w5 w6)
    (hsc : ∀ j, Sct f N a b j → ¬ Sct f2 N a2 b2 j) : Tri0 w0 w6 dB sB mB n eB tB nB n3 N lB cB f a b L lB2 cB2 f2 a2 b2 L2 lB3 cB3 f3 a3 b3 L3 K := by
  have v1 := three_lt h1.dv.ltD h1.dv.lt h1.dv.pend.lt
  have v2 := three_lt h2.dv.ltD h2.dv.lt h2.dv.pend.lt
  have v3 := three_lt hl.lg.la.lt.1 hl.lg.la.lt.2 hl.lg.ca.lt
  have v4 := three_lt hm.lg.la.lt.1 hm.lg.la.lt.2 hm.lg.ca.lt
  have g3 := three_ge o1.1 o1.2.2 o1.2.1
  have g4 := three_ge o2.1 o2.2.2 o2.2.1
  have g5 := three_ge o3.1 o3.2.2 o3.2.1
  have z1 := b1.size
  have z2 := b2'.size
  have z3 := b3'.size
  have D2 : Dis [dB, sB, mB] [lB3, rb3, cB3] := dis_lt v1 (fun y hy => by have := g5 y hy; omega)
  have D3 : Dis [eB, tB, nB] [lB, rb, cB] := dis_lt v2 (fun y hy => g3 y hy)
  have D4 : Dis [eB, tB, nB] [lB2, rb2, cB2] := dis_lt v2 (fun y hy => by have := g4 y hy; omega)
  have D5 : Dis [lB, rb, cB] [lB2, rb2, cB2] := dis_lt v3 (fun y hy => g4 y hy)
  have D6 : Dis [lB, rb, cB] [lB3, rb3, cB3] := dis_lt v3 (fun y hy => by have := g5 y hy; omega)
  have D7 : Dis [lB2, rb2, cB2] [lB3, rb3, cB3] := dis_lt v4 (fun y hy => g5 y hy)
  have E3 := Dis.of_apart hl.lg.sp
  have hl5 : LG w5 dB sB mB n d2 lB rb cB f N a b c L K := (hl.lg.but b2' (E3.out (by simp)) (E3.out (by simp)) (E3.out (by simp))).dev (fun j hj => s2 j (fun e => hsc j hj (.inr (.inl e))) (fun e => hsc j hj (.inr (.inr e))))
  have hl6 := hl5.but b3' (D3.out (by simp)) (D3.out (by simp)) (D3.out (by simp))
  have hm6 := hm.lg.but b3' (D4.out (by simp)) (D4.out (by simp)) (D4.out (by simp))
  have hd6 := hm.dv.but b3' (hD.symm.out (by simp)) (hD.symm.out (by simp)) (hD.symm.out (by simp))
  exact ⟨⟨d2, e1, rb, rb2, rb3, c, c2, c3, hd6, hm.fr, hk.dv, hk.fr, hl6, hm6, hk.lg, ⟨hD, D2, D3, D4, D5, D6, D7⟩, ⟨three_ge h1.od.1 h1.od.2.1 h1.od.2.2, three_ge h2.od.1 h2.od.2.1 h2.od.2.2, three_ge hl.ol.1 hl.ol.2.1 hl.ol.2.2, three_ge hm.ol.1 hm.ol.2.1 hm.ol.2.2, three_ge hk.ol.1 hk.ol.2.1 hk.ol.2.2⟩⟩, hk.be, hsc⟩
theorem Dev.but {w w' : World} {d : M.Dv} (h : Dev w0 w dB sB mB n d) {q : List Nat} (hb : But q w w') (h1 : Dis q [dB, sB, mB]) (h3 : ∀ x ∈ q, w0.heap.size ≤ x) : Dev w0 w' dB sB mB n d :=
  ⟨h.dv.but hb (h1.out (by simp)) (h1.out (by simp)) (h1.out (by simp)), h.fr, h.be.trans (hb.to_below h3 h.be.size), h.od⟩

/-- what a log's Records tell in each world behind -/
def Recs (w : World) (l : Nat) (rs : List M.Rl) : Prop :=
  (∀ w', Below w.heap.size w w' → Calls Try.prog 15 #[.pointer (some ⟨l, 0, none⟩)] w' fun e w'' => ∃ aR cR, e = .returned (.slice aR rs.length cR) ∧ C.Row w'' aR rs.length cR (C.strs (rs.map (·.s))) ∧ Below w.heap.size w w'' ∧ Below w'.heap.size w' w'') ∧ rs.length ≤ 1000000
theorem recs_of {w : World} {l rb dB f N : Nat} {cv : Value} {L : M.Lg} (h : LogAt w l rb dB f N cv L) (hn : L.rs.length ≤ 1000000) : Recs w l L.rs := by
  refine ⟨fun w' hb => ?_, hn⟩
  refine (records_any w' L (h.below hb (Nat.le_refl _))).mono ?_
  rintro e w'' ⟨aR, cR, rfl, ho, hb2⟩
  exact ⟨aR, cR, rfl, (C.own_row ho).1, hb.trans (hb2.mono hb.size), hb2⟩
theorem lg_len {w : World} {dB sB mB n : Nat} {d : M.Dv} {l rb cB f N a b : Nat} {c : M.Cl} {L : M.Lg} {K : Int} (h : LG w dB sB mB n d l rb cB f N a b c L K) : L.rs.length ≤ 1000000 := by
  have := h.gd.ring.len
  have := h.geo.fn
  have := h.geo.n5
  omega
/-- behind the first reopening -/
def Mid (w0 w : World) (dB sB mB n N p f a b : Nat) (lB : Nat) (L : M.Lg) (lB2 cB2 f2 a2 b2 : Nat) (L2 : M.Lg) (K : Int) : Prop :=
  ∃ (d : M.Dv) (pr pc rb rb2 cB : Nat) (pcl c2 : M.Cl) (cv : Value), Run w0 w dB sB mB n d p pr pc f N a b pcl L.anew (K + 1) ∧ LogAt w lB rb dB f N cv L ∧ LG w dB sB mB n d lB2 rb2 cB2 f2 N a2 b2 c2 L2 K ∧ Dis [dB, sB, mB] [lB, rb, cB] ∧ L.rs.length ≤ 1000000
theorem Tri0.reopen {w : World} (h : Tri0 w0 w dB sB mB n eB tB nB n3 N lB cB f a b L lB2 cB2 f2 a2 b2 L2 lB3 cB3 f3 a3 b3 L3 K) (hK : K ≤ 1000000000)
    {x1 x2 x3 x4 : Int} (e1 : x1 = (f : Int)) (e2 : x2 = (N : Int)) (e3 : x3 = (a : Int)) (e4 : x4 = (b : Int)) :
    Calls Try.prog 10 #[.pointer (some ⟨dB, 0, none⟩), .int .i64 x1, .int .i64 x2, .int .i64 x3, .int .i64 x4] w fun e w' => ∃ p, e = .returned (.tuple #[.pointer (some ⟨p, 0, none⟩), .int .i64 0]) ∧ Mid w0 w' dB sB mB n N p f a b lB L lB2 cB2 f2 a2 b2 L2 K := by
  obtain ⟨⟨d, e, rb, rb2, rb3, c, c2, c3, hd, hf, he, hfe, hA, hB, hC, hD, ⟨F1, F2, F3, F4, F5⟩⟩, hbe, hsc⟩ := h
  have hDv : Dev w0 w dB sB mB n d := ⟨hd, hf, hbe, ⟨F1 dB (by simp), F1 sB (by simp), F1 mB (by simp)⟩⟩
  refine (run_again w hDv hA.geo hK hA.gd e1 e2 e3 e4).mono ?_
  rintro e w' ⟨p, pc, pr, d', c', rfl, hR, ho, hb, hs⟩
  have DA := Dis.of_apart hA.sp
  have DB := Dis.of_apart hB.sp
  exact ⟨p, rfl, d', pr, pc, rb, rb2, cB, c', c2, _, hR, hA.la.but hb (DA.out (by simp)) (DA.out (by simp)), (hB.but hb (DB.out (by simp)) (DB.out (by simp)) (DB.out (by simp))).dev (fun j hj => hs j (fun e => hsc j (.inr (.inl e)) hj) (fun e => hsc j (.inr (.inr e)) hj)), DA, lg_len hA⟩
theorem Mid.reopen {w : World} {p : Nat} (h : Mid w0 w dB sB mB n N p f a b lB L lB2 cB2 f2 a2 b2 L2 K) (hK : K ≤ 1000000000)
    {x1 x2 x3 x4 : Int} (e1 : x1 = (f2 : Int)) (e2 : x2 = (N : Int)) (e3 : x3 = (a2 : Int)) (e4 : x4 = (b2 : Int)) :
    Calls Try.prog 10 #[.pointer (some ⟨dB, 0, none⟩), .int .i64 x1, .int .i64 x2, .int .i64 x3, .int .i64 x4] w fun e w' => ∃ q, e = .returned (.tuple #[.pointer (some ⟨q, 0, none⟩), .int .i64 0]) ∧ Recs w' p L.rs ∧ Recs w' lB L.rs ∧ Recs w' q L2.rs ∧ Recs w' lB2 L2.rs ∧ Below w0.heap.size w0 w' := by
  obtain ⟨d, pr, pc, rb, rb2, cB, pcl, c2, cv, hR, hl, hB, DA, hlen⟩ := h
  refine (run_again w hR.dev hB.geo hK hB.gd e1 e2 e3 e4).mono ?_
  rintro e w' ⟨q, qc, qr, d', c', rfl, hR2, ho, hb, hs⟩
  have DP := Dis.of_apart hR.lg.sp
  have DB := Dis.of_apart hB.sp
  have hl2 := lg_len hB
  exact ⟨q, rfl, recs_of (L := L.anew) (hR.lg.la.but hb (DP.out (by simp)) (DP.out (by simp))) hlen, recs_of (hl.but hb (DA.out (by simp)) (DA.out (by simp))) hlen, recs_of (L := L2.anew) hR2.lg.la hl2, recs_of (hB.la.but hb (DB.out (by simp)) (DB.out (by simp))) hl2, hR2.be⟩

set_option maxHeartbeats 4000000 in
theorem walk (x0 : Int) (a1 : Option Addr) (n1 c1 : Nat) (l1 : List A) (w : World) (w0 : (Lit.int .u8 x0).wf = true) (w1 : Acts w a1 n1 c1 l1) :
    Calls Try.prog 7 #[.int .u8 x0, .slice a1 n1 c1] w fun e w' => e = .returned (.bool true) ∧ Below w.heap.size w w' := by
  obtain ⟨r, hr, hrm⟩ := u8_mod x0 19 (by decide) w0 (kI := 19) rfl
  have HA := Lib.hid (awake_any w)
  have HW := Lib.hid w1
  have hrI : (r : Int) < 19 := by omega
  have hr0 : (0 : Int) ≤ (r : Int) := by omega
  have Hr := Lib.hid hr
  clear w0 w1 hr
  go_enter Try.func7, Try.ntmps7
  go_wp2_with (first
    | (go_at_call 8; refine HA.out.mono ?_; rintro e w1 ⟨rfl, hb1⟩; have HN := Lib.hid (run_new (w0 := w) w1 hb1 (2 * (r + 2) + 4) (by have := Hr.out; omega) (x := 2 * ((r : Int) + 2) + 4) (by omega)); clear hb1)
    | (go_at_call 9; with_reducible refine HN.out.mono ?_; rintro e w2 ⟨dB, sB, mB, rfl, hD1, hb2, hl2⟩
       have HD1 := Lib.hid hD1
       have HV1 : Hid (∀ x ∈ [dB, sB, mB], x < w2.heap.size) := Lib.hid (three_lt hD1.dv.ltD hD1.dv.lt hD1.dv.pend.lt)
       have HN2 := Lib.hid (run_new (w0 := w) w2 hD1.be (r + 4) (by have := Hr.out; omega) (x := (r : Int) + 2 + 2) (by omega))
       clear hD1 hb2 hl2)
    | (go_at_call 9; with_reducible refine HN2.out.mono ?_; rintro e w3 ⟨eB, tB, nB, rfl, hD2, hb3, hl3⟩
       have HD2 := Lib.hid hD2
       have HV2 : Hid (Dis [dB, sB, mB] [eB, tB, nB]) := Lib.hid (dis_lt HV1.out (three_ge hl3.1 hl3.2.1 hl3.2.2))
       have HD1b := Lib.hid (HD1.out.below hb3)
       have HO := Lib.hid (run_open w3 (HD1.out.below hb3) (first := 4) (N := r + 2) (a := 0) (b := 1) ⟨by omega, by omega, by omega, by omega, by omega, by omega, by omega, by have := Hr.out; omega⟩ (fun j _ => rfl) (x1 := 4) (x2 := (r : Int) + 2) (x3 := 0) (x4 := 1) rfl (by omega) rfl rfl)
       clear hD2 hb3 hl3)
    | (go_at_call 10; with_reducible refine HO.out.mono ?_; rintro e w4 ⟨lB, cB, rb0, d1, c1, rfl, hR4, ho4, hb4, hs4⟩
       have HR4 := Lib.hid (And.intro hR4 (And.intro ho4 (And.intro hb4 hs4)))
       have HO2 := Lib.hid (run_open w4 hR4.dev (first := 4 + (r + 2)) (N := r + 2) (a := 2) (b := 3) ⟨by omega, by omega, by omega, by omega, by omega, by omega, by omega, by have := Hr.out; omega⟩ (fun j hj => by rw [hs4 j (by omega) (by omega)]; rfl) (x1 := 4 + ((r : Int) + 2)) (x2 := (r : Int) + 2) (x3 := 2) (x4 := 3) (by omega) (by omega) rfl rfl)
       clear hR4 ho4 hb4 hs4)
    | (go_at_call 10; with_reducible refine HO2.out.mono ?_; rintro e w5 ⟨lB2, cB2, rb2, d2, c2, rfl, hR5, ho5, hb5, hs5⟩
       have HR5 := Lib.hid (And.intro hR5 (And.intro ho5 (And.intro hb5 hs5)))
       have HD5 : Hid (Dev w w5 eB tB nB (r + 4) M.fresh) := Lib.hid (Dev.but (Dev.but HD2.out HR4.out.2.2.1 HV2.out (three_ge HD1.out.od.1 HD1.out.od.2.1 HD1.out.od.2.2)) hb5 HV2.out (three_ge HD1.out.od.1 HD1.out.od.2.1 HD1.out.od.2.2))
       have HO3 := Lib.hid (run_open w5 HD5.out (first := 2) (N := r + 2) (a := 0) (b := 1) ⟨by omega, by omega, by omega, by omega, by omega, by omega, by omega, by have := Hr.out; omega⟩ (fun j _ => rfl) (x1 := 2) (x2 := (r : Int) + 2) (x3 := 0) (x4 := 1) rfl (by omega) rfl rfl)
       clear hR5 ho5 hb5 hs5)
    | (go_at_call 10; with_reducible refine HO3.out.mono ?_; rintro e w6 ⟨lB3, cB3, rb3, e3, c3, rfl, hR6, ho6, hb6, hs6⟩
       have HT0 := Lib.hid (tri_start HD1b.out HD2.out HV2.out HR4.out.1 HR4.out.2.1 HR4.out.2.2.1 HR5.out.1 HR5.out.2.1 HR5.out.2.2.1 HR5.out.2.2.2 hR6 ho6 hb6 (fun j h1 h2 => by unfold Sct at h1 h2; omega))
       clear hR6 ho6 hb6 hs6))
  clear HN HN2 HO HO2 HO3 HA HR4 HR5 HD1 HD2 HD1b HD5 HV1 HV2
  go_loopw [14] (fun i wr => ∃ (k : Nat) (L L2 : M.Lg), k ≤ n1 ∧ k ≤ 60 ∧ i = .int .i64 k ∧ Tri0 w wr dB sB mB (2 * (r + 2) + 4) eB tB nB (r + 4) (r + 2) lB cB 4 0 1 L lB2 cB2 (4 + (r + 2)) 2 3 L2 lB3 cB3 2 0 1 L (2 + 2 * k)) (fun i _ => 60 - (intOf i).toNat)
  case atStart => exact ⟨0, _, _, by omega, by omega, rfl, HT0.out.mono (by omega)⟩
  case round =>
    obtain ⟨k, L, L2, hkn, hk6, rfl, hT⟩ := hrel
    have HT := Lib.hid hT
    have HBe : Hid (Below w.heap.size w wr) := Lib.hid hT.2.1
    have hk0 : (0 : Int) ≤ (k : Int) := by omega
    clear hT HT0
    by_cases hend : k = n1
    · have hge : ¬ ((k : Int) < (n1 : Int)) := by omega
      clear hend
      have HO := Lib.hid (HT.out.reopen (by omega) (x1 := 4) (x2 := (r : Int) + 2) (x3 := 0) (x4 := 1) rfl (by omega) rfl rfl)
      go_wp2_with (first
        | (go_at_call 10; with_reducible refine HO.out.mono ?_; rintro e w7 ⟨p, rfl, hM⟩
           have HO2 := Lib.hid (hM.reopen (by omega) (x1 := 4 + ((r : Int) + 2)) (x2 := (r : Int) + 2) (x3 := 2) (x4 := 3) (by omega) (by omega) rfl rfl)
           clear hM)
        | (go_at_call 10; with_reducible refine HO2.out.mono ?_; rintro e w8 ⟨q, rfl, hP, hL, hQ, hM, hb8⟩
           obtain ⟨hP, _⟩ := hP
           obtain ⟨hL, hLn⟩ := hL
           obtain ⟨hQ, _⟩ := hQ
           obtain ⟨hM, hMn⟩ := hM
           have HP := Lib.hid hP
           have HL := Lib.hid hL
           have HQ := Lib.hid hQ
           have HM := Lib.hid hM
           have HLn := Lib.hid hLn
           have HMn := Lib.hid hMn
           have HB8 := Lib.hid hb8
           clear hP hL hQ hM hLn hMn hb8)
        | (go_at_call 15; with_reducible refine (HP.out _ (Below.refl _ _)).mono ?_; rintro e w9 ⟨aP, cP, rfl, hrP, hb9, _⟩
           have HB9 := Lib.hid hb9
           have HrP := Lib.hid hrP
           clear hb9 hrP)
        | (go_at_call 15; with_reducible refine (HL.out _ HB9.out).mono ?_; rintro e w10 ⟨aL, cL, rfl, hrL, hb10, hb109⟩
           have HB10 := Lib.hid hb10
           have HSm := Lib.hid (same_yes w10 aP aL L.rs.length cP cL (L.rs.map (·.s)) (c_row (row_below (row_c HrP.out) hb109 (Nat.le_refl _))) hrL HLn.out)
           clear hb10 hrL hb109)
        | (go_at_call 14; with_reducible refine HSm.out.mono ?_; rintro e w11 ⟨rfl, i11, hw11⟩
           have HB11 : Hid (Below w8.heap.size w8 w11) := Lib.hid (by rw [hw11]; exact below_dn HB10.out _)
           clear hw11)
        | (go_at_call 15; with_reducible refine (HQ.out _ HB11.out).mono ?_; rintro e w12 ⟨aQ, cQ, rfl, hrQ, hb12, _⟩
           have HB12 := Lib.hid hb12
           have HrQ := Lib.hid hrQ
           clear hb12 hrQ)
        | (go_at_call 15; with_reducible refine (HM.out _ HB12.out).mono ?_; rintro e w13 ⟨aM, cM, rfl, hrM, hb13, hb1312⟩
           have HB13 := Lib.hid hb13
           have HSm2 := Lib.hid (same_yes w13 aQ aM L2.rs.length cQ cM (L2.rs.map (·.s)) (c_row (row_below (row_c HrQ.out) hb1312 (Nat.le_refl _))) hrM HMn.out)
           clear hb13 hrM hb1312)
        | (go_at_call 14; with_reducible refine HSm2.out.mono ?_; rintro e w14 ⟨rfl, i14, hw14⟩
           have HB14 : Hid (Below w8.heap.size w8 w14) := Lib.hid (by rw [hw14]; exact below_dn HB13.out _)
           clear hw14))
      go_ret
      exact ⟨rfl, HB8.out.trans (HB14.out.mono HB8.out.size)⟩
    · have hlt : (k : Int) < (n1 : Int) := by omega
      by_cases h60 : k = 60
      · have hge : ¬ ((k : Int) < 60) := by omega
        clear h60 hend
        have HO := Lib.hid (HT.out.reopen (by omega) (x1 := 4) (x2 := (r : Int) + 2) (x3 := 0) (x4 := 1) rfl (by omega) rfl rfl)
        go_wp2_with (first
          | (go_at_call 10; with_reducible refine HO.out.mono ?_; rintro e w7 ⟨p, rfl, hM⟩
             have HO2 := Lib.hid (hM.reopen (by omega) (x1 := 4 + ((r : Int) + 2)) (x2 := (r : Int) + 2) (x3 := 2) (x4 := 3) (by omega) (by omega) rfl rfl)
             clear hM)
          | (go_at_call 10; with_reducible refine HO2.out.mono ?_; rintro e w8 ⟨q, rfl, hP, hL, hQ, hM, hb8⟩
             obtain ⟨hP, _⟩ := hP
             obtain ⟨hL, hLn⟩ := hL
             obtain ⟨hQ, _⟩ := hQ
             obtain ⟨hM, hMn⟩ := hM
             have HP := Lib.hid hP
             have HL := Lib.hid hL
             have HQ := Lib.hid hQ
             have HM := Lib.hid hM
             have HLn := Lib.hid hLn
             have HMn := Lib.hid hMn
             have HB8 := Lib.hid hb8
             clear hP hL hQ hM hLn hMn hb8)
          | (go_at_call 15; with_reducible refine (HP.out _ (Below.refl _ _)).mono ?_; rintro e w9 ⟨aP, cP, rfl, hrP, hb9, _⟩
             have HB9 := Lib.hid hb9
             have HrP := Lib.hid hrP
             clear hb9 hrP)
          | (go_at_call 15; with_reducible refine (HL.out _ HB9.out).mono ?_; rintro e w10 ⟨aL, cL, rfl, hrL, hb10, hb109⟩
             have HB10 := Lib.hid hb10
             have HSm := Lib.hid (same_yes w10 aP aL L.rs.length cP cL (L.rs.map (·.s)) (c_row (row_below (row_c HrP.out) hb109 (Nat.le_refl _))) hrL HLn.out)
             clear hb10 hrL hb109)
          | (go_at_call 14; with_reducible refine HSm.out.mono ?_; rintro e w11 ⟨rfl, i11, hw11⟩
             have HB11 : Hid (Below w8.heap.size w8 w11) := Lib.hid (by rw [hw11]; exact below_dn HB10.out _)
             clear hw11)
          | (go_at_call 15; with_reducible refine (HQ.out _ HB11.out).mono ?_; rintro e w12 ⟨aQ, cQ, rfl, hrQ, hb12, _⟩
             have HB12 := Lib.hid hb12
             have HrQ := Lib.hid hrQ
             clear hb12 hrQ)
          | (go_at_call 15; with_reducible refine (HM.out _ HB12.out).mono ?_; rintro e w13 ⟨aM, cM, rfl, hrM, hb13, hb1312⟩
             have HB13 := Lib.hid hb13
             have HSm2 := Lib.hid (same_yes w13 aQ aM L2.rs.length cQ cM (L2.rs.map (·.s)) (c_row (row_below (row_c HrQ.out) hb1312 (Nat.le_refl _))) hrM HMn.out)
             clear hb13 hrM hb1312)
          | (go_at_call 14; with_reducible refine HSm2.out.mono ?_; rintro e w14 ⟨rfl, i14, hw14⟩
             have HB14 : Hid (Below w8.heap.size w8 w14) := Lib.hid (by rw [hw14]; exact below_dn HB13.out _)
             clear hw14))
        go_ret
        exact ⟨rfl, HB8.out.trans (HB14.out.mono HB8.out.size)⟩
      · have hlt6 : (k : Int) < 60 := by omega
        obtain ⟨b, off, x, rfl, hx, hok0, hok, g1, g2, g3, g4, hbl⟩ := acts_at HW.out HBe.out (show k < n1 by omega)
        have HKn : Hid (k < n1 ∧ k < 60) := Lib.hid ⟨by omega, by omega⟩
        have HOk := Lib.hid (And.intro hok0.i1 hok0.i2)
        clear hx hok0 hok hbl hend h60
        have HLg : Hid (∀ w', Calls Try.prog 18 #[.agg #[.int .i64 x.kind, .int .i64 x.i, .string x.s, .slice x.aL x.k x.cL]] w' fun e w'' => e = .returned (.bool (largeB x)) ∧ Below w'.heap.size w' w'') := Lib.hid (fun w' => large_any w' x)
        cases hlg : largeB x with
        | true =>
          rw [hlg] at HLg
          clear hlg
          go_wp2_with (go_at_call 18; refine (HLg.out _).mono ?_; rintro e w4 ⟨rfl, hb4⟩; have HB4 := Lib.hid hb4; clear hb4)
          go_ret
          exact ⟨rfl, HBe.out.trans ((((Below.refl _ _).alloc (Nat.le_refl _) _).trans (HB4.out.mono (by simp))).mono HBe.out.size)⟩
        | false =>
          rw [hlg] at HLg
          clear hlg
          obtain ⟨m, hm32, hm⟩ := and31 x.i
          have Hm := Lib.hid hm32
          have hmI : (m : Int) < 32 := by omega
          have hm0 : (0 : Int) ≤ (m : Int) := by omega
          clear hm32
          have hpar : (k : Int).tmod 2 = 1 ∨ (k : Int).tmod 2 = 0 := by rw [Int.tmod_eq_emod_of_nonneg hk0]; omega
          rcases hpar with hp | hp
          · 
            by_cases c0 : x.kind = 0
            · have d0 : (x.kind == 0) = true := by simpa using c0
              clear c0
              go_wp2_with (first
                | (go_at_call 18; refine (HLg.out _).mono ?_; rintro e w4 ⟨rfl, hb4⟩
                   have HO4 : Hid (Below wr.heap.size wr w4) := Lib.hid (((Below.refl _ _).alloc (Nat.le_refl _) _).trans (hb4.mono (by simp)))
                   have HZ4 : Hid (wr.heap.size < w4.heap.size) := Lib.hid (by have := hb4.size; simp at this; omega)
                   obtain ⟨hx0, hx1, hx2⟩ := act_cells x (hb4.mono (by simp))
                   have HT4 := Lib.hid (HT.out.block HO4.out (Nat.le_refl _) HZ4.out)
                   clear hb4)
                | (go_at_call 11; with_reducible refine (HT4.out.swap.appA (by have := HKn.out; omega) x.s).mono ?_; rintro e w5 ⟨rfl, hT5⟩; have HT5 := Lib.hid hT5.swap; clear hT5))

              go_roundw
              case rel => exact ⟨k + 1, L, _, by have := HKn.out; omega, by have := HKn.out; omega, by go_num, HT5.out.head0.mono (by omega)⟩
              case measure => have := HKn.out; simp [intOf]; omega
            · have d0 : (x.kind == 0) = false := by simpa using c0
              clear c0
              by_cases c1 : x.kind = 1
              · have d1 : (x.kind == 1) = true := by simpa using c1
                clear c1
                go_wp2_with (first
                  | (go_at_call 18; refine (HLg.out _).mono ?_; rintro e w4 ⟨rfl, hb4⟩
                     have HO4 : Hid (Below wr.heap.size wr w4) := Lib.hid (((Below.refl _ _).alloc (Nat.le_refl _) _).trans (hb4.mono (by simp)))
                     have HZ4 : Hid (wr.heap.size < w4.heap.size) := Lib.hid (by have := hb4.size; simp at this; omega)
                     obtain ⟨hx0, hx1, hx2⟩ := act_cells x (hb4.mono (by simp))
                     have HT4 := Lib.hid (HT.out.block HO4.out (Nat.le_refl _) HZ4.out)
                     clear hb4)
                  | (go_at_call 19; with_reducible refine HT4.out.swap.syncA.mono ?_; rintro e w5 ⟨rfl, hT5⟩; have HT5 := Lib.hid (hT5.swap.mono (show (2 + 2 * (k : Int)) ≤ 2 + 2 * (k : Int) + 1 by omega)); clear hT5))

                go_roundw
                case rel => exact ⟨k + 1, L, _, by have := HKn.out; omega, by have := HKn.out; omega, by go_num, HT5.out.head0.mono (by omega)⟩
                case measure => have := HKn.out; simp [intOf]; omega
              · have d1 : (x.kind == 1) = false := by simpa using c1
                clear c1
                by_cases c2 : x.kind = 2
                · have d2 : (x.kind == 2) = true := by simpa using c2
                  clear c2
                  go_wp2_with (first
                    | (go_at_call 18; refine (HLg.out _).mono ?_; rintro e w4 ⟨rfl, hb4⟩
                       have HO4 : Hid (Below wr.heap.size wr w4) := Lib.hid (((Below.refl _ _).alloc (Nat.le_refl _) _).trans (hb4.mono (by simp)))
                       have HZ4 : Hid (wr.heap.size < w4.heap.size) := Lib.hid (by have := hb4.size; simp at this; omega)
                       obtain ⟨hx0, hx1, hx2⟩ := act_cells x (hb4.mono (by simp))
                       have HT4 := Lib.hid (HT.out.block HO4.out (Nat.le_refl _) HZ4.out)
                       clear hb4)
                    | fail)
                  have HT4d := Lib.hid (HT4.out.below (Below.refl _ _).drew)
                  have hh := HT4.out.hd
                  have hk9 : 2 + 2 * (k : Int) ≤ 200 := by have := HKn.out; omega
                  obtain ⟨hh1, hh2, hh3, hh4⟩ := hh
                  have HHq : Hid (Calls Try.prog 13 #[.pointer (some ⟨lB2, 0, none⟩)] w4.drew fun e w'' => e = .returned (.int .i64 L2.head) ∧ w4.drew = w'') := Lib.hid HT4d.out.swap.headA
                  have HTq := Lib.hid (HT4d.out.swap.trimA (by omega) m (x := IntKind.i64.wrap (L2.head + (m : Int))) (by simp [IntKind.wrap, IntKind.bits, IntKind.signed]; omega))
                  have hy1 : w4.drew.cell? ⟨wr.heap.size, 1, none⟩ = some (.int .i64 x.i) := hx1
                  go_region_held3 (fun w' => w'.cell? ⟨wr.heap.size, 1, none⟩ = some (.int .i64 x.i))
                    (first
                      | exact hy1
                      | exact hz1)
                    (first
                      | (go_at_call 13; with_reducible refine HHq.out.mono ?_; rintro e w' ⟨rfl, rfl⟩)
                      | (go_at_call 12; with_reducible refine HTq.out.mono ?_; rintro e w5 ⟨rfl, hT5⟩
                         have HT5 := Lib.hid hT5.swap
                         have hz1 : w5.cell? ⟨wr.heap.size, 1, none⟩ = some (.int .i64 x.i) := (HT5.out.cell 1).trans hx1
                         clear hT5))
                  go_wp2_with fail

                  go_roundw
                  case rel => exact ⟨k + 1, L, _, by have := HKn.out; omega, by have := HKn.out; omega, by go_num, HT5.out.head0.mono (by omega)⟩
                  case measure => have := HKn.out; simp [intOf]; omega
                · have d2 : (x.kind == 2) = false := by simpa using c2
                  clear c2
                  go_wp2_with (first
                    | (go_at_call 18; refine (HLg.out _).mono ?_; rintro e w4 ⟨rfl, hb4⟩
                       have HO4 : Hid (Below wr.heap.size wr w4) := Lib.hid (((Below.refl _ _).alloc (Nat.le_refl _) _).trans (hb4.mono (by simp)))
                       have HZ4 : Hid (wr.heap.size < w4.heap.size) := Lib.hid (by have := hb4.size; simp at this; omega)
                       obtain ⟨hx0, hx1, hx2⟩ := act_cells x (hb4.mono (by simp))
                       have HT4 := Lib.hid (HT.out.block HO4.out (Nat.le_refl _) HZ4.out)
                       clear hb4)
                    | fail)

                  go_roundw
                  case rel => exact ⟨k + 1, L, _, by have := HKn.out; omega, by have := HKn.out; omega, by go_num, HT4.out.head0.mono (by omega)⟩
                  case measure => have := HKn.out; simp [intOf]; omega
          · 
            by_cases c0 : x.kind = 0
            · have d0 : (x.kind == 0) = true := by simpa using c0
              clear c0
              go_wp2_with (first
                | (go_at_call 18; refine (HLg.out _).mono ?_; rintro e w4 ⟨rfl, hb4⟩
                   have HO4 : Hid (Below wr.heap.size wr w4) := Lib.hid (((Below.refl _ _).alloc (Nat.le_refl _) _).trans (hb4.mono (by simp)))
                   have HZ4 : Hid (wr.heap.size < w4.heap.size) := Lib.hid (by have := hb4.size; simp at this; omega)
                   obtain ⟨hx0, hx1, hx2⟩ := act_cells x (hb4.mono (by simp))
                   have HT4 := Lib.hid (HT.out.block HO4.out (Nat.le_refl _) HZ4.out)
                   clear hb4)
                | fail)
              have HT4d := Lib.hid (HT4.out.below (Below.refl _ _).drew)
              have hh := HT4.out.hd
              have hk9 : 2 + 2 * (k : Int) ≤ 200 := by have := HKn.out; omega
              obtain ⟨hh1, hh2, hh3, hh4⟩ := hh
              have hy2 : w4.drew.cell? ⟨wr.heap.size, 2, none⟩ = some (.string x.s) := hx2
              go_region_held3 (fun w' => w'.cell? ⟨wr.heap.size, 2, none⟩ = some (.string x.s))
                (first
                  | exact hy2
                  | exact hz72
                  | exact hz52
                  | exact hz62)
                (first
                  | (go_at_call 11; with_reducible refine (HT4d.out.appA (by omega) x.s).mono ?_; rintro e w5 ⟨rfl, hT5⟩
                     have HT5 := Lib.hid hT5
                     have hz52 : w5.cell? ⟨wr.heap.size, 2, none⟩ = some (.string x.s) := (HT5.out.cell 2).trans hx2
                     clear hT5)
                  | (go_at_call 11; with_reducible refine (HT4d.out.appC (by omega) x.s).mono ?_; rintro e w6 ⟨rfl, hT6⟩
                     have HT6 := Lib.hid hT6
                     have hz62 : w6.cell? ⟨wr.heap.size, 2, none⟩ = some (.string x.s) := (HT6.out.cell 2).trans hx2
                     clear hT6)
                  | (go_at_call 11; with_reducible refine (HT5.out.appC (by omega) x.s).mono ?_; rintro e w7 ⟨rfl, hT7⟩
                     have HT7 := Lib.hid hT7
                     have hz72 : w7.cell? ⟨wr.heap.size, 2, none⟩ = some (.string x.s) := (HT7.out.cell 2).trans hx2
                     clear hT7)
                  | (go_at_call 11; with_reducible refine (HT6.out.appA (by omega) x.s).mono ?_; rintro e w7 ⟨rfl, hT7⟩
                     have HT7 := Lib.hid hT7
                     have hz72 : w7.cell? ⟨wr.heap.size, 2, none⟩ = some (.string x.s) := (HT7.out.cell 2).trans hx2
                     clear hT7))
              all_goals (
                generalize hL7 : M.appL (M.appR (r + 2) L x.s) L x.s = L7 at HT7
                clear hL7
                obtain ⟨hP1, hP3, hH1, hH3, hT1, hT3, hlen⟩ := HT7.out.tells (by have := HKn.out; omega)
                have HP1 := Lib.hid hP1
                have HP3 := Lib.hid hP3
                have HH1 := Lib.hid hH1
                have HH3 := Lib.hid hH3
                have HT1 := Lib.hid hT1
                have HT3 := Lib.hid hT3
                have HLn := Lib.hid hlen
                clear hP1 hP3 hH1 hH3 hT1 hT3 hlen
                go_wp2_with (first
                  | (go_at_call 15; with_reducible refine (HP1.out _ (Below.refl _ _)).mono ?_; rintro e w8 ⟨aR, cR, rfl, hrw, hb8, _⟩
                     have HB8 := Lib.hid hb8
                     have HRw := Lib.hid hrw
                     clear hb8 hrw)
                  | (go_at_call 15; with_reducible refine (HP3.out _ HB8.out).mono ?_; rintro e w9 ⟨aR3, cR3, rfl, hrw3, hb9, hb98⟩
                     have HB9 := Lib.hid hb9
                     have HSm := Lib.hid (same_yes w9 aR aR3 L7.rs.length cR cR3 (L7.rs.map (·.s)) (c_row (row_below (row_c HRw.out) hb98 (Nat.le_refl _))) hrw3 HLn.out)
                     clear hb9 hrw3 hb98)
                  | (go_at_call 14; with_reducible refine HSm.out.mono ?_; rintro e w10 ⟨rfl, i10, hw10⟩
                     have HB10 : Hid (Below w7.heap.size w7 w10) := Lib.hid (by rw [hw10]; exact below_dn HB9.out _)
                     clear hw10)
                  | (go_at_call 13; with_reducible refine (HH1.out _ HB10.out).mono ?_; rintro e w11 ⟨rfl, hb11⟩; have HB11 := Lib.hid hb11; clear hb11)
                  | (go_at_call 13; with_reducible refine (HH3.out _ HB11.out).mono ?_; rintro e w12 ⟨rfl, hb12⟩; have HB12 := Lib.hid hb12; clear hb12)
                  | (go_at_call 23; with_reducible refine (HT1.out _ HB12.out).mono ?_; rintro e w13 ⟨rfl, hb13⟩; have HB13 := Lib.hid hb13; clear hb13)
                  | (go_at_call 23; with_reducible refine (HT3.out _ HB13.out).mono ?_; rintro e w14 ⟨rfl, hb14⟩; have HB14 := Lib.hid hb14; clear hb14))

                go_roundw
                case rel => exact ⟨k + 1, L7, L2, by have := HKn.out; omega, by have := HKn.out; omega, by go_num, (HT7.out.head0.below HB14.out).mono (by omega)⟩
                case measure => have := HKn.out; simp [intOf]; omega
              )
            · have d0 : (x.kind == 0) = false := by simpa using c0
              clear c0
              by_cases c1 : x.kind = 1
              · have d1 : (x.kind == 1) = true := by simpa using c1
                clear c1
                go_wp2_with (first
                  | (go_at_call 18; refine (HLg.out _).mono ?_; rintro e w4 ⟨rfl, hb4⟩
                     have HO4 : Hid (Below wr.heap.size wr w4) := Lib.hid (((Below.refl _ _).alloc (Nat.le_refl _) _).trans (hb4.mono (by simp)))
                     have HZ4 : Hid (wr.heap.size < w4.heap.size) := Lib.hid (by have := hb4.size; simp at this; omega)
                     obtain ⟨hx0, hx1, hx2⟩ := act_cells x (hb4.mono (by simp))
                     have HT4 := Lib.hid (HT.out.block HO4.out (Nat.le_refl _) HZ4.out)
                     clear hb4)
                  | (go_at_call 19; with_reducible refine HT4.out.syncA.mono ?_; rintro e w5 ⟨rfl, hT5⟩; have HT5 := Lib.hid hT5; clear hT5)
                  | (go_at_call 19; with_reducible refine HT5.out.syncC.mono ?_; rintro e w7 ⟨rfl, hT7⟩; have HT7 := Lib.hid hT7; clear hT7
                     obtain ⟨hP1, hP3, hH1, hH3, hT1, hT3, hlen⟩ := HT7.out.tells (by have := HKn.out; omega)
                     have HP1 := Lib.hid hP1
                     have HP3 := Lib.hid hP3
                     have HH1 := Lib.hid hH1
                     have HH3 := Lib.hid hH3
                     have HT1 := Lib.hid hT1
                     have HT3 := Lib.hid hT3
                     have HLn := Lib.hid hlen
                     clear hP1 hP3 hH1 hH3 hT1 hT3 hlen)
                  | (go_at_call 15; with_reducible refine (HP1.out _ (Below.refl _ _)).mono ?_; rintro e w8 ⟨aR, cR, rfl, hrw, hb8, _⟩
                     have HB8 := Lib.hid hb8
                     have HRw := Lib.hid hrw
                     clear hb8 hrw)
                  | (go_at_call 15; with_reducible refine (HP3.out _ HB8.out).mono ?_; rintro e w9 ⟨aR3, cR3, rfl, hrw3, hb9, hb98⟩
                     have HB9 := Lib.hid hb9
                     have HSm := Lib.hid (same_yes w9 aR aR3 L.rs.length cR cR3 (L.rs.map (·.s)) (c_row (row_below (row_c HRw.out) hb98 (Nat.le_refl _))) hrw3 HLn.out)
                     clear hb9 hrw3 hb98)
                  | (go_at_call 14; with_reducible refine HSm.out.mono ?_; rintro e w10 ⟨rfl, i10, hw10⟩
                     have HB10 : Hid (Below w7.heap.size w7 w10) := Lib.hid (by rw [hw10]; exact below_dn HB9.out _)
                     clear hw10)
                  | (go_at_call 13; with_reducible refine (HH1.out _ HB10.out).mono ?_; rintro e w11 ⟨rfl, hb11⟩; have HB11 := Lib.hid hb11; clear hb11)
                  | (go_at_call 13; with_reducible refine (HH3.out _ HB11.out).mono ?_; rintro e w12 ⟨rfl, hb12⟩; have HB12 := Lib.hid hb12; clear hb12)
                  | (go_at_call 23; with_reducible refine (HT1.out _ HB12.out).mono ?_; rintro e w13 ⟨rfl, hb13⟩; have HB13 := Lib.hid hb13; clear hb13)
                  | (go_at_call 23; with_reducible refine (HT3.out _ HB13.out).mono ?_; rintro e w14 ⟨rfl, hb14⟩; have HB14 := Lib.hid hb14; clear hb14))

                go_roundw
                case rel => exact ⟨k + 1, L, L2, by have := HKn.out; omega, by have := HKn.out; omega, by go_num, (HT7.out.head0.below HB14.out).mono (by omega)⟩
                case measure => have := HKn.out; simp [intOf]; omega
              · have d1 : (x.kind == 1) = false := by simpa using c1
                clear c1
                by_cases c2 : x.kind = 2
                · have d2 : (x.kind == 2) = true := by simpa using c2
                  clear c2
                  go_wp2_with (first
                    | (go_at_call 18; refine (HLg.out _).mono ?_; rintro e w4 ⟨rfl, hb4⟩
                       have HO4 : Hid (Below wr.heap.size wr w4) := Lib.hid (((Below.refl _ _).alloc (Nat.le_refl _) _).trans (hb4.mono (by simp)))
                       have HZ4 : Hid (wr.heap.size < w4.heap.size) := Lib.hid (by have := hb4.size; simp at this; omega)
                       obtain ⟨hx0, hx1, hx2⟩ := act_cells x (hb4.mono (by simp))
                       have HT4 := Lib.hid (HT.out.block HO4.out (Nat.le_refl _) HZ4.out)
                       clear hb4)
                    | fail)
                  have HT4d := Lib.hid (HT4.out.below (Below.refl _ _).drew)
                  have hh := HT4.out.hd
                  have hk9 : 2 + 2 * (k : Int) ≤ 200 := by have := HKn.out; omega
                  obtain ⟨hh1, hh2, hh3, hh4⟩ := hh
                  have hy1 : w4.drew.cell? ⟨wr.heap.size, 1, none⟩ = some (.int .i64 x.i) := hx1
                  have HxI : Hid (IntKind.i64.wrap (L.head + (m : Int)) = L.head + (m : Int)) := Lib.hid (by simp [IntKind.wrap, IntKind.bits, IntKind.signed]; omega)
                  go_region_held3 (fun w' => w'.cell? ⟨wr.heap.size, 1, none⟩ = some (.int .i64 x.i))
                    (first
                      | exact hy1
                      | exact hz71
                      | exact hz51
                      | exact hz61)
                    (first
                      | (go_at_call 13; with_reducible refine HT4d.out.headA.mono ?_; rintro e w' ⟨rfl, rfl⟩)
                      | (go_at_call 13; with_reducible refine HT4d.out.headC.mono ?_; rintro e w' ⟨rfl, rfl⟩)
                      | (go_at_call 13; with_reducible refine HT5.out.headC.mono ?_; rintro e w' ⟨rfl, rfl⟩)
                      | (go_at_call 13; with_reducible refine HT6.out.headA.mono ?_; rintro e w' ⟨rfl, rfl⟩)
                      | (go_at_call 12; with_reducible refine (HT4d.out.trimA (by omega) m (x := IntKind.i64.wrap (L.head + (m : Int))) HxI.out).mono ?_; rintro e w5 ⟨rfl, hT5⟩
                         have HT5 := Lib.hid hT5
                         have hz51 : w5.cell? ⟨wr.heap.size, 1, none⟩ = some (.int .i64 x.i) := (HT5.out.cell 1).trans hx1
                         clear hT5)
                      | (go_at_call 12; with_reducible refine (HT4d.out.trimC (by omega) m (x := IntKind.i64.wrap (L.head + (m : Int))) HxI.out).mono ?_; rintro e w6 ⟨rfl, hT6⟩
                         have HT6 := Lib.hid hT6
                         have hz61 : w6.cell? ⟨wr.heap.size, 1, none⟩ = some (.int .i64 x.i) := (HT6.out.cell 1).trans hx1
                         clear hT6)
                      | (go_at_call 12; with_reducible refine (HT5.out.trimC (by omega) m (x := IntKind.i64.wrap (L.head + (m : Int))) HxI.out).mono ?_; rintro e w7 ⟨rfl, hT7⟩
                         have HT7 := Lib.hid hT7
                         have hz71 : w7.cell? ⟨wr.heap.size, 1, none⟩ = some (.int .i64 x.i) := (HT7.out.cell 1).trans hx1
                         clear hT7)
                      | (go_at_call 12; with_reducible refine (HT6.out.trimA (by omega) m (x := IntKind.i64.wrap (L.head + (m : Int))) HxI.out).mono ?_; rintro e w7 ⟨rfl, hT7⟩
                         have HT7 := Lib.hid hT7
                         have hz71 : w7.cell? ⟨wr.heap.size, 1, none⟩ = some (.int .i64 x.i) := (HT7.out.cell 1).trans hx1
                         clear hT7))
                  all_goals (
                    generalize hL7 : M.cutL L m = L7 at HT7
                    clear hL7
                    obtain ⟨hP1, hP3, hH1, hH3, hT1, hT3, hlen⟩ := HT7.out.tells (by have := HKn.out; omega)
                    have HP1 := Lib.hid hP1
                    have HP3 := Lib.hid hP3
                    have HH1 := Lib.hid hH1
                    have HH3 := Lib.hid hH3
                    have HT1 := Lib.hid hT1
                    have HT3 := Lib.hid hT3
                    have HLn := Lib.hid hlen
                    clear hP1 hP3 hH1 hH3 hT1 hT3 hlen
                    go_wp2_with (first
                      | (go_at_call 15; with_reducible refine (HP1.out _ (Below.refl _ _)).mono ?_; rintro e w8 ⟨aR, cR, rfl, hrw, hb8, _⟩
                         have HB8 := Lib.hid hb8
                         have HRw := Lib.hid hrw
                         clear hb8 hrw)
                      | (go_at_call 15; with_reducible refine (HP3.out _ HB8.out).mono ?_; rintro e w9 ⟨aR3, cR3, rfl, hrw3, hb9, hb98⟩
                         have HB9 := Lib.hid hb9
                         have HSm := Lib.hid (same_yes w9 aR aR3 L7.rs.length cR cR3 (L7.rs.map (·.s)) (c_row (row_below (row_c HRw.out) hb98 (Nat.le_refl _))) hrw3 HLn.out)
                         clear hb9 hrw3 hb98)
                      | (go_at_call 14; with_reducible refine HSm.out.mono ?_; rintro e w10 ⟨rfl, i10, hw10⟩
                         have HB10 : Hid (Below w7.heap.size w7 w10) := Lib.hid (by rw [hw10]; exact below_dn HB9.out _)
                         clear hw10)
                      | (go_at_call 13; with_reducible refine (HH1.out _ HB10.out).mono ?_; rintro e w11 ⟨rfl, hb11⟩; have HB11 := Lib.hid hb11; clear hb11)
                      | (go_at_call 13; with_reducible refine (HH3.out _ HB11.out).mono ?_; rintro e w12 ⟨rfl, hb12⟩; have HB12 := Lib.hid hb12; clear hb12)
                      | (go_at_call 23; with_reducible refine (HT1.out _ HB12.out).mono ?_; rintro e w13 ⟨rfl, hb13⟩; have HB13 := Lib.hid hb13; clear hb13)
                      | (go_at_call 23; with_reducible refine (HT3.out _ HB13.out).mono ?_; rintro e w14 ⟨rfl, hb14⟩; have HB14 := Lib.hid hb14; clear hb14))

                    go_roundw
                    case rel => exact ⟨k + 1, L7, L2, by have := HKn.out; omega, by have := HKn.out; omega, by go_num, (HT7.out.head0.below HB14.out).mono (by omega)⟩
                    case measure => have := HKn.out; simp [intOf]; omega
                  )
                · have d2 : (x.kind == 2) = false := by simpa using c2
                  clear c2
                  go_wp2_with (first
                    | (go_at_call 18; refine (HLg.out _).mono ?_; rintro e w4 ⟨rfl, hb4⟩
                       have HO4 : Hid (Below wr.heap.size wr w4) := Lib.hid (((Below.refl _ _).alloc (Nat.le_refl _) _).trans (hb4.mono (by simp)))
                       have HZ4 : Hid (wr.heap.size < w4.heap.size) := Lib.hid (by have := hb4.size; simp at this; omega)
                       obtain ⟨hx0, hx1, hx2⟩ := act_cells x (hb4.mono (by simp))
                       have HT4 := Lib.hid (HT.out.block HO4.out (Nat.le_refl _) HZ4.out)
                       obtain ⟨hP1, hP3, hH1, hH3, hT1, hT3, hlen⟩ := HT4.out.tells (by have := HKn.out; omega)
                       have HP1 := Lib.hid hP1
                       have HP3 := Lib.hid hP3
                       have HH1 := Lib.hid hH1
                       have HH3 := Lib.hid hH3
                       have HT1 := Lib.hid hT1
                       have HT3 := Lib.hid hT3
                       have HLn := Lib.hid hlen
                       clear hP1 hP3 hH1 hH3 hT1 hT3 hlen
                       clear hb4)
                    | (go_at_call 15; with_reducible refine (HP1.out _ (Below.refl _ _)).mono ?_; rintro e w8 ⟨aR, cR, rfl, hrw, hb8, _⟩
                       have HB8 := Lib.hid hb8
                       have HRw := Lib.hid hrw
                       clear hb8 hrw)
                    | (go_at_call 15; with_reducible refine (HP3.out _ HB8.out).mono ?_; rintro e w9 ⟨aR3, cR3, rfl, hrw3, hb9, hb98⟩
                       have HB9 := Lib.hid hb9
                       have HSm := Lib.hid (same_yes w9 aR aR3 L.rs.length cR cR3 (L.rs.map (·.s)) (c_row (row_below (row_c HRw.out) hb98 (Nat.le_refl _))) hrw3 HLn.out)
                       clear hb9 hrw3 hb98)
                    | (go_at_call 14; with_reducible refine HSm.out.mono ?_; rintro e w10 ⟨rfl, i10, hw10⟩
                       have HB10 : Hid (Below w4.heap.size w4 w10) := Lib.hid (by rw [hw10]; exact below_dn HB9.out _)
                       clear hw10)
                    | (go_at_call 13; with_reducible refine (HH1.out _ HB10.out).mono ?_; rintro e w11 ⟨rfl, hb11⟩; have HB11 := Lib.hid hb11; clear hb11)
                    | (go_at_call 13; with_reducible refine (HH3.out _ HB11.out).mono ?_; rintro e w12 ⟨rfl, hb12⟩; have HB12 := Lib.hid hb12; clear hb12)
                    | (go_at_call 23; with_reducible refine (HT1.out _ HB12.out).mono ?_; rintro e w13 ⟨rfl, hb13⟩; have HB13 := Lib.hid hb13; clear hb13)
                    | (go_at_call 23; with_reducible refine (HT3.out _ HB13.out).mono ?_; rintro e w14 ⟨rfl, hb14⟩; have HB14 := Lib.hid hb14; clear hb14))

                  go_roundw
                  case rel => exact ⟨k + 1, L, L2, by have := HKn.out; omega, by have := HKn.out; omega, by go_num, (HT4.out.head0.below HB14.out).mono (by omega)⟩
                  case measure => have := HKn.out; simp [intOf]; omega

set_option maxRecDepth 100000 in
theorem lifted (os : Os) (started : os.Started) (H : Type) (enc : TypeId × Value → H) :
    ReturnsInHanded {} Try.checked os 7 .any (Rows.logTwoSpec.pre6 enc Try.prog Try.f7 Rows.logTwoRow.domain false) (Rows.logTwoSpec.post enc Try.prog Try.f7 false true false false) := by
  refine returnsInHanded_of_change (C := Try.checked) own started (by kernel_rfl) Try.func7
    (ChangeSpec.witness6 (enc := enc) (C := Try.checked) false ⟨#[], #[.int .u8 0, .slice none 0 0], []⟩ 8 (by kernel_rfl) (by kernel_rfl) (by kernel_rfl) (by kernel_rfl)) ?_
  intro W base args ds gs before hval0 hW hcnd _
  have hval : ∀ (j : Nat) t v, Try.f7.params[j]? = some t → args[j]? = some v → Value.okWide Try.prog W .any base t v := hval0
  have hW' := hW
  obtain ⟨p, q, hA0, hV, rfl, hfz, hnd⟩ := hW
  have hA : DataW.TrodAll enc Try.prog W 0 (fun _ => true) true Try.f7.params.toList args.toList ds p := hA0
  rw [Try.params7] at hA hval
  obtain ⟨v0, vs0, d0, ds0, p0, q0, hargs, rfl, rfl, h0, r0'⟩ := trodAll_cons hA
  obtain ⟨v1, vs1, d1, ds1, p1, q1, rfl, rfl, rfl, h1, r1'⟩ := trodAll_cons r0'
  obtain ⟨rfl, rfl, rfl⟩ := trodAll_nil r1'
  obtain rfl : args = #[v0, v1] := by cases args; simp_all
  obtain ⟨rfl, rfl⟩ := trodVars_none hV
  obtain ⟨x0, rfl, rfl, rfl, w0⟩ := open_int Try.underlying5 (hval 0 5 v0 rfl rfl) h0
  have k1 := h1
  have lt1 : ∀ x ∈ p1, x.block < W.heap.size := by obtain ⟨m, hm⟩ := k1; exact DataW.trod_lt m _ _ _ hm
  obtain ⟨a1, n1, c1, l1, rfl, w1⟩ := open_lot h1 (okWide_slice Try.underlying37 (hval 1 37 v1 rfl rfl))
  clear hA0 hval0
  refine (walk x0 a1 n1 c1 l1 W w0 w1).mono fun e W' ⟨he, bel⟩ => ?_
  subst he
  exact ⟨_, rfl, _, _, _, [], _, [], hW', trodAll_mk1 (shut_bool Try.underlying4 _), (trodAll_cons_mk (shut_int Try.underlying5 w0) (trodAll_cons_mk (Below.trod laidOut (by kernel_rfl) (of_decide_eq_true (by kernel_rfl)) k1 bel lt1) trodAll_mk0)), rfl, bel.frame _, fun h => by cases h⟩

theorem over : Rows.logTwoRow.holds Try.pinned (OpenSpec.ofChange Rows.logTwoSpec) :=
  OpenClaim.holds_of_wide 7 Try.f7 rfl rfl rfl rfl rfl rfl rfl ⟨rfl, rfl, rfl, rfl, rfl⟩ rfl rfl rfl rfl rfl (by kernel_rfl) Try.func7 (by kernel_rfl)
    (of_decide_eq_true (by kernel_rfl)) (by unfold Func.isWrapper; first | (rw [if_pos (by decide +kernel)]; kernel_rfl) | (rw [if_neg (by decide +kernel)]; exact ⟨rfl, rfl⟩))
    (fun os started H enc _ => lifted os started H enc)

/-- the statement -/
theorem proved : Rows.LogTwoSaid := over
#print axioms proved
end Go.Proofs.Ytbmgaopdahlkkaa.logTwo
