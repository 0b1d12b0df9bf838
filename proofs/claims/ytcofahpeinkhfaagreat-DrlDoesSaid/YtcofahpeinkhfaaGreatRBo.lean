/-
  Both lists at once: Mark and Clear of both; what stays while an act is done.
-/
import Derived.Test.YtcofahpeinkhfaaGreatJRL
import Derived.Test.YtcofahpeinkhfaaGreatJDRef
import Derived.Test.YtcofahpeinkhfaaGreatLActs
import Derived.Test.YtcofahpeinkhfaaGreatDrl5
import Derived.Laws.IdiomStrings
import Derived.BigQuiet
namespace Go.Proofs.YtcofahpeinkhfaaGreat
open Go.RowKit
set_option linter.unusedVariables false
set_option linter.unusedSimpArgs false
set_option maxRecDepth 20000

/-- a put by the list's cell -/
theorem ld_put {w w' : World} {dB sB mB n lB cB a b bl : Nat} {d : M.Dv} {c : M.Cl} (h : LD w dB sB mB n d lB cB a b bl c) (t : ByteArray) (ht : t.size ≤ 100)
    (hd : DevAt w' dB sB mB n (M.puD n d a b c t)) (hc : CellAt w' cB dB a b (M.puC n d a b c t)) (hb : But [dB, sB, mB, cB] w w') : LD w' dB sB mB n (M.puD n d a b c t) lB cB a b bl (M.puC n d a b c t) := by
  have hli := h.li.but hb (by have := h.ld; simp; omega)
  rcases M.pu_ways n d a b c t h.gn.2 with ⟨e1, e2, e3⟩ | ⟨e1, e2⟩
  · rw [e2] at hc ⊢
    exact ⟨hd, hc, hli, h.cd, h.ld, by simp only; omega, ⟨by have := h.gn; simp only; omega, e3⟩, ht, h.bl1, h.ab⟩
  · rw [e2] at hc ⊢
    exact ⟨hd, hc, hli, h.cd, h.ld, h.o1, h.gn, h.tx, h.bl1, h.ab⟩

/-- what an act does to both lists -/
def Both (n : Nat) (d : M.Dv) (a b bl : Nat) (c : M.Cl) (f g : Nat) (args : List Value) (e : Int) (d' : M.Dv) (c' : M.Cl) : Prop :=
  (∀ w dB sB mB lB cB, LD w dB sB mB n d lB cB a b bl c → Calls Tryz.prog f (.pointer (some ⟨lB, 0, none⟩) :: args).toArray w fun e1 w' => e1 = .returned (.int .i64 e) ∧ LD w' dB sB mB n d' lB cB a b bl c' ∧ But [dB, sB, mB, cB] w w') ∧
  (∀ w rB LB kB lR, RD w rB LB n d kB lR a b bl c → Calls Tryz.prog g (.pointer (some ⟨lR, 0, none⟩) :: args).toArray w fun e1 w' => e1 = .returned (.int .i64 e) ∧ RD w' rB LB n d' kB lR a b bl c' ∧ But [rB, LB, kB, lR] w w')

theorem mark_both (n : Nat) (d : M.Dv) (a b bl : Nat) (c : M.Cl) (hbl : bl ≤ 32) (i : Int) : ∃ e d' c', Both n d a b bl c 10 11 [.int .i64 i] e d' c' := by
  by_cases hi : 0 ≤ i ∧ i < (bl : Int)
  · obtain ⟨k, rfl⟩ := Int.eq_ofNat_of_zero_le hi.1
    have hk : k < bl := by omega
    cases hbit : (D.marks bl c.text).testBit (k / 4) with
    | true =>
      refine ⟨0, d, c, fun w dB sB mB lB cB h => (mark_has w h.li h.cel h.bl1 h.tx k hk hbit).mono ?_, fun w rB LB kB lR h => (rmark_has w h k hk hbit).mono ?_⟩
      · rintro e w' ⟨rfl, hb⟩
        exact ⟨rfl, h.below hb, (But.of_below hb).mono (by simp)⟩
      · rintro e w' ⟨rfl, hb⟩
        exact ⟨rfl, h.below hb, (But.of_below hb).mono (by simp)⟩
    | false =>
      refine ⟨M.puE n d a b c (str (B.M.txt (D.regs bl) (B.M.put (D.marks bl c.text) (k / 4)))), M.puD n d a b c (str (B.M.txt (D.regs bl) (B.M.put (D.marks bl c.text) (k / 4)))), M.puC n d a b c (str (B.M.txt (D.regs bl) (B.M.put (D.marks bl c.text) (k / 4)))), fun w dB sB mB lB cB h => (mark_put w h k hk hbit _ rfl).mono ?_, fun w rB LB kB lR h => (rmark_put w h k hk hbit _ rfl).mono ?_⟩
      · rintro e w' ⟨rfl, hd, hc, hb⟩
        exact ⟨rfl, ld_put h _ (D.txt_small hbl) hd hc hb, hb⟩
      · rintro e w' ⟨rfl, hd, hb⟩
        exact ⟨rfl, hd, hb⟩
  · refine ⟨2, d, c, fun w dB sB mB lB cB h => (mark_out w h.li i hi).mono ?_, fun w rB LB kB lR h => (rmark_out w h i hi).mono ?_⟩
    · rintro e w' ⟨rfl, rfl⟩
      exact ⟨rfl, h, But.refl _ _⟩
    · rintro e w' ⟨rfl, rfl⟩
      exact ⟨rfl, h, But.refl _ _⟩

theorem clear_both (n : Nat) (d : M.Dv) (a b bl : Nat) (c : M.Cl) (hbl : bl ≤ 32) : ∃ e d' c', Both n d a b bl c 12 13 [] e d' c' := by
  by_cases hz : D.marks bl c.text = 0
  · refine ⟨0, d, c, fun w dB sB mB lB cB h => (clear_none w h.li h.cel h.bl1 h.tx hz).mono ?_, fun w rB LB kB lR h => (rclear_none w h hz).mono ?_⟩
    · rintro e w' ⟨rfl, hb⟩
      exact ⟨rfl, h.below hb, (But.of_below hb).mono (by simp)⟩
    · rintro e w' ⟨rfl, hb⟩
      exact ⟨rfl, h.below hb, (But.of_below hb).mono (by simp)⟩
  · refine ⟨M.puE n d a b c (str (B.M.txt (D.regs bl) 0)), M.puD n d a b c (str (B.M.txt (D.regs bl) 0)), M.puC n d a b c (str (B.M.txt (D.regs bl) 0)), fun w dB sB mB lB cB h => (clear_put w h hz _ rfl).mono ?_, fun w rB LB kB lR h => (rclear_put w h hz _ rfl).mono ?_⟩
    · rintro e w' ⟨rfl, hd, hc, hb⟩
      exact ⟨rfl, ld_put h _ (D.txt_small hbl) hd hc hb, hb⟩
    · rintro e w' ⟨rfl, hd, hb⟩
      exact ⟨rfl, hd, hb⟩

theorem LD.dev' {w w' : World} {dB sB mB n lB cB a b bl : Nat} {d d' : M.Dv} {c : M.Cl} (h : LD w dB sB mB n d lB cB a b bl c) (hd : DevAt w' dB sB mB n d') {l : List Nat} (hb : But l w w') (hl : ∀ y ∈ l, y ∈ [dB, sB, mB] := by simp) : LD w' dB sB mB n d' lB cB a b bl c :=
  have hb := hb.mono hl
  ⟨hd, h.cel.but hb (by have := h.cd; simp; omega), h.li.but hb (by have := h.ld; simp; omega), h.cd, h.ld, h.o1, h.gn, h.tx, h.bl1, h.ab⟩
theorem RD.dev' {w w' : World} {rB LB n kB lR a b bl : Nat} {d d' : M.Dv} {c : M.Cl} (h : RD w rB LB n d kB lR a b bl c) (hd : RefAt w' rB LB n d') {l : List Nat} (hb : But l w w') (hl : ∀ y ∈ l, y ∈ [rB, LB] := by simp) : RD w' rB LB n d' kB lR a b bl c :=
  have hb := hb.mono hl
  ⟨hd, by obtain ⟨z, h1, h2⟩ := h.rc; exact ⟨z, h1, h2.but hb (by have := h.kd; simp; omega)⟩, h.li.but hb (by have := h.ld; simp; omega), h.kd, h.ld, h.gn, h.tx, h.bl1, h.ab⟩

/-- an act in memory -/
structure XA (w : World) (P : Nat) (x : A) : Prop where
  c0 : w.cell? ⟨P, 0, none⟩ = some (.int .i64 x.kind)
  c1 : w.cell? ⟨P, 1, none⟩ = some (.int .i64 x.i)
  c2 : w.cell? ⟨P, 2, none⟩ = some (.string x.s)
  c3 : w.cell? ⟨P, 3, none⟩ = some (.slice x.aL x.k x.cL)
theorem XA.lt {w : World} {P : Nat} {x : A} (h : XA w P x) : P < w.heap.size := World.block_lt_of_cell? w _ h.c0
theorem XA.but {w w' : World} {P : Nat} {x : A} (h : XA w P x) {l : List Nat} (hb : But l w w') (hn : P ∉ l) : XA w' P x :=
  ⟨(hb.cell h.lt hn).trans h.c0, (hb.cell h.lt hn).trans h.c1, (hb.cell h.lt hn).trans h.c2, (hb.cell h.lt hn).trans h.c3⟩
theorem xa_new (w : World) (x : A) : XA (w.alloc (.cells #[.int .i64 x.kind, .int .i64 x.i, .string x.s, .slice x.aL x.k x.cL] 37)) w.heap.size x where
  c0 := by rw [World.cell?_alloc_mark]; rfl
  c1 := by rw [World.cell?_alloc_mark]; rfl
  c2 := by rw [World.cell?_alloc_mark]; rfl
  c3 := by rw [World.cell?_alloc_mark]; rfl

/-- all blocks that are written, and those that aren't -/
structure Ap (w0 wx : World) (L R : List Nat) (P : Nat) (x : A) : Prop where
  bel : Below w0.heap.size w0 wx
  gl : ∀ y ∈ L, w0.heap.size ≤ y
  gr : ∀ y ∈ R, w0.heap.size ≤ y
  ap : ∀ y ∈ L, y ∉ R
  xa : XA wx P x
  xl : P ∉ L
  xr : P ∉ R

theorem Ap.left {w0 wx wy : World} {L R : List Nat} {P : Nat} {x : A} (h : Ap w0 wx L R P x) {l : List Nat} (hb : But l wx wy) (hl : ∀ y ∈ l, y ∈ L) : Ap w0 wy L R P x :=
  ⟨h.bel.trans (hb.to_below (fun y hy => h.gl y (hl y hy)) h.bel.size), h.gl, h.gr, h.ap, h.xa.but hb (fun hp => h.xl (hl _ hp)), h.xl, h.xr⟩
theorem Ap.right {w0 wx wy : World} {L R : List Nat} {P : Nat} {x : A} (h : Ap w0 wx L R P x) {l : List Nat} (hb : But l wx wy) (hl : ∀ y ∈ l, y ∈ R) : Ap w0 wy L R P x :=
  ⟨h.bel.trans (hb.to_below (fun y hy => h.gr y (hl y hy)) h.bel.size), h.gl, h.gr, h.ap, h.xa.but hb (fun hp => h.xr (hl _ hp)), h.xl, h.xr⟩

theorem Ap.other {w0 wx wy : World} {L R : List Nat} {P : Nat} {x : A} (h : Ap w0 wx L R P x) {l : List Nat} (hb : But l wx wy) (hl : ∀ y ∈ l, y ∈ L ∨ y ∈ R) : XA wy P x := h.xa.but hb (fun hp => (hl _ hp).elim h.xl h.xr)

/-- the same without an act -/
structure Ap0 (w0 wx : World) (L R : List Nat) : Prop where
  bel : Below w0.heap.size w0 wx
  gl : ∀ y ∈ L, w0.heap.size ≤ y
  gr : ∀ y ∈ R, w0.heap.size ≤ y
  ap : ∀ y ∈ L, y ∉ R
theorem Ap.base {w0 wx : World} {L R : List Nat} {P : Nat} {x : A} (h : Ap w0 wx L R P x) : Ap0 w0 wx L R := ⟨h.bel, h.gl, h.gr, h.ap⟩
theorem Ap0.act {w0 wx wy : World} {L R : List Nat} {x : A} (h : Ap0 w0 wx L R) (hb : But [] wx wy) (hx : XA wy wx.heap.size x) (hl : ∀ y ∈ L, y < wx.heap.size) (hr : ∀ y ∈ R, y < wx.heap.size) : Ap w0 wy L R wx.heap.size x :=
  ⟨h.bel.trans (hb.to_below (by simp) h.bel.size), h.gl, h.gr, h.ap, hx, fun hp => Nat.lt_irrefl _ (hl _ hp), fun hp => Nat.lt_irrefl _ (hr _ hp)⟩
theorem Ap0.openL {w0 wx wy : World} {dB sB mB rB LB lB cB : Nat} (h : Ap0 w0 wx [dB, sB, mB] [rB, LB]) (hb : Below wx.heap.size wx wy) (h1 : wx.heap.size ≤ cB) (h2 : wx.heap.size ≤ lB) (g1 : rB < wx.heap.size) (g2 : LB < wx.heap.size) : Ap0 w0 wy [dB, sB, mB, cB, lB] [rB, LB] := by
  have g0 := h.bel.size
  have g6 := h.gl
  have g7 := h.ap
  simp only [List.mem_cons, List.not_mem_nil, or_false, forall_eq_or_imp, forall_eq, not_or] at g6 g7
  refine ⟨h.bel.trans (hb.mono g0), ?_, h.gr, ?_⟩
  · simp only [List.mem_cons, List.not_mem_nil, or_false, forall_eq_or_imp, forall_eq]; omega
  · simp only [List.mem_cons, List.not_mem_nil, or_false, forall_eq_or_imp, forall_eq, not_or]; omega
theorem Ap0.openR {w0 wx wy : World} {dB sB mB cB lB rB LB kB lR : Nat} (h : Ap0 w0 wx [dB, sB, mB, cB, lB] [rB, LB]) (hb : Below wx.heap.size wx wy) (h1 : wx.heap.size ≤ kB) (h2 : wx.heap.size ≤ lR) (g1 : dB < wx.heap.size) (g2 : sB < wx.heap.size) (g3 : mB < wx.heap.size) (g4 : cB < wx.heap.size) (g5 : lB < wx.heap.size) : Ap0 w0 wy [dB, sB, mB, cB, lB] [rB, LB, kB, lR] := by
  have g0 := h.bel.size
  have g6 := h.gr
  have g7 := h.ap
  simp only [List.mem_cons, List.not_mem_nil, or_false, forall_eq_or_imp, forall_eq, not_or] at g6 g7
  refine ⟨h.bel.trans (hb.mono g0), h.gl, ?_, ?_⟩
  · simp only [List.mem_cons, List.not_mem_nil, or_false, forall_eq_or_imp, forall_eq]; omega
  · simp only [List.mem_cons, List.not_mem_nil, or_false, forall_eq_or_imp, forall_eq, not_or]; omega

/-- both devices and both lists, and an act -/
structure Md (w0 wx : World) (dB sB mB rB LB lB cB kB lR n a b bl P : Nat) (x : A) (d : M.Dv) (c : M.Cl) (d2 : M.Dv) (c2 : M.Cl) : Prop where
  l : LD wx dB sB mB n d lB cB a b bl c
  r : RD wx rB LB n d2 kB lR a b bl c2
  ap : Ap w0 wx [dB, sB, mB, cB, lB] [rB, LB, kB, lR] P x

/-- both devices, and an act -/
structure Nd (w0 wx : World) (dB sB mB rB LB n P : Nat) (x : A) (d d2 : M.Dv) : Prop where
  l : DevAt wx dB sB mB n d
  r : RefAt wx rB LB n d2
  ap : Ap w0 wx [dB, sB, mB] [rB, LB] P x

section
variable {w0 wx wy : World} {dB sB mB rB LB lB cB kB lR n a b bl P : Nat} {x : A} {d d2 d' : M.Dv} {c c2 c' : M.Cl}
theorem Md.left (h : Md w0 wx dB sB mB rB LB lB cB kB lR n a b bl P x d c d2 c2) (hl : LD wy dB sB mB n d' lB cB a b bl c') {l : List Nat} (hb : But l wx wy) (hs : ∀ y ∈ l, y ∈ [dB, sB, mB, cB, lB] := by simp) : Md w0 wy dB sB mB rB LB lB cB kB lR n a b bl P x d' c' d2 c2 := by
  have hn : ∀ y ∈ [rB, LB, kB, lR], y ∉ l := fun y hy hyl => h.ap.ap y (hs y hyl) hy
  exact ⟨hl, h.r.but hb ⟨hn _ (by simp), hn _ (by simp), hn _ (by simp), hn _ (by simp)⟩, h.ap.left hb hs⟩
theorem Md.right (h : Md w0 wx dB sB mB rB LB lB cB kB lR n a b bl P x d c d2 c2) (hr : RD wy rB LB n d' kB lR a b bl c') {l : List Nat} (hb : But l wx wy) (hs : ∀ y ∈ l, y ∈ [rB, LB, kB, lR] := by simp) : Md w0 wy dB sB mB rB LB lB cB kB lR n a b bl P x d c d' c' := by
  have hn : ∀ y ∈ [dB, sB, mB, cB, lB], y ∉ l := fun y hy hyl => h.ap.ap y hy (hs y hyl)
  exact ⟨h.l.but hb (fun y hy => by
    refine ⟨?_, ?_, ?_, ?_, ?_⟩ <;> (rintro rfl; exact hn _ (by simp) hy)), hr, h.ap.right hb hs⟩
theorem Md.fresh (h : Md w0 wx dB sB mB rB LB lB cB kB lR n a b bl P x d c d2 c2) (hb : But [] wx wy) : Md w0 wy dB sB mB rB LB lB cB kB lR n a b bl P x d c d2 c2 := h.left (h.l.but hb (by simp)) hb (by simp)
theorem Md.dev (h : Md w0 wx dB sB mB rB LB lB cB kB lR n a b bl P x d c d2 c2) (hd : DevAt wy dB sB mB n d') {l : List Nat} (hb : But l wx wy) (hs : ∀ y ∈ l, y ∈ [dB, sB, mB] := by simp) : Md w0 wy dB sB mB rB LB lB cB kB lR n a b bl P x d' c d2 c2 :=
  h.left (h.l.dev' hd hb hs) hb (fun y hy => by have := hs y hy; simp at this ⊢; omega)
theorem Md.ref (h : Md w0 wx dB sB mB rB LB lB cB kB lR n a b bl P x d c d2 c2) (hd : RefAt wy rB LB n d') {l : List Nat} (hb : But l wx wy) (hs : ∀ y ∈ l, y ∈ [rB, LB] := by simp) : Md w0 wy dB sB mB rB LB lB cB kB lR n a b bl P x d c d' c2 :=
  h.right (h.r.dev' hd hb hs) hb (fun y hy => by have := hs y hy; simp at this ⊢; omega)
theorem Md.dv (h : Md w0 wx dB sB mB rB LB lB cB kB lR n a b bl P x d c d2 c2) : DevAt wx dB sB mB n d := h.l.dev
theorem Md.rf (h : Md w0 wx dB sB mB rB LB lB cB kB lR n a b bl P x d c d2 c2) : RefAt wx rB LB n d2 := h.r.rf
/-- what stays where the document's own list is written, and the other way round -/
theorem Md.other (h : Md w0 wx dB sB mB rB LB lB cB kB lR n a b bl P x d c d2 c2) (hb : But [rB, LB, kB, lR] wx wy) : LD wy dB sB mB n d lB cB a b bl c ∧ XA wy P x := by
  have hn := h.ap.ap
  refine ⟨h.l.but hb (fun y hy => ?_), h.ap.other hb (fun y hy => .inr hy)⟩
  refine ⟨?_, ?_, ?_, ?_, ?_⟩ <;> (rintro rfl; exact hn _ (by simp) hy)
theorem Md.other2 (h : Md w0 wx dB sB mB rB LB lB cB kB lR n a b bl P x d c d2 c2) (hb : But [dB, sB, mB, cB] wx wy) : RD wy rB LB n d2 kB lR a b bl c2 ∧ XA wy P x := by
  have hn := h.ap.ap
  have hq : ∀ y ∈ [rB, LB, kB, lR], y ∉ [dB, sB, mB, cB] := fun y hy hyl => hn y (by simp at hyl ⊢; omega) hy
  exact ⟨h.r.but hb ⟨hq _ (by simp), hq _ (by simp), hq _ (by simp), hq _ (by simp)⟩, h.ap.other hb (fun y hy => .inl (by simp at hy ⊢; omega))⟩
/-- the program's list opened anew -/
theorem Md.openL (h : Md w0 wx dB sB mB rB LB lB cB kB lR n a b bl P x d c d2 c2) {lB' cB' : Nat} (hl : LD wy dB sB mB n d lB' cB' a b bl c') (hb : Below wx.heap.size wx wy) (h1 : wx.heap.size ≤ cB') (h2 : wx.heap.size ≤ lB') : Md w0 wy dB sB mB rB LB lB' cB' kB lR n a b bl P x d c' d2 c2 := by
  have hr := h.r.below hb
  have hf := h.ap.left (But.of_below hb) (by simp)
  have g0 := h.ap.bel.size
  have g1 := h.r.rf.ltR
  have g2 := h.r.rf.lt
  have g3 := h.r.klt
  have g4 := h.r.li.lt
  have g5 := h.ap.xa.lt
  have g6 := h.ap.gl
  have g7 := h.ap.ap
  have g8 := h.ap.xl
  simp only [List.mem_cons, List.not_mem_nil, or_false, forall_eq_or_imp, forall_eq, not_or] at g6 g7 g8
  refine ⟨hl, hr, hf.bel, ?_, hf.gr, ?_, hf.xa, ?_, hf.xr⟩
  · simp only [List.mem_cons, List.not_mem_nil, or_false, forall_eq_or_imp, forall_eq]
    exact ⟨g6.1, g6.2.1, g6.2.2.1, by omega, by omega⟩
  · simp only [List.mem_cons, List.not_mem_nil, or_false, forall_eq_or_imp, forall_eq, not_or]
    exact ⟨g7.1, g7.2.1, g7.2.2.1, ⟨by omega, by omega, by omega, by omega⟩, ⟨by omega, by omega, by omega, by omega⟩⟩
  · simp only [List.mem_cons, List.not_mem_nil, or_false, not_or]
    exact ⟨g8.1, g8.2.1, g8.2.2.1, by omega, by omega⟩
/-- the document's own list opened anew -/
theorem Md.openR (h : Md w0 wx dB sB mB rB LB lB cB kB lR n a b bl P x d c d2 c2) {kB' lR' : Nat} (hr : RD wy rB LB n d2 kB' lR' a b bl c') (hb : Below wx.heap.size wx wy) (h1 : wx.heap.size ≤ kB') (h2 : wx.heap.size ≤ lR') : Md w0 wy dB sB mB rB LB lB cB kB' lR' n a b bl P x d c d2 c' := by
  have hl := h.l.below hb
  have hf := h.ap.left (But.of_below hb) (by simp)
  have g0 := h.ap.bel.size
  have g1 := h.l.dev.ltD
  have g2 := h.l.dev.lt
  have g3 := h.l.dev.pend.lt
  have g4 := h.l.cel.lt
  have gl := h.l.li.lt
  have g5 := h.ap.xa.lt
  have g6 := h.ap.gr
  have g7 := h.ap.ap
  have g8 := h.ap.xr
  simp only [List.mem_cons, List.not_mem_nil, or_false, forall_eq_or_imp, forall_eq, not_or] at g6 g7 g8
  refine ⟨hl, hr, hf.bel, hf.gl, ?_, ?_, hf.xa, hf.xl, ?_⟩
  · simp only [List.mem_cons, List.not_mem_nil, or_false, forall_eq_or_imp, forall_eq]
    exact ⟨g6.1, g6.2.1, by omega, by omega⟩
  · simp only [List.mem_cons, List.not_mem_nil, or_false, forall_eq_or_imp, forall_eq, not_or]
    refine ⟨⟨g7.1.1, g7.1.2.1, ?_, ?_⟩, ⟨g7.2.1.1, g7.2.1.2.1, ?_, ?_⟩, ⟨g7.2.2.1.1, g7.2.2.1.2.1, ?_, ?_⟩, ⟨g7.2.2.2.1.1, g7.2.2.2.1.2.1, ?_, ?_⟩, ⟨g7.2.2.2.2.1, g7.2.2.2.2.2.1, ?_, ?_⟩⟩ <;> omega
  · simp only [List.mem_cons, List.not_mem_nil, or_false, not_or]
    exact ⟨g8.1, g8.2.1, by omega, by omega⟩

theorem Nd.dev (h : Nd w0 wx dB sB mB rB LB n P x d d2) (hd : DevAt wy dB sB mB n d') {l : List Nat} (hb : But l wx wy) (hs : ∀ y ∈ l, y ∈ [dB, sB, mB] := by simp) : Nd w0 wy dB sB mB rB LB n P x d' d2 := by
  have hn : ∀ y ∈ [rB, LB], y ∉ l := fun y hy hyl => h.ap.ap y (hs y hyl) hy
  exact ⟨hd, h.r.but hb (hn _ (by simp)) (hn _ (by simp)), h.ap.left hb hs⟩
theorem Nd.ref (h : Nd w0 wx dB sB mB rB LB n P x d d2) (hr : RefAt wy rB LB n d') {l : List Nat} (hb : But l wx wy) (hs : ∀ y ∈ l, y ∈ [rB, LB] := by simp) : Nd w0 wy dB sB mB rB LB n P x d d' := by
  have hn : ∀ y ∈ [dB, sB, mB], y ∉ l := fun y hy hyl => h.ap.ap y hy (hs y hyl)
  exact ⟨h.l.but hb (hn _ (by simp)) (hn _ (by simp)) (hn _ (by simp)), hr, h.ap.right hb hs⟩
theorem Nd.fresh (h : Nd w0 wx dB sB mB rB LB n P x d d2) (hb : But [] wx wy) : Nd w0 wy dB sB mB rB LB n P x d d2 := h.dev (h.l.but hb (by simp) (by simp) (by simp)) hb (by simp)
theorem Nd.dv (h : Nd w0 wx dB sB mB rB LB n P x d d2) : DevAt wx dB sB mB n d := h.l
theorem Nd.rf (h : Nd w0 wx dB sB mB rB LB n P x d d2) : RefAt wx rB LB n d2 := h.r
end
theorem row_nat {w : World} {a : Option Addr} {m c : Nat} {l : List Nat} (h : B.Row w a m c (B.ints l)) {k : Nat} {x : Nat} (hx : l[k]? = some x) : ∃ b off, a = some ⟨b, off, none⟩ ∧ b < w.heap.size ∧ ∀ w', Below w.heap.size w w' → w'.cell? ⟨b, off + k, none⟩ = some (.int .i64 (x : Int)) := by
  have hk := (List.getElem?_eq_some_iff.1 hx).1
  obtain ⟨h1, h2, h3, h4⟩ := h
  have hl : (B.ints l).length = l.length := B.ints_length l
  rcases h4 with h4 | ⟨b, off, ha, hb, hc⟩
  · rw [h4] at hl; simp at hl; omega
  · refine ⟨b, off, ha, hb, fun w' hw => ?_⟩
    rw [hw.cell (by exact hb), hc k (by omega)]
    simp [B.ints, hx]

set_option maxHeartbeats 1000000 in
theorem ints_nat (w : World) (a1 : Option Addr) (c1 : Nat) (a2 : Option Addr) (c2 : Nat) (m : Nat) (l : List Nat) (h1 : B.Row w a1 m c1 (B.ints l)) (h2 : B.Row w a2 m c2 (B.ints l)) (hm : m ≤ 1000) :
    Calls Tryz.prog 21 #[.slice a1 m c1, .slice a2 m c2] w fun e w' => e = .returned (.bool true) ∧ Below w.heap.size w w' := by
  have hml : m = l.length := by rw [← h1.1]; exact B.ints_length l
  have H1 := Lib.hid h1
  have H2 := Lib.hid h2
  have Hml := Lib.hid hml
  clear h1 h2 hml
  go_enter Tryz.func21, Tryz.ntmps21
  go_wp2_with fail
  have HB0 := Lib.hid (Below.refl w.heap.size w)
  go_loopw [13] (fun t wr => ∃ k : Nat, k ≤ m ∧ t = .int .i64 k ∧ Below w.heap.size w wr) (fun t _ => m - (RowKit.intOf t).toNat)
  case atStart => exact ⟨0, by omega, rfl, HB0.out⟩
  case round =>
    obtain ⟨k, hk, rfl, hbw⟩ := hrel
    have HBw := Lib.hid hbw
    clear hbw HB0
    have hk0 : (0 : Int) ≤ (k : Int) := by omega
    by_cases hke : k = m
    · subst hke
      go_wp2_with fail
      go_ret
      exact ⟨rfl, HBw.out⟩
    · have hlt : (k : Int) < (m : Int) := by omega
      obtain ⟨x, hx⟩ : ∃ x, l[k]? = some x := ⟨_, List.getElem?_eq_getElem (by have := Hml.out; omega)⟩
      obtain ⟨b1, o1, rfl, hb1, hc1⟩ := row_nat H1.out hx
      obtain ⟨b2, o2, rfl, hb2, hc2⟩ := row_nat H2.out hx
      have hc1 := hc1 _ HBw.out
      have hc2 := hc2 _ HBw.out
      clear hx hke hb1 hb2
      go_wp2_with fail
      go_quiet (fail)
      have HBq : Hid (Below w.heap.size w (wr.drewN nq)) := Lib.hid ⟨HBw.out.os, HBw.out.tape, HBw.out.output, HBw.out.size, HBw.out.block⟩
      go_wp2_with fail
      go_roundw
      case rel => exact ⟨k + 1, by omega, by go_num, HBq.out⟩
      case measure => simp [RowKit.intOf]; omega

theorem str_size (l : List UInt8) : (str l).size = l.length := by
  show l.toArray.size = _
  simp
theorem conv_str (w : World) (l : List UInt8) (hl : l.length ≤ 1000) :
    ∃ cap w', (convert 9 47 (.string (str l))).run Tryz.prog w = .ok (.slice (some ⟨w.heap.size, 0, none⟩) l.length cap) w' ∧ Row w' (some ⟨w.heap.size, 0, none⟩) l.length cap (u8s l) ∧ Below w.heap.size w w' := by
  have hr := run_bytes_of_string (P := Tryz.prog) w 9 47 5 (str l) Tryz.underlying9 Tryz.underlying47 Tryz.underlying5
  rw [str_size] at hr
  refine ⟨_, _, hr, ⟨by rw [u8s_length], grownCap_ge _ _ _ _, grownCap_le_maxLen _ _ _ _ (by simp only [maxLen]; omega), .inr ⟨w.heap.size, 0, rfl, ?_, fun i hi => ?_⟩⟩, ?_⟩
  · show w.drew.heap.size < _
    simp
  · rw [Nat.zero_add]
    have h1 := World.cell?_alloc_mark w.drew (bytesRow (str l) (grownCap w l.length 0 5)) 5 ((bytesRow (str l) (grownCap w l.length 0 5)).size, (bytesRow (str l) (grownCap w l.length 0 5)).size + 1) i
    refine h1.trans ?_
    rw [bytesRow_at (str l) _ i (by show i < l.toArray.size; simpa using hi)]
    simp [u8s, u8, str, hi]
  · exact ((Below.refl w.heap.size w).drew).alloc (Nat.le_refl _) _
end Go.Proofs.YtcofahpeinkhfaaGreat
