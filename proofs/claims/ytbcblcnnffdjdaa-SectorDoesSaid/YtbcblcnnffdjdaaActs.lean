/-
  Acts as they lie in memory, and what an act makes of a device.
-/
import Derived.Test.YtbcblcnnffdjdaaAwake
namespace Go.Proofs.Ytbcblcnnffdjdaa
open Go.RowKit Go.Maps
set_option linter.unusedVariables false
set_option linter.unusedSimpArgs false
set_option maxRecDepth 20000

variable {dB sB mB n : Nat} {d : M.Dv}

/-- an act, with where its parts lie -/
structure A where
  kind : Int
  i : Int
  aB : Option Addr
  m : Nat
  c : Nat
  b : List UInt8
  aL : Option Addr
  k : Nat
  cL : Nat
  l : List (Int × Int)

def A.val (x : A) : Value := .agg #[.int .i64 x.kind, .int .i64 x.i, .slice x.aB x.m x.c, .slice x.aL x.k x.cL]
def A.cells (x : A) : Array Value := #[.int .i64 x.kind, .int .i64 x.i, .slice x.aB x.m x.c, .slice x.aL x.k x.cL]

structure A.Ok (w : World) (x : A) : Prop where
  row : Row w x.aB x.m x.c (u8s x.b)
  keep : KRow w x.aL x.k x.cL x.l
  k1 : -9223372036854775808 ≤ x.kind
  k2 : x.kind ≤ 9223372036854775807
  i1 : -9223372036854775808 ≤ x.i
  i2 : x.i ≤ 9223372036854775807

theorem A.Ok.len {w : World} {x : A} (h : x.Ok w) : x.m = x.b.length ∧ x.k = x.l.length := ⟨by rw [← h.row.1, u8s_length], h.keep.1.symm⟩
theorem A.Ok.but {w w' : World} {x : A} (h : x.Ok w) {l : List Nat} (hb : But l w w') (hl : ∀ y ∈ l, w.heap.size ≤ y) : x.Ok w' := ⟨row_but h.row hb (row_old h.row hl), krow_but h.keep hb (krow_old h.keep hl), h.k1, h.k2, h.i1, h.i2⟩

/-- acts that came in -/
def Acts (w : World) (a : Option Addr) (n c : Nat) (l : List A) : Prop :=
  l.length = n ∧ n ≤ c ∧ c ≤ maxLen ∧ (∀ x ∈ l, x.Ok w) ∧ (l = [] ∨ ∃ b off, a = some ⟨b, off, none⟩ ∧ b < w.heap.size ∧ ∀ k x, l[k]? = some x →
    w.cell? ⟨b, off + k * 4, none⟩ = some (.int .i64 x.kind) ∧ w.cell? ⟨b, off + k * 4 + 1, none⟩ = some (.int .i64 x.i) ∧ w.cell? ⟨b, off + k * 4 + 2, none⟩ = some (.slice x.aB x.m x.c) ∧ w.cell? ⟨b, off + k * 4 + 3, none⟩ = some (.slice x.aL x.k x.cL))

/-- the k-th of acts that came in, read later -/
theorem acts_at {w w' : World} {a : Option Addr} {n c : Nat} {l : List A} (h : Acts w a n c l) (hb : Below w.heap.size w w') {k : Nat} (hk : k < n) :
    ∃ b off x, a = some ⟨b, off, none⟩ ∧ l[k]? = some x ∧ x.Ok w ∧ x.Ok w' ∧ w'.cell? ⟨b, off + k * 4, none⟩ = some (.int .i64 x.kind) ∧ w'.cell? ⟨b, off + k * 4 + 1, none⟩ = some (.int .i64 x.i) ∧ w'.cell? ⟨b, off + k * 4 + 2, none⟩ = some (.slice x.aB x.m x.c) ∧ w'.cell? ⟨b, off + k * 4 + 3, none⟩ = some (.slice x.aL x.k x.cL) ∧ b < w.heap.size := by
  obtain ⟨h1, h2, h3, h4, h5⟩ := h
  rcases h5 with h5 | ⟨b, off, ha, hlt, hc⟩
  · subst h5; simp at h1; omega
  · obtain ⟨x, hx⟩ : ∃ x, l[k]? = some x := ⟨l[k]'(by omega), List.getElem?_eq_getElem _⟩
    obtain ⟨g1, g2, g3, g4⟩ := hc k x hx
    have hok := h4 x (List.mem_of_getElem? hx)
    have hbu := But.of_below hb
    refine ⟨b, off, x, ha, hx, hok, hok.but hbu (by simp), ?_, ?_, ?_, ?_, hlt⟩
    · rw [hbu.cell hlt (by simp)]; exact g1
    · rw [hbu.cell hlt (by simp)]; exact g2
    · rw [hbu.cell hlt (by simp)]; exact g3
    · rw [hbu.cell hlt (by simp)]; exact g4

namespace M
/-- what an act makes of a device -/
def play (n : Nat) (d : Dv) (x : A) : Dv :=
  if x.kind = 0 then writeD n d x.i x.b else if x.kind = 1 then barrierD d else if x.kind = 2 then fuseD d x.i else if x.kind = 3 then crashD n d x.l else if x.kind = 4 then loseD else d
def plays (n : Nat) (d : Dv) (l : List A) : Dv := l.foldl (play n) d
theorem plays_snoc (n : Nat) (d : Dv) (l : List A) (x : A) : plays n d (l ++ [x]) = play n (plays n d l) x := by simp [plays]
end M

/-- is an act too large to be looked at? -/
def largeB (x : A) : Bool := decide (1000 < x.m) || decide (600 < x.k)

theorem large_any (w : World) (x : A) : Calls Try.prog 12 #[x.val] w fun e w' => e = .returned (.bool (largeB x)) ∧ Below w.heap.size w w' := by
  unfold A.val
  by_cases h1 : 1000 < x.m
  · have e : largeB x = true := by simp [largeB, h1]
    rw [e]
    have h1' : (1000 : Int) < (x.m : Int) := by omega
    clear e h1
    go_enter Try.func12, Try.ntmps12
    go_wp2
    go_ret
    exact ⟨rfl, (Below.refl _ _).alloc (Nat.le_refl _) _⟩
  · have h1' : ¬ ((1000 : Int) < (x.m : Int)) := by omega
    by_cases h2 : 600 < x.k
    · have e : largeB x = true := by simp [largeB, h2]
      rw [e]
      have h2' : (600 : Int) < (x.k : Int) := by omega
      clear e h1 h2
      go_enter Try.func12, Try.ntmps12
      go_wp2
      go_ret
      exact ⟨rfl, (Below.refl _ _).alloc (Nat.le_refl _) _⟩
    · have e : largeB x = false := by simp [largeB]; omega
      rw [e]
      have h2' : ¬ ((600 : Int) < (x.k : Int)) := by omega
      clear e h1 h2
      go_enter Try.func12, Try.ntmps12
      go_wp2
      go_ret
      exact ⟨rfl, (Below.refl _ _).alloc (Nat.le_refl _) _⟩

set_option maxHeartbeats 2000000 in
/-- what 'play' makes of a device: the act's parts lie apart from it -/
theorem play_any (w : World) (h : DevAt w dB sB mB n d) (x : A) (hx : x.Ok w) (h1 : u8s x.b = [] ∨ ∀ b off, x.aB = some ⟨b, off, none⟩ → b ∉ [dB]) (h2 : x.l = [] ∨ ∀ b off, x.aL = some ⟨b, off, none⟩ → b ∉ [dB, sB, mB]) :
    Calls Try.prog 31 #[.pointer (some ⟨dB, 0, none⟩), x.val] w fun e w' => e = .returned (.tuple #[]) ∧ DevAt w' dB sB mB n (M.play n d x) ∧ But [dB, sB, mB] w w' := by
  have HD := Lib.hid h
  have HX := Lib.hid hx
  have HD1 := Lib.hid (h.alloc (.cells x.cells 31))
  have HB1 : Hid (But [dB, sB, mB] w (w.alloc (.cells x.cells 31))) := Lib.hid ((But.refl _ _).alloc _)
  have HX1 := Lib.hid (hx.but ((But.refl [] _).alloc (.cells x.cells 31)) (by simp))
  clear h hx
  unfold A.cells at HD1 HB1 HX1
  unfold A.val M.play
  by_cases c0 : x.kind = 0
  · rw [if_pos c0]
    rw [c0] at HD1 HB1 HX1 ⊢
    have Hc := Lib.hid c0
    clear c0
    go_enter Try.func31, Try.ntmps31
    go_wp2_with fail
    refine (write_any _ HD1.out x.i HX.out.i1 HX.out.i2 _ _ _ x.b HX1.out.row h1).mono ?_
    rintro e w2 ⟨rfl, hd, hb⟩
    have HD2 := Lib.hid hd
    have HB2 := Lib.hid hb
    clear hd hb
    go_wp2_with fail
    go_end0
    exact ⟨rfl, HD2.out, HB1.out.trans (HB2.out.mono (by simp))⟩
  · by_cases c1 : x.kind = 1
    · rw [if_neg c0, if_pos c1]
      rw [c1] at HD1 HB1 HX1 ⊢
      have Hc := Lib.hid c1
      clear c0 c1
      go_enter Try.func31, Try.ntmps31
      go_wp2_with fail
      refine (barrier_any _ HD1.out).mono ?_
      rintro e w2 ⟨rfl, hd, hb⟩
      have HD2 := Lib.hid hd
      have HB2 := Lib.hid hb
      clear hd hb
      go_wp2_with fail
      go_end0
      exact ⟨rfl, HD2.out, HB1.out.trans HB2.out⟩
    · by_cases c2 : x.kind = 2
      · rw [if_neg c0, if_neg c1, if_pos c2]
        rw [c2] at HD1 HB1 HX1 ⊢
        have Hc := Lib.hid c2
        clear c0 c1 c2
        go_enter Try.func31, Try.ntmps31
        go_wp2_with fail
        refine (fuse_any _ HD1.out x.i HX.out.i1 HX.out.i2).mono ?_
        rintro e w2 ⟨rfl, hd, hb⟩
        have HD2 := Lib.hid hd
        have HB2 := Lib.hid hb
        clear hd hb
        go_wp2_with fail
        go_end0
        exact ⟨rfl, HD2.out, HB1.out.trans (HB2.out.mono (by simp))⟩
      · by_cases c3 : x.kind = 3
        · rw [if_neg c0, if_neg c1, if_neg c2, if_pos c3]
          rw [c3] at HD1 HB1 HX1 ⊢
          have Hc := Lib.hid c3
          clear c0 c1 c2 c3
          go_enter Try.func31, Try.ntmps31
          go_wp2_with fail
          refine (crash_any _ HD1.out _ _ _ _ HX1.out.keep h2).mono ?_
          rintro e w2 ⟨rfl, hd, hb⟩
          have HD2 := Lib.hid hd
          have HB2 := Lib.hid hb
          clear hd hb
          go_wp2_with fail
          go_end0
          exact ⟨rfl, HD2.out, HB1.out.trans HB2.out⟩
        · by_cases c4 : x.kind = 4
          · rw [if_neg c0, if_neg c1, if_neg c2, if_neg c3, if_pos c4]
            rw [c4] at HD1 HB1 HX1 ⊢
            have Hc := Lib.hid c4
            clear c0 c1 c2 c3 c4
            go_enter Try.func31, Try.ntmps31
            go_wp2_with fail
            refine (lose_any _ HD1.out).mono ?_
            rintro e w2 ⟨rfl, hd, hb⟩
            have HD2 := Lib.hid hd
            have HB2 := Lib.hid hb
            clear hd hb
            go_wp2_with fail
            go_end0
            exact ⟨rfl, HD2.out, HB1.out.trans HB2.out⟩
          · rw [if_neg c0, if_neg c1, if_neg c2, if_neg c3, if_neg c4]
            generalize x.kind = q at *
            have d0 : (q == 0) = false := by simpa using c0
            have d1 : (q == 1) = false := by simpa using c1
            have d2 : (q == 2) = false := by simpa using c2
            have d3 : (q == 3) = false := by simpa using c3
            have d4 : (q == 4) = false := by simpa using c4
            clear c0 c1 c2 c3 c4
            go_enter Try.func31, Try.ntmps31
            go_wp2_with fail
            go_end0
            exact ⟨rfl, HD1.out, HB1.out⟩
end Go.Proofs.Ytbcblcnnffdjdaa
