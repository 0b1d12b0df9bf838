/-
  What stays of a record that the document's own Decode is reading, step by step; what of its own steps answer.
-/
import Derived.Test.YtpggpgbkeafgnaaCRefn
import Derived.Test.YtpggpgbkeafgnaaCBox
namespace Go.Proofs.Ytpggpgbkeafgnaa.C
open Go.RowKit
set_option linter.unusedVariables false
set_option linter.unusedSimpArgs false
set_option maxRecDepth 20000

theorem refnum_ok (w : World) (a : Option Addr) (n cap : Nat) (l : List UInt8) (p : Nat) (h : Row w a n cap (u8s l)) (hp : p ≤ n) (hn : n ≤ 65536) (v : Int) (m : List UInt8) (hv : M.rdN (l.drop p) = some (v, m)) :
    Calls Try.prog 34 #[.slice a n cap, .int .i64 (p : Int)] w fun e w' => ∃ q : Nat, m = l.drop q ∧ p ≤ q ∧ q ≤ l.length ∧ e = .returned (.tuple #[.int .i64 v, .int .i64 (q : Int), .bool true]) ∧ w = w' := by
  refine (refnum_any w a n cap l p h hp hn).mono ?_
  rintro e w' ⟨⟨v', q, h1, h2, h3, _, rfl⟩ | ⟨h1, _⟩, rfl⟩
  · rw [hv] at h1
    injection h1 with h1
    injection h1 with h4 h5
    subst h4
    exact ⟨q, h5, h2, h3, rfl, rfl⟩
  · rw [hv] at h1; cases h1

theorem refnum_no (w : World) (a : Option Addr) (n cap : Nat) (l : List UInt8) (p : Nat) (h : Row w a n cap (u8s l)) (hp : p ≤ n) (hn : n ≤ 65536) (hv : M.rdN (l.drop p) = none) :
    Calls Try.prog 34 #[.slice a n cap, .int .i64 (p : Int)] w fun e w' => e = .returned (.tuple #[.int .i64 0, .int .i64 0, .bool false]) ∧ w = w' := by
  refine (refnum_any w a n cap l p h hp hn).mono ?_
  rintro e w' ⟨⟨v', q, h1, _⟩ | ⟨h1, rfl⟩, rfl⟩
  · rw [hv] at h1; cases h1
  · exact ⟨rfl, rfl⟩

/-- how things stand at a loop's head -/
structure RQ (N : Nat) (w wr : World) (kd : Int) (a : Option Addr) (n cap : Nat) (nums : List Int) (aT : Option Addr) (nT cT : Nat) (texts : List ByteArray) : Prop where
  mov : Below N w wr
  size : N + 3 ≤ wr.heap.size
  res : Rec3 wr N 0 none 0 0 none 0 0
  zr : Rec3 wr (N + 1) 0 none 0 0 none 0 0
  own : Rec3 wr (N + 2) kd a n cap aT nT cT
  rn : Own 2 wr (N + 3) a n cap (i64s nums)
  rt : Own 9 wr (N + 3) aT nT cT (strs texts)
  apart : (Value.slice a n cap).ownBlock = Option.none ∨ (Value.slice a n cap).ownBlock ≠ (Value.slice aT nT cT).ownBlock

theorem RQ.alloc {N : Nat} {w wr : World} {kd : Int} {a : Option Addr} {n cap : Nat} {nums : List Int} {aT : Option Addr} {nT cT : Nat} {texts : List ByteArray}
    (h : RQ N w wr kd a n cap nums aT nT cT texts) (o : Obj) : RQ N w (wr.alloc o) kd a n cap nums aT nT cT texts := by
  have hb := (Below.refl wr.heap.size wr).alloc (Nat.le_refl _) o
  have hz := h.size
  exact ⟨h.mov.trans (hb.mono (by omega)), by simp; omega, rec3_below h.res hb (by omega), rec3_below h.zr hb (by omega), rec3_below h.own hb (by omega), own_below h.rn hb (Nat.le_refl _), own_below h.rt hb (Nat.le_refl _), h.apart⟩

theorem RQ.num {N : Nat} {w wr w3 : World} {kd : Int} {a a' : Option Addr} {n cap cap' : Nat} {nums : List Int} {v : Int}
    (h : RQ N w wr kd a n cap nums none 0 0 []) (ho : Own 2 w3 (N + 3) a' (n + 1) cap' (i64s (nums ++ [v]))) (hb : Below (N + 3) wr w3) :
    RQ N w (w3.setCell ⟨N + 2, 1, Option.none⟩ (.slice a' (n + 1) cap')) kd a' (n + 1) cap' (nums ++ [v]) none 0 0 [] := by
  have hz := h.size
  have hset : Below (N + 2) w3 (w3.setCell ⟨N + 2, 1, Option.none⟩ (.slice a' (n + 1) cap')) := (Below.refl _ _).setCell (p := ⟨N + 2, 1, Option.none⟩) (Nat.le_refl _) _
  obtain ⟨r1, r2, r3, r4, r5, r6⟩ := rec3_below h.own hb (by omega)
  refine ⟨(h.mov.trans (hb.mono (by omega))).trans (hset.mono (by omega)), Nat.le_trans hz (Nat.le_trans hb.size hset.size), rec3_below (rec3_below h.res hb (by omega)) hset (by omega), rec3_below (rec3_below h.zr hb (by omega)) hset (by omega), ?_, own_set ho _ (by simp), own_nil _ _ _, ?_⟩
  · refine ⟨?_, World.cell?_setCell_same _ _ _ r2, ?_, ?_, ?_, ?_⟩
    · rw [World.cell?_setCell_other _ _ _ _ (by simp)]; exact r1
    · rw [World.cell?_setCell_other _ _ _ _ (by simp)]; exact r3
    · simpa using r4
    · simpa using r5
    · simpa using r6
  · cases a' with
    | none => exact .inl rfl
    | some x => exact .inr (by simp [Value.ownBlock])

theorem RQ.text {N : Nat} {w wr w3 : World} {kd : Int} {a aT' : Option Addr} {n cap : Nat} {nums : List Int} {aT : Option Addr} {nT cT cT' : Nat} {texts : List ByteArray} {v : ByteArray}
    (h : RQ N w wr kd a n cap nums aT nT cT texts) (ho : Own 9 w3 (N + 3) aT' (nT + 1) cT' (strs (texts ++ [v]))) (hb : Below (N + 3) wr w3) (hg : wr.grownBy w3 (Value.slice aT nT cT).ownBlock)
    (hat : (Value.slice aT' (nT + 1) cT').ownBlock = (Value.slice aT nT cT).ownBlock ∨ (Value.slice aT' (nT + 1) cT').ownBlock = some wr.heap.size) :
    RQ N w (w3.setCell ⟨N + 2, 2, Option.none⟩ (.slice aT' (nT + 1) cT')) kd a n cap nums aT' (nT + 1) cT' (texts ++ [v]) := by
  have hz := h.size
  have hset : Below (N + 2) w3 (w3.setCell ⟨N + 2, 2, Option.none⟩ (.slice aT' (nT + 1) cT')) := (Below.refl _ _).setCell (p := ⟨N + 2, 2, Option.none⟩) (Nat.le_refl _) _
  obtain ⟨r1, r2, r3, r4, r5, r6⟩ := rec3_below h.own hb (by omega)
  have hn : Own 2 w3 (N + 3) a n cap (i64s nums) := ⟨h.rn.1.kept hg h.apart, h.rn.2⟩
  refine ⟨(h.mov.trans (hb.mono (by omega))).trans (hset.mono (by omega)), Nat.le_trans hz (Nat.le_trans hb.size hset.size), rec3_below (rec3_below h.res hb (by omega)) hset (by omega), rec3_below (rec3_below h.zr hb (by omega)) hset (by omega), ?_, own_set hn _ (by simp), own_set ho _ (by simp), ?_⟩
  · refine ⟨?_, ?_, World.cell?_setCell_same _ _ _ r3, ?_, ?_, ?_⟩
    · rw [World.cell?_setCell_other _ _ _ _ (by simp)]; exact r1
    · rw [World.cell?_setCell_other _ _ _ _ (by simp)]; exact r2
    · simpa using r4
    · simpa using r5
    · simpa using r6
  · rcases hat with hat | hat
    · rw [hat]; exact h.apart
    · rw [hat]
      by_cases h0 : (Value.slice a n cap).ownBlock = Option.none
      · exact .inl h0
      · refine .inr fun he => ?_
        have := (h.rn.1.lt _ he).2
        omega

theorem rq_start {w : World} (kd : Int) : RQ w.heap.size w (((w.alloc (.cells #[.int .i64 0, .slice none 0 0, .slice none 0 0] 39)).alloc (.cells #[.int .i64 0, .slice none 0 0, .slice none 0 0] 39)).alloc (.cells #[.int .i64 kd, .slice none 0 0, .slice none 0 0] 39))
    kd none 0 0 [] none 0 0 [] := by
  have b1 := (Below.refl w.heap.size w).alloc (Nat.le_refl _) (.cells #[.int .i64 0, .slice none 0 0, .slice none 0 0] 39)
  generalize hw1 : w.alloc (.cells #[.int .i64 0, .slice none 0 0, .slice none 0 0] 39) = w1 at *
  have s1 : w1.heap.size = w.heap.size + 1 := by rw [← hw1]; simp
  have b2 := (Below.refl w1.heap.size w1).alloc (Nat.le_refl _) (.cells #[.int .i64 0, .slice none 0 0, .slice none 0 0] 39)
  have n1 : Rec3 w1 w.heap.size 0 none 0 0 none 0 0 := by rw [← hw1]; exact rec3_new w 0
  have n2 := rec3_new w1 0
  generalize hw2 : w1.alloc (.cells #[.int .i64 0, .slice none 0 0, .slice none 0 0] 39) = w2 at *
  have s2 : w2.heap.size = w1.heap.size + 1 := by rw [← hw2]; simp
  have b3 := (Below.refl w2.heap.size w2).alloc (Nat.le_refl _) (.cells #[.int .i64 kd, .slice none 0 0, .slice none 0 0] 39)
  have n3 := rec3_new w2 kd
  refine ⟨(b1.trans (b2.mono (by omega))).trans (b3.mono (by omega)), by simp; omega, rec3_below (rec3_below n1 b2 (by omega)) b3 (by omega), ?_, ?_, own_nil _ _ _, own_nil _ _ _, .inl rfl⟩
  · rw [← s1]; exact rec3_below n2 b3 (by omega)
  · rw [show w.heap.size + 2 = w2.heap.size from by omega]; exact n3

theorem rq_end {N : Nat} {w wr : World} {kd : Int} {a : Option Addr} {n cap : Nat} {nums : List Int} {aT : Option Addr} {nT cT : Nat} {texts : List ByteArray}
    (h : RQ N w wr kd a n cap nums aT nT cT texts) :
    let w' := ((wr.setCell ⟨N, 0, Option.none⟩ (.int .i64 kd)).setCell ⟨N, 1, Option.none⟩ (.slice a n cap)).setCell ⟨N, 2, Option.none⟩ (.slice aT nT cT)
    Own 2 w' N a n cap (i64s nums) ∧ Own 9 w' N aT nT cT (strs texts) ∧ Below N w w' := by
  have b1 : Below N wr (((wr.setCell ⟨N, 0, Option.none⟩ (.int .i64 kd)).setCell ⟨N, 1, Option.none⟩ (.slice a n cap)).setCell ⟨N, 2, Option.none⟩ (.slice aT nT cT)) :=
    (((Below.refl N wr).setCell (p := ⟨N, 0, Option.none⟩) (Nat.le_refl _) _).setCell (p := ⟨N, 1, Option.none⟩) (Nat.le_refl _) _).setCell (p := ⟨N, 2, Option.none⟩) (Nat.le_refl _) _
  exact ⟨own_mono (own_set (own_set (own_set h.rn _ (by simp)) _ (by simp)) _ (by simp)) (by omega), own_mono (own_set (own_set (own_set h.rt _ (by simp)) _ (by simp)) _ (by simp)) (by omega), h.mov.trans b1⟩

theorem zero_end (N : Nat) {w wr : World} (h : Below N w wr) : Below N w (((wr.setCell ⟨N, 0, none⟩ (.int .i64 0)).setCell ⟨N, 1, none⟩ (.slice none 0 0)).setCell ⟨N, 2, none⟩ (.slice none 0 0)) :=
  ((h.setCell (p := ⟨N, 0, none⟩) (Nat.le_refl _) _).setCell (p := ⟨N, 1, none⟩) (Nat.le_refl _) _).setCell (p := ⟨N, 2, none⟩) (Nat.le_refl _) _

theorem wpList_append_i64 (w : World) {ops : Array Oper} {rest : List Oper} {o : Oper} {act : Act} {Q : Exit → Act → World → Prop} (hgd : o.guard = none) (s x : Operand)
    (ho : o.op = .call { callee := .builtin .append, args := #[s, x], argTypes := #[36, 36] })
    (B : Nat) (a : Option Addr) (n cap : Nat) (l : List Int) (hs : act.eval s = .slice a n cap) (hown : Own 2 w B a n cap (i64s l))
    (A : Option Addr) (m c : Nat) (y : List Int) (hx : act.eval x = .slice A m c) (hr : Row w A m c (i64s y)) (hsum : n + m ≤ 1048576) (hB : B ≤ w.heap.size)
    (h : ∀ a' cap' w', Own 2 w' B a' (n + m) cap' (i64s (l ++ y)) → Below B w w' → wpList Try.prog ops Q rest (act.put o.dst (.slice a' (n + m) cap')) w') : wpList Try.prog ops Q (o :: rest) act w := by
  refine wpList_plain hgd fun K hK => ?_
  obtain ⟨a', cap', w', hrun, h2, h3, _, _⟩ := run_append_i64 w o.type B a n cap l hown A m c y hr hsum hB
  unfold Oper.wp execOp
  simp only [ho, resolve, invoke, builtin, Sem.run_bind, Sem.run_pure, Result.andThen_ok, List.map_toArray, List.map_cons, List.map_nil, hs, hx, hrun]
  exact hK _ _ (h a' cap' w' h2 h3)

theorem row_pre {w : World} {a : Option Addr} {n cap : Nat} {vs : List Value} (h : Row w a n cap vs) (k : Nat) (hk : k ≤ n) : Row w a k cap (vs.take k) := by
  obtain ⟨h1, h2, h3, h4⟩ := h
  refine ⟨by rw [List.length_take]; omega, by omega, h3, ?_⟩
  rcases h4 with h4 | ⟨b, off, ha, hlt, hc⟩
  · exact .inl (by rw [h4]; simp)
  · by_cases h0 : k = 0
    · subst h0; exact .inl rfl
    · exact .inr ⟨b, off, ha, hlt, fun i hi => by rw [hc i (by omega), List.getElem?_take, if_pos hi]⟩

theorem run_mid (a : Option Addr) (n cap lo hi : Nat) (h1 : lo ≤ hi) (h2 : hi ≤ cap) (x y : Int) (hx : x = (lo : Int)) (hy : y = (hi : Int)) (w : World) :
    (Instr.slice 42 (.slice a n cap) (some (.int .i64 x)) (some (.int .i64 y)) none).run Try.prog w = .ok (.slice (adv a cap lo) (hi - lo) (cap - lo)) w := by
  subst hx hy
  rw [run_slice_lh w 42 a n cap under28 .i64 .i64 lo hi (by omega) (by omega) (by omega), size28]
  simp [Result.andThen, sliced, adv]
end Go.Proofs.Ytpggpgbkeafgnaa.C
