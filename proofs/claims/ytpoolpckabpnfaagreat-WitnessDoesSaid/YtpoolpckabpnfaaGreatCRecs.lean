/-
  What stays of the reader and of a record that is being read, step by step.
-/
import Derived.Test.YtpoolpckabpnfaaGreatCNums
import Derived.Deep.RegionLaw
namespace Go.Proofs.YtpoolpckabpnfaaGreat.C
open Go.RowKit
set_option linter.unusedVariables false
set_option linter.unusedSimpArgs false
set_option maxRecDepth 20000

theorem number_ok (w : World) (R : Nat) (l : List UInt8) (n : Int) (r : List UInt8) (h : At w R l) (hr : M.rdN l = some (n, r)) :
    Calls Tryz.prog 97 #[.pointer (some ⟨R, 0, none⟩)] w fun e w' => e = .returned (.int .i64 n) ∧ Stp R w w' ∧ At w' R r := by
  refine (number_any w R l h).mono ?_
  rintro e w' (⟨n', r', h1, h2, h3, h4⟩ | ⟨h1, _⟩)
  · rw [hr] at h1
    injection h1 with h1
    injection h1 with h5 h6
    subst h5 h6
    exact ⟨h2, h3, h4⟩
  · rw [hr] at h1; cases h1

theorem number_no (w : World) (R : Nat) (l : List UInt8) (h : At w R l) (hr : M.rdN l = none) :
    Calls Tryz.prog 97 #[.pointer (some ⟨R, 0, none⟩)] w fun e w' => e = .panicked [{ v := wrongs, recovered := false }] ∧ Below R w w' := by
  refine (number_any w R l h).mono ?_
  rintro e w' (⟨n', r', h1, h2, h3, h4⟩ | ⟨h1, h2, h3⟩)
  · rw [hr] at h1; cases h1
  · exact ⟨h2, h3⟩

/-- the struct in block T holds a kind and two slices -/
def Rec3 (w : World) (T : Nat) (k : Int) (aN : Option Addr) (nN cN : Nat) (aT : Option Addr) (nT cT : Nat) : Prop :=
  w.cell? ⟨T, 0, none⟩ = some (.int .i64 k) ∧ w.cell? ⟨T, 1, none⟩ = some (.slice aN nN cN) ∧ w.cell? ⟨T, 2, none⟩ = some (.slice aT nT cT) ∧
  w.frozen? ⟨T, 0, none⟩ = false ∧ w.frozen? ⟨T, 1, none⟩ = false ∧ w.frozen? ⟨T, 2, none⟩ = false

/-- nothing that was there below N has changed, but for block R -/
structure Mov (R N : Nat) (w w' : World) : Prop where
  os : w'.os = w.os
  tape : w'.tape = w.tape
  output : w'.output = w.output
  size : w.heap.size ≤ w'.heap.size
  block : ∀ k, k < N → k ≠ R → w'.heap[k]? = w.heap[k]?

theorem Mov.refl (R N : Nat) (w : World) : Mov R N w w := ⟨rfl, rfl, rfl, Nat.le_refl _, fun _ _ _ => rfl⟩
theorem Mov.stp {R N : Nat} {a b c : World} (h : Mov R N a b) (k : Stp R b c) : Mov R N a c :=
  ⟨k.os.trans h.os, k.tape.trans h.tape, k.output.trans h.output, Nat.le_trans h.size (Nat.le_of_eq k.size.symm), fun i hi hr => (k.block i hr).trans (h.block i hi hr)⟩
theorem Mov.below {R N B : Nat} {a b c : World} (h : Mov R N a b) (k : Below B b c) (hB : N ≤ B) : Mov R N a c :=
  ⟨k.os.trans h.os, k.tape.trans h.tape, k.output.trans h.output, Nat.le_trans h.size k.size, fun i hi hr => (k.block i (by omega)).trans (h.block i hi hr)⟩
theorem Mov.to_below {R N : Nat} {a b : World} (h : Mov R N a b) (hR : R ≤ N) : Below R a b :=
  ⟨h.os, h.tape, h.output, h.size, fun i hi => h.block i (by omega) (by omega)⟩

theorem at_below {w w' : World} {R B : Nat} {l : List UInt8} (h : At w R l) (hb : Below B w w') (hR : R < B) : At w' R l := by
  obtain ⟨a, n, cap, h1, h2, h3, h4⟩ := h
  refine ⟨a, n, cap, ?_, ?_, ?_, h4⟩
  · rw [hb.cell (p := ⟨R, 0, none⟩) hR]; exact h1
  · rw [hb.frozen (p := ⟨R, 0, none⟩) hR]; exact h2
  · obtain ⟨g1, g2, g3, g4⟩ := h3
    refine ⟨g1, g2, g3, ?_⟩
    rcases g4 with g4 | ⟨b, off, ha, hlt, hc⟩
    · exact .inl g4
    · rcases h4 with h4 | h4
      · subst h4; exact .inl rfl
      · have hbR : b < R := h4 _ ha
        exact .inr ⟨b, off, ha, Nat.lt_of_lt_of_le hlt hb.size, fun i hi => by rw [hb.cell (p := ⟨b, off + i, none⟩) (Nat.lt_trans hbR hR)]; exact hc i hi⟩

theorem at_lt {w : World} {R : Nat} {l : List UInt8} (h : At w R l) : R < w.heap.size := by
  obtain ⟨a, n, cap, h1, h2, h3, h4⟩ := h
  exact World.block_lt_of_cell? w _ h1

theorem at_alloc {w : World} {R : Nat} {l : List UInt8} (h : At w R l) (o : Obj) : At (w.alloc o) R l :=
  at_below h ((Below.refl _ _).alloc (Nat.le_refl _) o) (at_lt h)

theorem at_set {w : World} {R : Nat} {l : List UInt8} (h : At w R l) {p : Addr} (v : Value) (hp : R < p.block) : At (w.setCell p v) R l :=
  at_below h ((Below.refl p.block _).setCell (Nat.le_refl _) v) hp

theorem rec3_below {w w' : World} {T B : Nat} {k : Int} {aN : Option Addr} {nN cN : Nat} {aT : Option Addr} {nT cT : Nat} (h : Rec3 w T k aN nN cN aT nT cT) (hb : Below B w w') (hT : T < B) : Rec3 w' T k aN nN cN aT nT cT := by
  obtain ⟨h1, h2, h3, h4, h5, h6⟩ := h
  exact ⟨by rw [hb.cell (p := ⟨T, 0, none⟩) hT]; exact h1, by rw [hb.cell (p := ⟨T, 1, none⟩) hT]; exact h2, by rw [hb.cell (p := ⟨T, 2, none⟩) hT]; exact h3,
    by rw [hb.frozen (p := ⟨T, 0, none⟩) hT]; exact h4, by rw [hb.frozen (p := ⟨T, 1, none⟩) hT]; exact h5, by rw [hb.frozen (p := ⟨T, 2, none⟩) hT]; exact h6⟩

theorem rec3_stp {w w' : World} {T R : Nat} {k : Int} {aN : Option Addr} {nN cN : Nat} {aT : Option Addr} {nT cT : Nat} (h : Rec3 w T k aN nN cN aT nT cT) (hb : Stp R w w') (hT : T ≠ R) : Rec3 w' T k aN nN cN aT nT cT := by
  obtain ⟨h1, h2, h3, h4, h5, h6⟩ := h
  exact ⟨by rw [hb.cell 0 hT]; exact h1, by rw [hb.cell 1 hT]; exact h2, by rw [hb.cell 2 hT]; exact h3, by rw [hb.frozen 0 hT]; exact h4, by rw [hb.frozen 1 hT]; exact h5, by rw [hb.frozen 2 hT]; exact h6⟩

theorem rec3_new (w : World) (k : Int) : Rec3 (w.alloc (.cells #[.int .i64 k, .slice none 0 0, .slice none 0 0] 80)) w.heap.size k none 0 0 none 0 0 := by
  refine ⟨?_, ?_, ?_, ?_, ?_, ?_⟩ <;> first | (rw [World.cell?_alloc_mark]; rfl) | simp [World.frozen?, World.alloc, -World.alloc_eq]

theorem own_stp {e : TypeId} {w w' : World} {B R : Nat} {a : Option Addr} {n cap : Nat} {vs : List Value} (h : Own e w B a n cap vs) (hs : Stp R w w') (hR : R < B) : Own e w' B a n cap vs := by
  obtain ⟨h1, h2⟩ := h
  refine ⟨⟨h1.1, ?_⟩, h2⟩
  rcases h1.2 with h' | ⟨g, c, cur, hv, hg, hh, r⟩
  · exact .inl h'
  · exact .inr ⟨g, c, cur, hv, hg, by rw [hs.block g (by omega)]; exact hh, r⟩

/-- how things stand at a loop's head -/
structure RS (N R : Nat) (w wr : World) (kd : Int) (a : Option Addr) (n cap : Nat) (nums : List Int) (aT : Option Addr) (nT cT : Nat) (texts : List ByteArray) (m : List UInt8) : Prop where
  mov : Mov R N w wr
  hR : R < N
  size : N + 2 ≤ wr.heap.size
  res : Rec3 wr N 0 none 0 0 none 0 0
  own : Rec3 wr (N + 1) kd a n cap aT nT cT
  rn : Own 2 wr (N + 2) a n cap (i64s nums)
  rt : Own 9 wr (N + 2) aT nT cT (strs texts)
  apart : (Value.slice a n cap).ownBlock = none ∨ (Value.slice a n cap).ownBlock ≠ (Value.slice aT nT cT).ownBlock
  rest : At wr R m

theorem RS.stp {N R : Nat} {w wr w1 : World} {kd : Int} {a : Option Addr} {n cap : Nat} {nums : List Int} {aT : Option Addr} {nT cT : Nat} {texts : List ByteArray} {m m' : List UInt8}
    (h : RS N R w wr kd a n cap nums aT nT cT texts m) (hs : Stp R wr w1) (ha : At w1 R m') : RS N R w w1 kd a n cap nums aT nT cT texts m' :=
  ⟨h.mov.stp hs, h.hR, by have := h.size; have := hs.size; omega, rec3_stp h.res hs (by have := h.hR; omega), rec3_stp h.own hs (by have := h.hR; omega), own_stp h.rn hs (by have := h.hR; omega), own_stp h.rt hs (by have := h.hR; omega), h.apart, ha⟩

theorem RS.alloc {N R : Nat} {w wr : World} {kd : Int} {a : Option Addr} {n cap : Nat} {nums : List Int} {aT : Option Addr} {nT cT : Nat} {texts : List ByteArray} {m : List UInt8}
    (h : RS N R w wr kd a n cap nums aT nT cT texts m) (o : Obj) : RS N R w (wr.alloc o) kd a n cap nums aT nT cT texts m := by
  have hb := (Below.refl wr.heap.size wr).alloc (Nat.le_refl _) o
  have hz := h.size
  exact ⟨h.mov.below hb (by omega), h.hR, by simp; omega, rec3_below h.res hb (by omega), rec3_below h.own hb (by omega), own_below h.rn hb (Nat.le_refl _), own_below h.rt hb (Nat.le_refl _), h.apart, at_alloc h.rest o⟩

/-- an append to the numbers, and its store -/
theorem RS.num {N R : Nat} {w wr w3 : World} {kd : Int} {a a' : Option Addr} {n cap cap' : Nat} {nums : List Int} {m : List UInt8} {v : Int}
    (h : RS N R w wr kd a n cap nums none 0 0 [] m) (ho : Own 2 w3 (N + 2) a' (n + 1) cap' (i64s (nums ++ [v]))) (hb : Below (N + 2) wr w3) :
    RS N R w (w3.setCell ⟨N + 1, 1, none⟩ (.slice a' (n + 1) cap')) kd a' (n + 1) cap' (nums ++ [v]) none 0 0 [] m := by
  have hz := h.size
  have hR := h.hR
  have hset : Below (N + 1) w3 (w3.setCell ⟨N + 1, 1, none⟩ (.slice a' (n + 1) cap')) := (Below.refl _ _).setCell (p := ⟨N + 1, 1, none⟩) (Nat.le_refl _) _
  obtain ⟨r1, r2, r3, r4, r5, r6⟩ := rec3_below h.own hb (by omega)
  refine ⟨(h.mov.below hb (by omega)).below hset (by omega), hR, Nat.le_trans hz (Nat.le_trans hb.size hset.size), rec3_below (rec3_below h.res hb (by omega)) hset (by omega), ?_, own_set ho _ (by simp), own_nil _ _ _, ?_, at_set (at_below h.rest hb (by omega)) _ (by simp; omega)⟩
  · refine ⟨?_, World.cell?_setCell_same _ _ _ r2, ?_, ?_, ?_, ?_⟩
    · rw [World.cell?_setCell_other _ _ _ _ (by simp)]; exact r1
    · rw [World.cell?_setCell_other _ _ _ _ (by simp)]; exact r3
    · simpa using r4
    · simpa using r5
    · simpa using r6
  · cases a' with
    | none => exact .inl rfl
    | some x => exact .inr (by simp [Value.ownBlock])

/-- an append to the texts, and its store -/
theorem RS.text {N R : Nat} {w wr w3 : World} {kd : Int} {a aT' : Option Addr} {n cap : Nat} {nums : List Int} {aT : Option Addr} {nT cT cT' : Nat} {texts : List ByteArray} {m : List UInt8} {v : ByteArray}
    (h : RS N R w wr kd a n cap nums aT nT cT texts m) (ho : Own 9 w3 (N + 2) aT' (nT + 1) cT' (strs (texts ++ [v]))) (hb : Below (N + 2) wr w3) (hg : wr.grownBy w3 (Value.slice aT nT cT).ownBlock)
    (hat : (Value.slice aT' (nT + 1) cT').ownBlock = (Value.slice aT nT cT).ownBlock ∨ (Value.slice aT' (nT + 1) cT').ownBlock = some wr.heap.size) :
    RS N R w (w3.setCell ⟨N + 1, 2, none⟩ (.slice aT' (nT + 1) cT')) kd a n cap nums aT' (nT + 1) cT' (texts ++ [v]) m := by
  have hz := h.size
  have hR := h.hR
  have hset : Below (N + 1) w3 (w3.setCell ⟨N + 1, 2, none⟩ (.slice aT' (nT + 1) cT')) := (Below.refl _ _).setCell (p := ⟨N + 1, 2, none⟩) (Nat.le_refl _) _
  obtain ⟨r1, r2, r3, r4, r5, r6⟩ := rec3_below h.own hb (by omega)
  have hn : Own 2 w3 (N + 2) a n cap (i64s nums) := ⟨h.rn.1.kept hg h.apart, h.rn.2⟩
  refine ⟨(h.mov.below hb (by omega)).below hset (by omega), hR, Nat.le_trans hz (Nat.le_trans hb.size hset.size), rec3_below (rec3_below h.res hb (by omega)) hset (by omega), ?_, own_set hn _ (by simp), own_set ho _ (by simp), ?_, at_set (at_below h.rest hb (by omega)) _ (by simp; omega)⟩
  · refine ⟨?_, ?_, World.cell?_setCell_same _ _ _ r3, ?_, ?_, ?_⟩
    · rw [World.cell?_setCell_other _ _ _ _ (by simp)]; exact r1
    · rw [World.cell?_setCell_other _ _ _ _ (by simp)]; exact r2
    · simpa using r4
    · simpa using r5
    · simpa using r6
  · rcases hat with hat | hat
    · rw [hat]; exact h.apart
    · rw [hat]
      by_cases h0 : (Value.slice a n cap).ownBlock = none
      · exact .inl h0
      · refine .inr fun he => ?_
        have := (h.rn.1.lt _ he).2
        omega
end Go.Proofs.YtpoolpckabpnfaaGreat.C
