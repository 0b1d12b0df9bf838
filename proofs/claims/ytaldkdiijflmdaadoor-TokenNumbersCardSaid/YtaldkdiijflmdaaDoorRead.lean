/-
  The reader in memory: what stays of it and how it changes; what saying a rune does.
-/
import Derived.Test.YtaldkdiijflmdaaDoorSigns
import Derived.Test.YtaldkdiijflmdaaDoorShelf
namespace Go.Proofs.YtaldkdiijflmdaaDoor
open Go.RowKit
set_option linter.unusedVariables false
set_option linter.unusedSimpArgs false
set_option maxRecDepth 20000

/-- nothing that was there below N has changed, but for block R -/
structure Mov (R N : Nat) (w w' : World) : Prop where
  os : w'.os = w.os
  tape : w'.tape = w.tape
  output : w'.output = w.output
  size : w.heap.size ≤ w'.heap.size
  block : ∀ k, k < N → k ≠ R → w'.heap[k]? = w.heap[k]?

theorem Mov.refl (R N : Nat) (w : World) : Mov R N w w := ⟨rfl, rfl, rfl, Nat.le_refl _, fun _ _ _ => rfl⟩
theorem Mov.trans {R N : Nat} {a b c : World} (h : Mov R N a b) (k : Mov R N b c) : Mov R N a c :=
  ⟨k.os.trans h.os, k.tape.trans h.tape, k.output.trans h.output, Nat.le_trans h.size k.size, fun i hi hr => (k.block i hi hr).trans (h.block i hi hr)⟩
theorem Mov.below {R N B : Nat} {a b c : World} (h : Mov R N a b) (k : Below B b c) (hB : N ≤ B) : Mov R N a c :=
  ⟨k.os.trans h.os, k.tape.trans h.tape, k.output.trans h.output, Nat.le_trans h.size k.size, fun i hi hr => (k.block i (by omega)).trans (h.block i hi hr)⟩
theorem Mov.to_below {R N : Nat} {a b : World} (h : Mov R N a b) (hR : R ≤ N) : Below R a b :=
  ⟨h.os, h.tape, h.output, h.size, fun i hi => h.block i (by omega) (by omega)⟩
theorem Mov.of_drew {R N : Nat} {a b : World} (h : Mov R N a.drew b) : Mov R N a b := ⟨h.os, h.tape, h.output, h.size, h.block⟩
theorem Mov.set {R N : Nat} {a b : World} (h : Mov R N a b) (i : Nat) (v : Value) : Mov R N a (b.setCell ⟨R, i, none⟩ v) :=
  ⟨h.os, h.tape, h.output, by simpa [World.setCell] using h.size, fun k hk hr => (Below.heap_setCell _ _ _ _ hr).trans (h.block k hk hr)⟩

/-- the reader in block R holds s; its own rows lie from block N on -/
structure Rd (w : World) (R N : Nat) (s : M.St) (aw : Option Addr) (nw cw : Nat) (ad : Option Addr) (nd cd : Nat) : Prop where
  c0 : w.cell? ⟨R, 0, none⟩ = some (.int .i64 (s.at_ : Int))
  c1 : w.cell? ⟨R, 1, none⟩ = some (.slice aw nw cw)
  c2 : w.cell? ⟨R, 2, none⟩ = some (.slice ad nd cd)
  c3 : w.cell? ⟨R, 3, none⟩ = some (.int .u8 (s.hi : Int))
  f0 : w.frozen? ⟨R, 0, none⟩ = false
  f1 : w.frozen? ⟨R, 1, none⟩ = false
  f2 : w.frozen? ⟨R, 2, none⟩ = false
  f3 : w.frozen? ⟨R, 3, none⟩ = false
  rw : Own 9 w N aw nw cw (strs (s.ws.map str))
  rd : Own 5 w N ad nd cd (u8s s.wd)
  hR : R < N
  hN : N ≤ w.heap.size

def Reads (w : World) (R N : Nat) (s : M.St) : Prop := ∃ aw nw cw ad nd cd, Rd w R N s aw nw cw ad nd cd

theorem own_kept {e : TypeId} {w w' : World} {B : Nat} {a : Option Addr} {n cap : Nat} {vs : List Value} (h : Own e w B a n cap vs) {row : Option Nat} (hg : w.grownBy w' row)
    (hne : (Value.slice a n cap).ownBlock = none ∨ (Value.slice a n cap).ownBlock ≠ row) : Own e w' B a n cap vs := ⟨h.1.kept hg hne, h.2⟩

theorem own_lt {e : TypeId} {w : World} {B : Nat} {a : Option Addr} {n cap : Nat} {vs : List Value} (h : Own e w B a n cap vs) : ∀ k, (Value.slice a n cap).ownBlock = some k → B ≤ k ∧ k < w.heap.size := fun k hk => h.1.lt k hk

/-- rows of unlike types lie apart -/
theorem own_apart {e e' : TypeId} (hne : e ≠ e') {w : World} {B B' : Nat} {a a' : Option Addr} {n n' cap cap' : Nat} {vs vs' : List Value} (h : Own e w B a n cap vs) (h' : Own e' w B' a' n' cap' vs') :
    (Value.slice a n cap).ownBlock = none ∨ (Value.slice a n cap).ownBlock ≠ (Value.slice a' n' cap').ownBlock := by
  rcases h.1.2 with ⟨hv, _⟩ | ⟨g, c, cur, hv, hB, hh, _⟩
  · rw [hv]; exact .inl rfl
  · rcases h'.1.2 with ⟨hv', _⟩ | ⟨g', c', cur', hv', hB', hh', _⟩
    · rw [hv, hv']; exact .inr (by simp [Value.ownBlock])
    · rw [hv, hv']
      refine .inr ?_
      simp only [Value.ownBlock]
      intro he
      injection he with he
      subst he
      rw [hh] at hh'
      injection hh' with hh'
      injection hh' with _ he
      exact hne he

theorem cell_of {w w' : World} {b : Nat} (h : w'.heap[b]? = w.heap[b]?) (i : Nat) : w'.cell? ⟨b, i, none⟩ = w.cell? ⟨b, i, none⟩ := World.cell?_of_block (a := ⟨b, i, none⟩) h
theorem frozen_of {w w' : World} {b : Nat} (h : w'.heap[b]? = w.heap[b]?) (i : Nat) : w'.frozen? ⟨b, i, none⟩ = w.frozen? ⟨b, i, none⟩ := World.frozen?_of_block (a := ⟨b, i, none⟩) h

theorem Rd.alloc {w : World} {R N : Nat} {s : M.St} {aw : Option Addr} {nw cw : Nat} {ad : Option Addr} {nd cd : Nat} (h : Rd w R N s aw nw cw ad nd cd) (o : Obj) : Rd (w.alloc o) R N s aw nw cw ad nd cd := by
  have hb := (Below.refl w.heap.size w).alloc (Nat.le_refl _) o
  have hR := h.hR
  have hN := h.hN
  have hk := hb.block R (by omega)
  exact ⟨(cell_of hk 0).trans h.c0, (cell_of hk 1).trans h.c1, (cell_of hk 2).trans h.c2, (cell_of hk 3).trans h.c3, (frozen_of hk 0).trans h.f0, (frozen_of hk 1).trans h.f1, (frozen_of hk 2).trans h.f2, (frozen_of hk 3).trans h.f3,
    own_below h.rw hb (Nat.le_refl _), own_below h.rd hb (Nat.le_refl _), hR, Nat.le_trans hN hb.size⟩

theorem Rd.drew {w : World} {R N : Nat} {s : M.St} {aw : Option Addr} {nw cw : Nat} {ad : Option Addr} {nd cd : Nat} (h : Rd w R N s aw nw cw ad nd cd) : Rd w.drew R N s aw nw cw ad nd cd :=
  ⟨h.c0, h.c1, h.c2, h.c3, h.f0, h.f1, h.f2, h.f3, h.rw, h.rd, h.hR, h.hN⟩

theorem grown_alloc {w w' : World} {o : Obj} {row : Option Nat} (h : (w.alloc o).grownBy w' row) : w.grownBy w' row :=
  ⟨h.os, h.tape, h.output, Nat.le_trans (by simp) h.size, fun k hk hr => (h.block k (by simp; omega) hr).trans (Below.heap_alloc w o k hk)⟩

/-- the word's row grows -/
theorem Rd.word {w w1 : World} {R N : Nat} {s : M.St} {aw : Option Addr} {nw cw : Nat} {ad : Option Addr} {nd cd : Nat} (h : Rd w R N s aw nw cw ad nd cd) (hg : w.grownBy w1 (Value.slice ad nd cd).ownBlock)
    {a' : Option Addr} {n' c' : Nat} {l : List UInt8} (ho : Own 5 w1 N a' n' c' (u8s l)) :
    (w1.cell? ⟨R, 2, none⟩ = some (.slice ad nd cd) ∧ w1.frozen? ⟨R, 2, none⟩ = false) ∧ Rd (w1.setCell ⟨R, 2, none⟩ (.slice a' n' c')) R N { s with wd := l } aw nw cw a' n' c' ∧ Mov R N w (w1.setCell ⟨R, 2, none⟩ (.slice a' n' c')) := by
  have hR := h.hR
  have hN := h.hN
  have hlt := own_lt h.rd
  have hk : w1.heap[R]? = w.heap[R]? := hg.block R (by omega) (fun e => by have := hlt R e.symm; omega)
  have e1 := (cell_of hk 2).trans h.c2
  refine ⟨⟨e1, (frozen_of hk 2).trans h.f2⟩, ⟨?_, ?_, World.cell?_setCell_same _ _ _ e1, ?_, ?_, ?_, ?_, ?_, ?_, own_set ho _ (by simpa using hR), hR, ?_⟩, ?_⟩
  · rw [World.cell?_setCell_other _ _ _ _ (by simp)]; exact (cell_of hk 0).trans h.c0
  · rw [World.cell?_setCell_other _ _ _ _ (by simp)]; exact (cell_of hk 1).trans h.c1
  · rw [World.cell?_setCell_other _ _ _ _ (by simp)]; exact (cell_of hk 3).trans h.c3
  · simpa using (frozen_of hk 0).trans h.f0
  · simpa using (frozen_of hk 1).trans h.f1
  · simpa using (frozen_of hk 2).trans h.f2
  · simpa using (frozen_of hk 3).trans h.f3
  · exact own_set (own_kept h.rw hg (own_apart (by decide) h.rw h.rd)) _ (by simpa using hR)
  · have := hg.size
    simp [World.setCell]
    omega
  · exact Mov.set ⟨hg.os, hg.tape, hg.output, hg.size, fun k hk hr => hg.block k (by omega) (fun e => by have := hlt k e.symm; omega)⟩ 2 _

/-- the words' row grows -/
theorem Rd.words {w w1 : World} {R N : Nat} {s : M.St} {aw : Option Addr} {nw cw : Nat} {ad : Option Addr} {nd cd : Nat} (h : Rd w R N s aw nw cw ad nd cd) (hg : w.grownBy w1 (Value.slice aw nw cw).ownBlock)
    {a' : Option Addr} {n' c' : Nat} {l : List (List UInt8)} (ho : Own 9 w1 N a' n' c' (strs (l.map str))) :
    (w1.cell? ⟨R, 1, none⟩ = some (.slice aw nw cw) ∧ w1.frozen? ⟨R, 1, none⟩ = false) ∧ Rd (w1.setCell ⟨R, 1, none⟩ (.slice a' n' c')) R N { s with ws := l } a' n' c' ad nd cd ∧ Mov R N w (w1.setCell ⟨R, 1, none⟩ (.slice a' n' c')) := by
  have hR := h.hR
  have hN := h.hN
  have hlt := own_lt h.rw
  have hk : w1.heap[R]? = w.heap[R]? := hg.block R (by omega) (fun e => by have := hlt R e.symm; omega)
  have e1 := (cell_of hk 1).trans h.c1
  refine ⟨⟨e1, (frozen_of hk 1).trans h.f1⟩, ⟨?_, World.cell?_setCell_same _ _ _ e1, ?_, ?_, ?_, ?_, ?_, ?_, own_set ho _ (by simpa using hR), ?_, hR, ?_⟩, ?_⟩
  · rw [World.cell?_setCell_other _ _ _ _ (by simp)]; exact (cell_of hk 0).trans h.c0
  · rw [World.cell?_setCell_other _ _ _ _ (by simp)]; exact (cell_of hk 2).trans h.c2
  · rw [World.cell?_setCell_other _ _ _ _ (by simp)]; exact (cell_of hk 3).trans h.c3
  · simpa using (frozen_of hk 0).trans h.f0
  · simpa using (frozen_of hk 1).trans h.f1
  · simpa using (frozen_of hk 2).trans h.f2
  · simpa using (frozen_of hk 3).trans h.f3
  · exact own_set (own_kept h.rd hg (own_apart (by decide) h.rd h.rw)) _ (by simpa using hR)
  · have := hg.size
    simp [World.setCell]
    omega
  · exact Mov.set ⟨hg.os, hg.tape, hg.output, hg.size, fun k hk hr => hg.block k (by omega) (fun e => by have := hlt k e.symm; omega)⟩ 1 _

/-- where it is -/
theorem Rd.state {w : World} {R N : Nat} {s : M.St} {aw : Option Addr} {nw cw : Nat} {ad : Option Addr} {nd cd : Nat} (h : Rd w R N s aw nw cw ad nd cd) (k : Nat) :
    Rd (w.setCell ⟨R, 0, none⟩ (.int .i64 (k : Int))) R N { s with at_ := k } aw nw cw ad nd cd := by
  have hR := h.hR
  refine ⟨World.cell?_setCell_same _ _ _ h.c0, ?_, ?_, ?_, ?_, ?_, ?_, ?_, own_set h.rw _ (by simpa using hR), own_set h.rd _ (by simpa using hR), hR, ?_⟩
  · rw [World.cell?_setCell_other _ _ _ _ (by simp)]; exact h.c1
  · rw [World.cell?_setCell_other _ _ _ _ (by simp)]; exact h.c2
  · rw [World.cell?_setCell_other _ _ _ _ (by simp)]; exact h.c3
  · simpa using h.f0
  · simpa using h.f1
  · simpa using h.f2
  · simpa using h.f3
  · simpa [World.setCell] using h.hN

/-- its upper half -/
theorem Rd.high {w : World} {R N : Nat} {s : M.St} {aw : Option Addr} {nw cw : Nat} {ad : Option Addr} {nd cd : Nat} (h : Rd w R N s aw nw cw ad nd cd) (k : Nat) :
    Rd (w.setCell ⟨R, 3, none⟩ (.int .u8 (k : Int))) R N { s with hi := k } aw nw cw ad nd cd := by
  have hR := h.hR
  refine ⟨?_, ?_, ?_, World.cell?_setCell_same _ _ _ h.c3, ?_, ?_, ?_, ?_, own_set h.rw _ (by simpa using hR), own_set h.rd _ (by simpa using hR), hR, ?_⟩
  · rw [World.cell?_setCell_other _ _ _ _ (by simp)]; exact h.c0
  · rw [World.cell?_setCell_other _ _ _ _ (by simp)]; exact h.c1
  · rw [World.cell?_setCell_other _ _ _ _ (by simp)]; exact h.c2
  · simpa using h.f0
  · simpa using h.f1
  · simpa using h.f2
  · simpa using h.f3
  · simpa [World.setCell] using h.hN

/-! saying a rune -/
theorem cells_u8s (l : List UInt8) : Lib.byteCells l = u8s l := rfl

theorem rune_any (w : World) (N : Nat) (a : Option Addr) (n cap : Nat) (l : List UInt8) (r : Nat) (hr : r ≤ 1114111) (h : Own 5 w N a n cap (u8s l)) (hl : n ≤ 1000000) (hN : N ≤ w.heap.size) :
    Calls Tryd.prog 18 #[.slice a n cap, .int .i32 (r : Int)] w fun e w' => ∃ a' c', e = .returned (.slice a' (n + (Lib.encodeRune (r : Int)).length) c') ∧ Own 5 w' N a' (n + (Lib.encodeRune (r : Int)).length) c' (u8s (l ++ Lib.encodeRune (r : Int))) ∧ w.grownBy w' (Value.slice a n cap).ownBlock := by
  refine (Tryd.utf8_AppendRune_plain N (.slice a n cap) n (u8s l) (r : Int) (by omega) (by omega) w h.1 (by omega) hN).mono ?_
  rintro e w' ⟨v', rfl, h1, o, hg⟩
  have hlen := (Lib.runeCells_le (r : Int))
  rw [Lib.runeCells_length] at h1 hlen
  have e1 : u8s l ++ Lib.runeCells (r : Int) = u8s (l ++ Lib.encodeRune (r : Int)) := by rw [u8s_append, ← Lib.byteCells_encodeRune]; rfl
  rw [e1] at h1
  obtain ⟨a', c', rfl⟩ : ∃ a' c', v' = .slice a' (n + (Lib.encodeRune (r : Int)).length) c' := by
    rcases h1.2 with ⟨rfl, h0⟩ | ⟨g, c', cur, rfl, _⟩
    · exact ⟨none, 0, by rw [h0]⟩
    · exact ⟨_, _, rfl⟩
  refine ⟨a', c', rfl, ⟨h1, ?_, by omega⟩, grown_alloc hg⟩
  rw [u8s_length, List.length_append, ← u8s_length l, h.2.1]

theorem say_any (w : World) (R N : Nat) (s : M.St) (r : Nat) (hr : r ≤ 1114111) (h : Reads w R N s) (hl : s.wd.length ≤ 100000) :
    Calls Tryd.prog 37 #[.pointer (some ⟨R, 0, none⟩), .int .i32 (r : Int)] w fun e w' => e = .returned (.tuple #[]) ∧ Reads w' R N (M.say r s) ∧ Mov R N w w' := by
  obtain ⟨aw, nw, cw, ad, nd, cd, h⟩ := h
  have hnd : nd = s.wd.length := by have := h.rd.2.1; rw [u8s_length] at this; omega
  have C := Lib.hid (rune_any w N ad nd cd s.wd r hr h.rd (by omega) h.hN)
  have H := Lib.hid h
  have c2 := h.c2
  clear h hr hl hnd
  go_enter Tryd.func37, Tryd.ntmps37
  go_wp2_with (go_at_call 18; refine C.out.mono ?_; rintro e w1 ⟨a', c', rfl, ho, hg⟩; have HW := Lib.hid (H.out.word hg ho); have e2 := HW.out.1.1; have f2 := HW.out.1.2; clear ho hg)
  refine bodyPost_end (results_none rfl _ _ _) rfl ?_
  exact ⟨rfl, ⟨_, _, _, _, _, _, HW.out.2.1⟩, HW.out.2.2⟩
end Go.Proofs.YtaldkdiijflmdaaDoor
