/-
  A row and the document's own row at once, with an act and what is done to them.
-/
import Derived.Test.YtcdihcloihnpkaaBRef6
import Derived.Test.YtcdihcloihnpkaaBOpen
namespace Go.Proofs.Ytcdihcloihnpkaa.B
open Go.RowKit
set_option linter.unusedVariables false
set_option linter.unusedSimpArgs false
set_option maxRecDepth 20000

def xc (x : A) : Array Value := #[.int .i64 x.kind, .int .i64 x.i, .int .i64 x.n]
structure Mid (w wx : World) (Z R Qb c m : Nat) (x : A) (n1 m1 n2 m2 : Nat) : Prop where
  X : Blk wx Z 33 (xc x)
  s : At wx (Z + 1) n1 m1
  t : RAt wx (Z + 2) n2 m2
  r : At wx R c m
  q : RAt wx Qb c m
  b : Below w.heap.size w wx
  rz : R < Z
  qz : Qb < Z
  wz : w.heap.size ≤ Z

section
variable {w wx wy : World} {Z R Qb c m : Nat} {x : A} {n1 m1 n2 m2 : Nat}
theorem Mid.x0 (h : Mid w wx Z R Qb c m x n1 m1 n2 m2) : wx.cell? ⟨Z, 0, none⟩ = some (.int .i64 x.kind) := by rw [h.X.cell]; rfl
theorem Mid.x1 (h : Mid w wx Z R Qb c m x n1 m1 n2 m2) : wx.cell? ⟨Z, 1, none⟩ = some (.int .i64 x.i) := by rw [h.X.cell]; rfl
theorem Mid.x2 (h : Mid w wx Z R Qb c m x n1 m1 n2 m2) : wx.cell? ⟨Z, 2, none⟩ = some (.int .i64 x.n) := by rw [h.X.cell]; rfl
theorem Mid.zl (h : Mid w wx Z R Qb c m x n1 m1 n2 m2) : Z + 2 < wx.heap.size := h.t.lt
theorem Mid.below (h : Mid w wx Z R Qb c m x n1 m1 n2 m2) (hb : Below wx.heap.size wx wy) : Mid w wy Z R Qb c m x n1 m1 n2 m2 where
  X := h.X.below hb h.X.lt
  s := h.s.below hb h.s.lt
  t := h.t.below hb h.t.lt
  r := h.r.below hb h.r.lt
  q := h.q.below hb h.q.lt
  b := below_up h.b hb h.b.size
  rz := h.rz
  qz := h.qz
  wz := h.wz
theorem Mid.alloc (h : Mid w wx Z R Qb c m x n1 m1 n2 m2) (o : Obj) : Mid w (wx.alloc o) Z R Qb c m x n1 m1 n2 m2 := h.below (bel1 wx o)
theorem Mid.drew (h : Mid w wx Z R Qb c m x n1 m1 n2 m2) : Mid w wx.drew Z R Qb c m x n1 m1 n2 m2 := h.below ⟨rfl, rfl, rfl, Nat.le_refl _, fun _ _ => rfl⟩
theorem Mid.setS (h : Mid w wx Z R Qb c m x n1 m1 n2 m2) (n' m' : Nat) : Mid w ((wx.setCell ⟨Z + 1, 0, none⟩ (.int .i64 (n' : Int))).setCell ⟨Z + 1, 1, none⟩ (.int .u64 (m' : Int))) Z R Qb c m x n' m' n2 m2 where
  X := by
    have h1 : ((wx.setCell ⟨Z + 1, 0, none⟩ (.int .i64 (n' : Int))).setCell ⟨Z + 1, 1, none⟩ (.int .u64 (m' : Int))).heap[Z]? = wx.heap[Z]? := (Below.heap_setCell _ _ _ _ (by simp)).trans (Below.heap_setCell _ _ _ _ (by simp))
    exact h1.trans h.X
  s := (h.s.setN rfl).setM rfl
  t := (h.t.far (by simp) _).far (by simp) _
  r := (h.r.far (by have := h.rz; simp; omega) _).far (by have := h.rz; simp; omega) _
  q := (h.q.far (by have := h.qz; simp; omega) _).far (by have := h.qz; simp; omega) _
  b := (h.b.setCell (by have := h.wz; simp; omega) _).setCell (by have := h.wz; simp; omega) _
  rz := h.rz
  qz := h.qz
  wz := h.wz
theorem Mid.setT (h : Mid w wx Z R Qb c m x n1 m1 n2 m2) (n' m' : Nat) : Mid w (wx.setCells (Z + 2) 0 (rl n' m')) Z R Qb c m x n1 m1 n' m' where
  X := (heap_setCells _ _ _ _ _ (by omega)).trans h.X
  s := h.s.of_block (heap_setCells _ _ _ _ _ (by omega))
  t := h.t.store n' m'
  r := h.r.of_block (heap_setCells _ _ _ _ _ (by have := h.rz; omega))
  q := h.q.of_block (heap_setCells _ _ _ _ _ (by have := h.qz; omega))
  b := below_setCells (by have := h.wz; omega) _ _ h.b
  rz := h.rz
  qz := h.qz
  wz := h.wz
theorem mid_start {wr : World} (gr : At wr R c m) (gq : RAt wr Qb c m) (gb : Below w.heap.size w wr) (x : A) (hw : wx = ((wr.alloc (.cells (xc x) 33)).alloc (.cells #[.int .i64 (c : Int), .int .u64 (m : Int)] 26)).alloc (.cells (rl 0 0).toArray 30)) :
    Mid w wx wr.heap.size R Qb c m x c m 0 0 where
  X := by
    subst hw
    have h1 : Blk (wr.alloc (.cells (xc x) 33)) wr.heap.size 33 (xc x) := Blk.new wr 33 (xc x)
    exact (h1.below (bel1 _ _) h1.lt).below (bel1 _ _) (by rw [size1]; have := h1.lt; omega)
  s := by
    subst hw
    have := at_new (wr.alloc (.cells (xc x) 33)) c m
    rw [size1] at this
    exact this.alloc _
  t := by
    subst hw
    have := rat_new ((wr.alloc (.cells (xc x) 33)).alloc (.cells #[.int .i64 (c : Int), .int .u64 (m : Int)] 26)) 0 0
    rw [size1, size1] at this
    exact this
  r := by subst hw; exact ((gr.alloc _).alloc _).alloc _
  q := by subst hw; exact ((gq.alloc _).alloc _).alloc _
  b := by subst hw; exact ((gb.alloc gb.size _).alloc (by rw [size1]; have := gb.size; omega) _).alloc (by rw [size1, size1]; have := gb.size; omega) _
  rz := gr.lt
  qz := gq.lt
  wz := gb.size
end
theorem wp_alloc30 {o : Oper} {a : Act} {w : World} {K : Act → World → Prop} {Q : Exit → Act → World → Prop} (ho : o.op = .alloc 30)
    (h : K (a.put o.dst (.pointer (some ⟨w.heap.size, 0, none⟩))) (w.alloc (.cells (rl 0 0).toArray 30))) : o.wp Try.prog a w K Q := by
  unfold Oper.wp
  simp only [execOp, ho, Instr.alloc, Sem.run_bind, zero30, Result.andThen_ok, newVar30, Sem.run_pure, Result.andThen]
  exact h
theorem wp_store30 {o : Oper} {a : Act} {w : World} {K : Act → World → Prop} {Q : Exit → Act → World → Prop} {n m : Nat} (x y : Operand) (ho : o.op = .store 30 x y) (b : Nat) (hx : a.eval x = .pointer (some ⟨b, 0, none⟩)) (hy : a.eval y = RV n m) (ht : w.there b 0 65)
    (h : K (a.put o.dst undef) (w.setCells b 0 (rl n m))) : o.wp Try.prog a w K Q := by
  have h1 : (rl n m).toArray.size = 65 := by rw [List.size_toArray, rl_len]
  exact wp_store_mid 30 x y ho b 0 _ hx hy (by rw [h1]; exact ht) (by rw [size30, h1]) (all_oneCell_toArray (rl_one n m)) (by simpa using h)
end Go.Proofs.Ytcdihcloihnpkaa.B
namespace Go.Proofs.Ytcdihcloihnpkaa.B
open Go.RowKit
theorem size26 : (Try.prog.info? 26).map (·.size) = some 2 := by kernel_rfl
def vl (n m : Nat) : List Value := [.int .i64 (n : Int), .int .u64 (m : Int)]
theorem At.range {w : World} {b n m : Nat} (h : At w b n m) : w.rangeAt b 0 (vl n m) := fun j v hv => by
  match j, hv with
  | 0, hv => injection hv with hv; subst hv; exact h.c0
  | 1, hv => injection hv with hv; subst hv; exact h.c1
theorem wp_store26 {o : Oper} {a : Act} {w : World} {K : Act → World → Prop} {Q : Exit → Act → World → Prop} {n m n0 m0 : Nat} (x y : Operand) (ho : o.op = .store 26 x y) (b : Nat) (hx : a.eval x = .pointer (some ⟨b, 0, none⟩)) (hy : a.eval y = .agg (vl n m).toArray) (ht : At w b n0 m0)
    (h : K (a.put o.dst undef) ((w.setCell ⟨b, 0, none⟩ (.int .i64 (n : Int))).setCell ⟨b, 1, none⟩ (.int .u64 (m : Int)))) : o.wp Try.prog a w K Q := by
  refine wp_store_mid 26 x y ho b 0 _ hx hy (fun j hj => ?_) (by rw [size26]; rfl) (all_oneCell_toArray (by intro v hv; simp [vl] at hv; rcases hv with rfl | rfl <;> rfl)) (by simpa [vl, World.setCells] using h)
  have hj2 : j < 2 := by simpa [vl] using hj
  refine ⟨?_, ht.fz _⟩
  have : j = 0 ∨ j = 1 := by omega
  rcases this with rfl | rfl
  · rw [ht.c0]; rfl
  · rw [ht.c1]; rfl
end Go.Proofs.Ytcdihcloihnpkaa.B
namespace Go.Proofs.Ytcdihcloihnpkaa.B
open Go.RowKit
/-- the row turned, the document's own one not yet -/
structure Half (w wx : World) (Z R Qb n m M : Nat) : Prop where
  s : At wx (Z + 1) n M
  t : RAt wx (Z + 2) n M
  r : At wx R n M
  q : RAt wx Qb n m
  b : Below w.heap.size w wx
theorem half_of {w wx : World} {Z R Qb n m M : Nat} {x : A} (h : Mid w wx Z R Qb n m x n M n M) (hne : R < Qb) (hw : w.heap.size ≤ R) : Half w ((wx.setCell ⟨R, 0, none⟩ (.int .i64 (n : Int))).setCell ⟨R, 1, none⟩ (.int .u64 (M : Int))) Z R Qb n m M where
  s := (h.s.far (by have := h.rz; simp; omega) _).far (by have := h.rz; simp; omega) _
  t := (h.t.far (by have := h.rz; simp; omega) _).far (by have := h.rz; simp; omega) _
  r := (h.r.setN rfl).setM rfl
  q := (h.q.far (by simp; omega) _).far (by simp; omega) _
  b := (h.b.setCell hw _).setCell hw _
theorem whole_of {w wx : World} {Z R Qb n m M : Nat} (h : Half w wx Z R Qb n m M) (hne : R < Qb) (hw : w.heap.size ≤ Qb) (hz : Qb < Z) : Half w (wx.setCells Qb 0 (rl n M)) Z R Qb n M M where
  s := h.s.of_block (heap_setCells _ _ _ _ _ (by omega))
  t := h.t.of_block (heap_setCells _ _ _ _ _ (by omega))
  r := h.r.of_block (heap_setCells _ _ _ _ _ (by omega))
  q := h.q.store n M
  b := below_setCells hw _ _ h.b
end Go.Proofs.Ytcdihcloihnpkaa.B
namespace Go.Proofs.Ytcdihcloihnpkaa.B
open Go.RowKit
theorem wp_store30b {o : Oper} {a : Act} {w w0 : World} {K : Act → World → Prop} {Q : Exit → Act → World → Prop} {n m n0 m0 : Nat} (x y : Operand) (ho : o.op = .store 30 x y) (b : Nat) (hx : a.eval x = .pointer (some ⟨b, 0, none⟩)) (hy : a.eval y = RV n m) (hr : RAt w b n0 m0) (hb : Below w0.heap.size w0 w) (hB : w0.heap.size ≤ b)
    (h : ∀ w', RAt w' b n m → Below w0.heap.size w0 w' → K (a.put o.dst undef) w') : o.wp Try.prog a w K Q :=
  wp_store30 x y ho b hx hy hr.there (h _ (hr.store n m) (below_setCells hB _ _ hb))
theorem wp_alloc30b {o : Oper} {a : Act} {w w0 : World} {K : Act → World → Prop} {Q : Exit → Act → World → Prop} (ho : o.op = .alloc 30) (hb : Below w0.heap.size w0 w)
    (h : ∀ g w', g = w.heap.size → RAt w' g 0 0 → w0.heap.size ≤ g → Below w0.heap.size w0 w' → K (a.put o.dst (.pointer (some ⟨g, 0, none⟩))) w') : o.wp Try.prog a w K Q :=
  wp_alloc30 ho (h _ _ rfl (rat_new w 0 0) hb.size (hb.alloc hb.size _))
end Go.Proofs.Ytcdihcloihnpkaa.B
