/-
  What a message does to a life.
-/
import Derived.Test.YtpoolpckabpnfaaWtLife
import Derived.BigQuiet
import Derived.Deep.RegionHeld3
import Derived.Deep.DeepCutAuto
namespace Go.Proofs.Ytpoolpckabpnfaa.Wt
open Go.RowKit
open Ml (Mg may msgV MB)
set_option linter.unusedVariables false
set_option linter.unusedSimpArgs false
set_option maxRecDepth 20000

variable {w0 w w' : World} {gB pB dB sB mB : Nat} {d : M.Dv} {tB cB : Nat} {c : M.Cl} {L W : Int} {N : Nat} {E : Int → Option Int}


theorem ret_msg4 {fn : Func} (hres : fn.results = #[.cell 4 35, .tmp 5]) {R : Ending → World → Prop} {a : Act} {w : World} {g : Nat} {m : Mg} {v : Value} (h2 : a.tmps.getD 4 undef = .pointer (some ⟨g, 0, none⟩)) (h3 : a.tmps.getD 5 undef = v) (hd : a.defers = []) (h : MB w g m)
    (hR : R (.returned (.tuple #[msgV m, v])) w) : bodyPost Try.prog fn R .ret a w := by
  obtain ⟨k0, k1, k2, k3, k4, k5, k6, k7, k8, k9, k10, k11, k12⟩ := h.cells
  simp only [Array.getD_eq_getD_getElem?] at h2 h3
  refine bodyPost_ret_by ?_ hd hR
  simp [results, hres, h2, h3, go_sem, k0, k1, k2, k3, k4, k5, k6, k7, k8, k9, k10, k11, k12, msgV, Ml.Mg.cells]
/-- the boxes of an act, and of what comes of it -/
theorem do_boxes (w : World) (cs : Array Value) : Bo ((w.alloc (.cells cs 38)).alloc (.cells Ml.nil.cells 35)) w.heap.size cs 38 ∧ MB ((w.alloc (.cells cs 38)).alloc (.cells Ml.nil.cells 35)) (w.heap.size + 1) Ml.nil ∧ Below w.heap.size w ((w.alloc (.cells cs 38)).alloc (.cells Ml.nil.cells 35)) :=
  ⟨(Bo.new w _ _).below ((Below.refl (w.heap.size + 1) _).alloc (by simp) _) (by omega), mb_new2 w _ _ _, ((Below.refl _ _).alloc (Nat.le_refl _) _).alloc (by simp) _⟩
theorem mg_size : (Try.prog.info? 35).map (·.size) = some 13 := by kernel_rfl
theorem mg_one (m : Mg) : ∀ v ∈ m.cells.toList, v.oneCell' = true := by
  intro v hv
  simp only [Mg.cells, List.mem_cons, List.not_mem_nil, or_false] at hv
  rcases hv with rfl | rfl | rfl | rfl | rfl | rfl | rfl | rfl | rfl | rfl | rfl | rfl | rfl <;> rfl
theorem mb_range {w : World} {g : Nat} {m : Mg} (h : MB w g m) : w.rangeAt g 0 m.cells.toList := fun j v hv => by
  rw [Nat.zero_add, h.cell, ← Array.getElem?_toList]; exact hv
theorem mb_there {w : World} {g : Nat} {m : Mg} (h : MB w g m) : w.there g 0 13 := fun j hj => by
  rw [Nat.zero_add]
  exact ⟨h.there j hj, h.fz j⟩
section
variable {ops : Array Oper} {rest : List Oper} {o : Oper} {a : Act} {Q : Exit → Act → World → Prop}
theorem wpList_loadM {w : World} (hg : o.guard = none) (x : Operand) (ho : o.op = .load 35 x) (b off : Nat) (hx : a.eval x = .pointer (some ⟨b, off, none⟩)) (y : Mg) (hc : w.rangeAt b off y.cells.toList)
    (h : wpList Try.prog ops Q rest (a.put o.dst (msgV y)) w) : wpList Try.prog ops Q (o :: rest) a w :=
  wpList_load_mid hg 35 x ho b off hx y.cells.toList _ hc Try.underlying35 rfl (by rw [mg_size]; rfl) h
theorem wpList_storeM {w : World} (hg : o.guard = none) (x y : Operand) (ho : o.op = .store 35 x y) (b : Nat) (hx : a.eval x = .pointer (some ⟨b, 0, none⟩)) (z : Mg) (hy : a.eval y = msgV z) (ht : w.there b 0 13)
    (h : ∀ w', w' = w.setCells b 0 z.cells.toList → wpList Try.prog ops Q rest (a.put o.dst undef) w') : wpList Try.prog ops Q (o :: rest) a w :=
  wpList_store_mid hg 35 x y ho b 0 z.cells hx hy ht (by rw [mg_size]; rfl) (by
    have := all_oneCell_toArray (mg_one z)
    simpa using this) (h _ rfl)
end


/-- a life, whatever goes with what was granted -/
structure LB (w0 w : World) (gB pB dB sB mB : Nat) (d : M.Dv) (tB cB : Nat) (c : M.Cl) (L W : Int) (N : Nat) (E : Int → Option Int) : Prop where
  ws : WS w dB sB mB 2 d tB cB 0 1 c L W
  lf : Bo w gB (lfC dB tB W pB) 30
  mp : MapI w pB N E
  gp : gB ≠ pB ∧ gB ∉ ours dB sB mB cB tB ∧ pB ∉ ours dB sB mB cB tB
  bu : But (gB :: pB :: ours dB sB mB cB tB) w0 w
theorem LF.lb (h : LF w0 w gB pB dB sB mB d tB cB c L W N E) : LB w0 w gB pB dB sB mB d tB cB c L W N E := ⟨h.ws, h.lf, h.mp, h.gp, h.bu⟩
theorem LB.lf' (h : LB w0 w gB pB dB sB mB d tB cB c L W N E) (hf : FI 2 0 1 d c) (hg : Good E (fx c.text)) : LF w0 w gB pB dB sB mB d tB cB c L W N E := ⟨h.ws, h.lf, h.mp, h.gp, hf, hg, h.bu⟩
theorem LB.but (h : LB w0 w gB pB dB sB mB d tB cB c L W N E) {l : List Nat} (hb : But l w w') (hn : ∀ x ∈ l, x ∉ gB :: pB :: ours dB sB mB cB tB) (hl : ∀ x ∈ l, w0.heap.size ≤ x) : LB w0 w' gB pB dB sB mB d tB cB c L W N E where
  ws := h.ws.but hb fun x hx => fun hm => hn x hx (by simp [hm])
  lf := h.lf.but hb fun hx => hn _ hx (by simp)
  mp := h.mp.but hb fun hx => hn _ hx (by simp)
  gp := h.gp
  bu := but_more h.bu hb fun x hx => .inr (hl x hx)
theorem LB.below (h : LB w0 w gB pB dB sB mB d tB cB c L W N E) (hb : Below w.heap.size w w') : LB w0 w' gB pB dB sB mB d tB cB c L W N E := h.but (But.of_below hb) (by simp) (by simp)
theorem LB.lt (h : LB w0 w gB pB dB sB mB d tB cB c L W N E) : ∀ x ∈ gB :: pB :: ours dB sB mB cB tB, x < w.heap.size := by
  intro x hx
  simp only [List.mem_cons] at hx
  rcases hx with rfl | rfl | hx
  · exact h.lf.lt
  · exact h.mp.lt
  · exact h.ws.ours_lt x hx
theorem LB.not_mem (h : LB w0 w gB pB dB sB mB d tB cB c L W N E) {g : Nat} (hg : w.heap.size ≤ g) : g ∉ gB :: pB :: ours dB sB mB cB tB := fun hx => by have := h.lt _ hx; omega
theorem LB.turn (h : LB w0 w gB pB dB sB mB d tB cB c L W N E) {d' : M.Dv} {c' : M.Cl} {L' : Int} (hs : WS w' dB sB mB 2 d' tB cB 0 1 c' L' W) (hb : But (ours dB sB mB cB tB) w w') : LB w0 w' gB pB dB sB mB d' tB cB c' L' W N E where
  ws := hs
  lf := h.lf.but hb h.gp.2.1
  mp := h.mp.but hb h.gp.2.2
  gp := h.gp
  bu := but_more h.bu hb fun x hx => .inl (by simp [hx])
theorem LB.flag (h : LB w0 w gB pB dB sB mB d tB cB c L W N E) : LB w0 (w.setCell ⟨gB, 4, none⟩ (.bool false)) gB pB dB sB mB d tB cB c L W N E where
  ws := h.ws.but ((But.refl [gB] w).set _ (.inl (by simp))) (by simpa using h.gp.2.1)
  lf := h.lf.set 4 _
  mp := h.mp.but ((But.refl [gB] w).set (p := ⟨gB, 4, none⟩) _ (.inl (by simp))) (by simpa using Ne.symm h.gp.1)
  gp := h.gp
  bu := h.bu.set _ (.inl (by simp))
theorem LB.upd (h : LB w0 w gB pB dB sB mB d tB cB c L W N E) {N' : Nat} {E' : Int → Option Int} (hm : MapI w' pB N' E') (hb : But [pB] w w') : LB w0 w' gB pB dB sB mB d tB cB c L W N' E' where
  ws := h.ws.but hb (by simpa using h.gp.2.2)
  lf := h.lf.but hb (by simpa using h.gp.1)
  mp := hm
  gp := h.gp
  bu := but_more h.bu hb fun x hx => .inl (by simp at hx; simp [hx])


set_option maxHeartbeats 8000000 in
theorem do0 (h : LF w0 w gB pB dB sB mB d tB cB c L W N E) (x : Ac) (hk : x.kind = 0) (hN : N ≤ 500) :
    Calls Try.prog 11 #[.pointer (some ⟨gB, 0, none⟩), actV x] w fun e w' => e = .returned (.tuple #[msgV (takA 2 0 1 d c L x.fr x.m), .bool (takI 2 0 1 d c L x.fr x.m)]) ∧
      LF w0 w' gB pB dB sB mB (takD 2 0 1 d c L x.fr x.m) tB cB (takC 2 0 1 d c L x.fr x.m) (takL 2 0 1 d c L W x.fr x.m) W (if grants (takA 2 0 1 d c L x.fr x.m) (takI 2 0 1 d c L x.fr x.m) = true then N + 1 else N) (if grants (takA 2 0 1 d c L x.fr x.m) (takI 2 0 1 d c L x.fr x.m) = true then updI E (takA 2 0 1 d c L x.fr x.m).epoch x.fr else E) := by
  have HTk := Lib.hid (fun (w' : World) (h : WS w' dB sB mB 2 d tB cB 0 1 c L W) => take_any w' h x.fr x.m)
  have hgd := Good.take h.fi h.gd L x.fr x.m
  have hfi := (h.fi.take L x.fr x.m).1
  have HX := Lib.hid (do_boxes w x.cells.toArray)
  have HL := Lib.hid (h.below HX.out.2.2).lb
  have Hge := Lib.hid (fun g => @LF.not_mem w0 w gB pB dB sB mB d tB cB c L W N E h g)
  generalize takI 2 0 1 d c L x.fr x.m = I at *
  generalize takD 2 0 1 d c L x.fr x.m = D at *
  generalize takL 2 0 1 d c L W x.fr x.m = L2 at *
  generalize takC 2 0 1 d c L x.fr x.m = C2 at *
  generalize takA 2 0 1 d c L x.fr x.m = A at *
  generalize takE 2 0 1 d c L x.fr x.m = TE at *
  have Hgd := Lib.hid hgd
  have Hfi := Lib.hid hfi
  have hbe0 := h.bu.size
  have hpb0 := h.mp.lt
  have hgb0 := h.lf.lt
  clear h hgd hfi
  obtain ⟨kind, n, fr, ⟨mk, mep, msq, mn, mb, mc, me, m0, m1, m2, m3, data, row⟩, s, aL, nL, cL, l⟩ := x
  obtain ⟨ak, aep, asq, aN, ab, acl, ae, at0, at1, at2, at3, adt, arw⟩ := A
  simp only at hk
  subst hk
  simp only [actV, Ac.cells, msgV, Mg.cells, Ml.nil] at *
  go_enter Try.func11, Try.ntmps11
  go_upto_region 3 with fail
  generalize hW0 : (w.alloc (.cells #[.int .i64 0, .int .i64 n, .int .i64 fr, .int .i64 mk, .int .i64 mep, .int .i64 msq, .int .i64 mn, .int .i64 mb, .int .i64 mc, .int .i64 me, .int .i64 m0, .int .i64 m1, .int .i64 m2, .int .i64 m3, .string data, .string row, .string s, .slice aL nL cL] 38)).alloc (.cells #[.int .i64 0, .int .i64 0, .int .i64 0, .int .i64 0, .int .i64 0, .int .i64 0, .int .i64 0, .int .i64 0, .int .i64 0, .int .i64 0, .int .i64 0, .string ⟨#[]⟩, .string ⟨#[]⟩] 35) = W0 at *
  have Hsz : Hid (w.heap.size + 1 < W0.heap.size) := Lib.hid HX.out.2.1.lt
  have HL0 : Hid (w0.heap.size ≤ w.heap.size) := Lib.hid hbe0
  have HpB : Hid (pB < w.heap.size) := Lib.hid hpb0
  have HgL : Hid (gB < w.heap.size) := Lib.hid hgb0
  clear hW0 hbe0 hpb0 hgb0
  have HS : Hid (∀ w' : World, w'.heap[gB]? = W0.heap[gB]? → w'.heap[w.heap.size]? = W0.heap[w.heap.size]? → w'.cell? ⟨gB, 1, none⟩ = some (.pointer (some ⟨tB, 0, none⟩)) ∧ w'.cell? ⟨w.heap.size, 2, none⟩ = some (.int .i64 fr) ∧ w'.cell? ⟨w.heap.size, 3, none⟩ = some (.int .i64 mk) ∧ w'.cell? ⟨w.heap.size, 4, none⟩ = some (.int .i64 mep) ∧ w'.cell? ⟨w.heap.size, 5, none⟩ = some (.int .i64 msq) ∧ w'.cell? ⟨w.heap.size, 6, none⟩ = some (.int .i64 mn) ∧ w'.cell? ⟨w.heap.size, 7, none⟩ = some (.int .i64 mb) ∧ w'.cell? ⟨w.heap.size, 8, none⟩ = some (.int .i64 mc) ∧ w'.cell? ⟨w.heap.size, 9, none⟩ = some (.int .i64 me) ∧ w'.cell? ⟨w.heap.size, 10, none⟩ = some (.int .i64 m0) ∧ w'.cell? ⟨w.heap.size, 11, none⟩ = some (.int .i64 m1) ∧ w'.cell? ⟨w.heap.size, 12, none⟩ = some (.int .i64 m2) ∧ w'.cell? ⟨w.heap.size, 13, none⟩ = some (.int .i64 m3) ∧ w'.cell? ⟨w.heap.size, 14, none⟩ = some (.string data) ∧ w'.cell? ⟨w.heap.size, 15, none⟩ = some (.string row)) := Lib.hid fun w' h1 h2 => by
    have b1 := HL.out.lf.of_block h1
    have b2 := HX.out.1.of_block h2
    exact ⟨b1.cell 1, b2.cell 2, b2.cell 3, b2.cell 4, b2.cell 5, b2.cell 6, b2.cell 7, b2.cell 8, b2.cell 9, b2.cell 10, b2.cell 11, b2.cell 12, b2.cell 13, b2.cell 14, b2.cell 15⟩
  have HgB : Hid (gB ∉ ours dB sB mB cB tB ∧ gB < W0.heap.size ∧ w.heap.size ∉ ours dB sB mB cB tB ∧ w.heap.size < W0.heap.size) := Lib.hid ⟨HL.out.gp.2.1, HL.out.lf.lt, fun hx => Hge.out _ (Nat.le_refl _) (by simp [hx]), HX.out.1.lt⟩
  obtain ⟨q1, q2, q3, q4, q5, q6, q7, q8, q9, q10, q11, q12, q13, q14, q15⟩ := HS.out W0 rfl rfl
  have HSd := Lib.hid (HS.out W0.drew rfl rfl)
  have HSa := Lib.hid (HS.out (W0.alloc (.cells #[.int .i64 0, .int .i64 0, .int .i64 0, .int .i64 0, .int .i64 0, .int .i64 0, .int .i64 0, .int .i64 0, .int .i64 0, .int .i64 0, .int .i64 0, .string ⟨#[]⟩, .string ⟨#[]⟩] 35)).drew (heap_alloc_old W0 _ HgB.out.2.1) (heap_alloc_old W0 _ HgB.out.2.2.2))
  have HR1 : Hid (∀ w5 : World, WS w5 dB sB mB 2 D tB cB 0 1 C2 L2 W → But (ours dB sB mB cB tB) W0 w5 → ∀ wx g, wx = w5.alloc (.cells (Mg.cells ⟨ak, aep, asq, aN, ab, acl, ae, at0, at1, at2, at3, adt, arw⟩) 35) → g = w5.heap.size → MB wx g ⟨ak, aep, asq, aN, ab, acl, ae, at0, at1, at2, at3, adt, arw⟩ ∧ LB w0 wx gB pB dB sB mB D tB cB C2 L2 W N E ∧ Bo wx w.heap.size #[.int .i64 0, .int .i64 n, .int .i64 fr, .int .i64 mk, .int .i64 mep, .int .i64 msq, .int .i64 mn, .int .i64 mb, .int .i64 mc, .int .i64 me, .int .i64 m0, .int .i64 m1, .int .i64 m2, .int .i64 m3, .string data, .string row, .string s, .slice aL nL cL] 38 ∧ MB wx (w.heap.size + 1) Ml.nil ∧ W0.heap.size ≤ g) := Lib.hid fun w5 hs hb wx g e1 e2 => by
    subst e1 e2
    have hA := (Below.refl w5.heap.size w5).alloc (Nat.le_refl _) (.cells (Mg.cells ⟨ak, aep, asq, aN, ab, acl, ae, at0, at1, at2, at3, adt, arw⟩) 35)
    have b1 := HX.out.1.but hb HgB.out.2.2.1
    have b2 := mb_but HX.out.2.1 hb (fun hx => Hge.out _ (Nat.le_succ _) (by simp [hx]))
    exact ⟨MB.new w5 _, (HL.out.turn hs hb).below hA, b1.below hA b1.lt, b2.below hA b2.lt, hb.size⟩
  have HR2 : Hid (∀ w5 : World, WS w5 dB sB mB 2 D tB cB 0 1 C2 L2 W → But (ours dB sB mB cB tB) W0 w5 → MB w5 W0.heap.size Ml.nil → ∀ wx g, wx = w5.setCells W0.heap.size 0 (Mg.cells ⟨ak, aep, asq, aN, ab, acl, ae, at0, at1, at2, at3, adt, arw⟩).toList → g = W0.heap.size → MB wx g ⟨ak, aep, asq, aN, ab, acl, ae, at0, at1, at2, at3, adt, arw⟩ ∧ LB w0 wx gB pB dB sB mB D tB cB C2 L2 W N E ∧ Bo wx w.heap.size #[.int .i64 0, .int .i64 n, .int .i64 fr, .int .i64 mk, .int .i64 mep, .int .i64 msq, .int .i64 mn, .int .i64 mb, .int .i64 mc, .int .i64 me, .int .i64 m0, .int .i64 m1, .int .i64 m2, .int .i64 m3, .string data, .string row, .string s, .slice aL nL cL] 38 ∧ MB wx (w.heap.size + 1) Ml.nil ∧ W0.heap.size ≤ g) := Lib.hid fun w5 hs hb hz wx g e1 e2 => by
    subst e1 e2
    have hA := (But.refl [W0.heap.size] w5).sets W0.heap.size 0 (Mg.cells ⟨ak, aep, asq, aN, ab, acl, ae, at0, at1, at2, at3, adt, arw⟩).toList (.inl (by simp))
    have b1 := HX.out.1.but hb HgB.out.2.2.1
    have b2 := mb_but HX.out.2.1 hb (fun hx => Hge.out _ (Nat.le_succ _) (by simp [hx]))
    have l1 := HgB.out.2.2.2
    have l2 := Hsz.out
    exact ⟨Ml.mb_set' hz, (HL.out.turn hs hb).but hA (by simp only [List.mem_singleton]; rintro x rfl; exact fun hx => Hge.out _ (by omega) hx) (by simp only [List.mem_singleton]; rintro x rfl; have := HL.out.bu.size; omega), b1.but hA (by simp; omega), mb_but b2 hA (by simp; omega), Nat.le_refl _⟩
  go_cut [6, 7] (fun pv iv wx => ∃ g, pv = .pointer (some ⟨g, 0, none⟩) ∧ iv = .bool I ∧ MB wx g ⟨ak, aep, asq, aN, ab, acl, ae, at0, at1, at2, at3, adt, arw⟩ ∧ LB w0 wx gB pB dB sB mB D tB cB C2 L2 W N E ∧ Bo wx w.heap.size #[.int .i64 0, .int .i64 n, .int .i64 fr, .int .i64 mk, .int .i64 mep, .int .i64 msq, .int .i64 mn, .int .i64 mb, .int .i64 mc, .int .i64 me, .int .i64 m0, .int .i64 m1, .int .i64 m2, .int .i64 m3, .string data, .string row, .string s, .slice aL nL cL] 38 ∧ MB wx (w.heap.size + 1) Ml.nil ∧ W0.heap.size ≤ g)
  case first =>
   go_region_held3 (fun w' => w'.cell? ⟨gB, 1, none⟩ = some (.pointer (some ⟨tB, 0, none⟩)) ∧ w'.cell? ⟨w.heap.size, 2, none⟩ = some (.int .i64 fr) ∧ w'.cell? ⟨w.heap.size, 3, none⟩ = some (.int .i64 mk) ∧ w'.cell? ⟨w.heap.size, 4, none⟩ = some (.int .i64 mep) ∧ w'.cell? ⟨w.heap.size, 5, none⟩ = some (.int .i64 msq) ∧ w'.cell? ⟨w.heap.size, 6, none⟩ = some (.int .i64 mn) ∧ w'.cell? ⟨w.heap.size, 7, none⟩ = some (.int .i64 mb) ∧ w'.cell? ⟨w.heap.size, 8, none⟩ = some (.int .i64 mc) ∧ w'.cell? ⟨w.heap.size, 9, none⟩ = some (.int .i64 me) ∧ w'.cell? ⟨w.heap.size, 10, none⟩ = some (.int .i64 m0) ∧ w'.cell? ⟨w.heap.size, 11, none⟩ = some (.int .i64 m1) ∧ w'.cell? ⟨w.heap.size, 12, none⟩ = some (.int .i64 m2) ∧ w'.cell? ⟨w.heap.size, 13, none⟩ = some (.int .i64 m3) ∧ w'.cell? ⟨w.heap.size, 14, none⟩ = some (.string data) ∧ w'.cell? ⟨w.heap.size, 15, none⟩ = some (.string row))
    (first
      | with_reducible exact ⟨q1, q2, q3, q4, q5, q6, q7, q8, q9, q10, q11, q12, q13, q14, q15⟩
      | with_reducible exact HSd.out
      | with_reducible exact HSa.out
      | with_reducible exact HS5.out
      | with_reducible exact HS5a.out
      | with_reducible exact HS5b.out
      | with_reducible exact HS6.out)
    (first
      | (go_at_call 19; with_reducible refine (HTk.out W0.drew (HL.out.below (Below.refl W0.heap.size W0).drew).ws).mono ?_
         rintro e w5 ⟨rfl, hs5, hb5⟩
         have S5 := Lib.hid hs5
         have B5 : Hid (But (ours dB sB mB cB tB) W0 w5) := Lib.hid (((But.of_below (Below.refl W0.heap.size W0).drew).mono (by simp)).trans hb5)
         have g1 : w5.heap[gB]? = W0.heap[gB]? := B5.out.block _ HgB.out.2.1 HgB.out.1
         have g2 : w5.heap[w.heap.size]? = W0.heap[w.heap.size]? := B5.out.block _ HgB.out.2.2.2 HgB.out.2.2.1
         have HS5 := Lib.hid (HS.out w5 g1 g2)
         have HS5a := Lib.hid (HS.out (w5.alloc (.cells #[.int .i64 0, .int .i64 0, .int .i64 0, .int .i64 0, .int .i64 0, .int .i64 0, .int .i64 0, .int .i64 0, .int .i64 0, .int .i64 0, .int .i64 0, .string ⟨#[]⟩, .string ⟨#[]⟩] 35)) ((heap_alloc_old w5 _ (Nat.lt_of_lt_of_le HgB.out.2.1 B5.out.size)).trans g1) ((heap_alloc_old w5 _ (Nat.lt_of_lt_of_le HgB.out.2.2.2 B5.out.size)).trans g2))
         have HS5b := Lib.hid (HS.out (w5.alloc (.cells #[.int .i64 ak, .int .i64 aep, .int .i64 asq, .int .i64 aN, .int .i64 ab, .int .i64 acl, .int .i64 ae, .int .i64 at0, .int .i64 at1, .int .i64 at2, .int .i64 at3, .string adt, .string arw] 35)) ((heap_alloc_old w5 _ (Nat.lt_of_lt_of_le HgB.out.2.1 B5.out.size)).trans g1) ((heap_alloc_old w5 _ (Nat.lt_of_lt_of_le HgB.out.2.2.2 B5.out.size)).trans g2))
         clear hs5 hb5 g1 g2)
      | (go_at_call 19; with_reducible refine (HTk.out (W0.alloc (.cells #[.int .i64 0, .int .i64 0, .int .i64 0, .int .i64 0, .int .i64 0, .int .i64 0, .int .i64 0, .int .i64 0, .int .i64 0, .int .i64 0, .int .i64 0, .string ⟨#[]⟩, .string ⟨#[]⟩] 35)).drew (HL.out.below ((Below.refl W0.heap.size W0).alloc (Nat.le_refl _) _).drew).ws).mono ?_
         rintro e w5 ⟨rfl, hs5, hb5⟩
         have S5 := Lib.hid hs5
         have B5 : Hid (But (ours dB sB mB cB tB) W0 w5) := Lib.hid (((But.of_below ((Below.refl W0.heap.size W0).alloc (Nat.le_refl _) _).drew).mono (by simp)).trans hb5)
         have Z5 := Lib.hid (mb_but (MB.new W0 Ml.nil).drew hb5 (fun hx => Hge.out _ (by have := Hsz.out; show w.heap.size ≤ W0.heap.size; omega) (by simp [hx])))
         obtain ⟨z0, z1, z2, z3, z4, z5, z6, z7, z8, z9, z10, z11, z12⟩ := Z5.out.cells
         have zf := Z5.out.fz
         have HZs := (But.refl [W0.heap.size] w5).sets W0.heap.size 0 (Mg.cells ⟨ak, aep, asq, aN, ab, acl, ae, at0, at1, at2, at3, adt, arw⟩).toList (.inl (by simp))
         have g1 : w5.heap[gB]? = W0.heap[gB]? := B5.out.block _ HgB.out.2.1 HgB.out.1
         have g2 : w5.heap[w.heap.size]? = W0.heap[w.heap.size]? := B5.out.block _ HgB.out.2.2.2 HgB.out.2.2.1
         have HS5 := Lib.hid (HS.out w5 g1 g2)
         have HS6 := Lib.hid (HS.out (((((((((((((w5.setCell ⟨W0.heap.size, 0, none⟩ (.int .i64 ak)).setCell ⟨W0.heap.size, 1, none⟩ (.int .i64 aep)).setCell ⟨W0.heap.size, 2, none⟩ (.int .i64 asq)).setCell ⟨W0.heap.size, 3, none⟩ (.int .i64 aN)).setCell ⟨W0.heap.size, 4, none⟩ (.int .i64 ab)).setCell ⟨W0.heap.size, 5, none⟩ (.int .i64 acl)).setCell ⟨W0.heap.size, 6, none⟩ (.int .i64 ae)).setCell ⟨W0.heap.size, 7, none⟩ (.int .i64 at0)).setCell ⟨W0.heap.size, 8, none⟩ (.int .i64 at1)).setCell ⟨W0.heap.size, 9, none⟩ (.int .i64 at2)).setCell ⟨W0.heap.size, 10, none⟩ (.int .i64 at3)).setCell ⟨W0.heap.size, 11, none⟩ (.string adt)).setCell ⟨W0.heap.size, 12, none⟩ (.string arw)) ((HZs.block gB (Nat.lt_of_lt_of_le HgB.out.2.1 B5.out.size) (by have := HgB.out.2.1; simp; omega)).trans g1) ((HZs.block w.heap.size (Nat.lt_of_lt_of_le HgB.out.2.2.2 B5.out.size) (by have := HgB.out.2.2.2; simp; omega)).trans g2))
         clear HZs g1 g2
         clear hs5 hb5))
   all_goals
     go_wp2_with fail
     go_meet
     first
       | exact ⟨_, rfl, rfl, HR2.out w5 S5.out B5.out Z5.out _ _ rfl rfl⟩
       | exact ⟨_, rfl, rfl, HR1.out w5 S5.out B5.out _ _ rfl rfl⟩
  case rest =>
    obtain ⟨g, rfl, rfl, hm, hlb, hxa, hz, hg0⟩ := hcut
    have HM := Lib.hid hm
    have HLb := Lib.hid hlb
    have HXa := Lib.hid hxa
    have HZ := Lib.hid hz
    have Hg0 : Hid (w.heap.size + 1 < W0.heap.size ∧ W0.heap.size ≤ g) := Lib.hid ⟨Hsz.out, hg0⟩
    have Hw0 : Hid (w0.heap.size ≤ w.heap.size + 1) := Lib.hid (by have := HL0.out; omega)
    clear hm hlb hxa hz hg0 q1 q2 q3 q4 q5 q6 q7 q8 q9 q10 q11 q12 q13 q14 q15
    cases I with
    | false =>
      have hgr : grants ⟨ak, aep, asq, aN, ab, acl, ae, at0, at1, at2, at3, adt, arw⟩ false = false := by simp [grants]
      have Hg := Lib.hid (Hgd.out.1 hgr)
      obtain ⟨z0, z1, z2, z3, z4, z5, z6, z7, z8, z9, z10, z11, z12⟩ := HZ.out.cells
      have zf := HZ.out.fz
      obtain ⟨c0, c1, c2, c3, c4, c5, c6, c7, c8, c9, c10, c11, c12⟩ := HM.out.cells
      simp only [Ml.nil] at z0 z1 z2 z3 z4 z5 z6 z7 z8 z9 z10 z11 z12
      go_wp2
      refine ret_msg4 (m := ⟨ak, aep, asq, aN, ab, acl, ae, at0, at1, at2, at3, adt, arw⟩) (v := .bool false) Try.results11 rfl rfl rfl (Ml.mb_set' HZ.out) ⟨rfl, ?_⟩
      (try rw [hgr])
      (try simp only [Bool.false_eq_true, if_false])
      exact ((HLb.out.but ((But.refl [w.heap.size + 1] _).sets (w.heap.size + 1) 0 (Mg.cells ⟨ak, aep, asq, aN, ab, acl, ae, at0, at1, at2, at3, adt, arw⟩).toList (.inl (by simp))) (by simp only [List.mem_singleton]; rintro x rfl; exact Hge.out _ (Nat.le_succ _)) (by simp only [List.mem_singleton]; rintro x rfl; exact Hw0.out)).lf' Hfi.out Hg.out)
    | true =>
      by_cases hk2 : ak = 2
      · by_cases he0 : ae = 0
        · subst hk2 he0
          obtain ⟨⟨g1, g2, g3, g4, g5, g6, g7, g8⟩, _⟩ := Hgd.out.2 (by simp [grants])
          simp only at g1 g3 g5 g6
          subst g1
          have HGd := Lib.hid g6
          have HB : Hid (-9223372036854775808 ≤ aep ∧ aep ≤ 9223372036854775807) := Lib.hid (by simp only [big] at g3; omega)
          have HB2 : Hid (-9223372036854775808 ≤ acl ∧ acl ≤ 9223372036854775807) := Lib.hid (by omega)
          have HN : Hid (N < 1000) := Lib.hid (by omega)
          have Hpg : Hid (w.heap.size ≠ pB ∧ w.heap.size + 1 ≠ pB ∧ g ≠ pB) := Lib.hid (by
            have h1 := HpB.out
            have h2 := Hg0.out
            omega)
          have e1 : ¬ aep < 1 := by omega
          have e2 : ((acl : Int) != acl) = false := by simp
          cases hE : E aep with
          | none =>
            have HE := Lib.hid hE
            clear hE g2 g3 g4 g5 g6 g7 g8
            as_aux_lemma =>
              clear HR1 HR2 HS HSd HSa
              have y3 := HLb.out.lf.cell 3
              simp only [lfC, List.getElem?_toArray, List.getElem?_cons_zero, List.getElem?_cons_succ] at y3
              have c0 := HM.out.cell 0
              have c1 := HM.out.cell 1
              have c6 := HM.out.cell 6
              simp only [Mg.cells, List.getElem?_toArray, List.getElem?_cons_zero, List.getElem?_cons_succ] at c0 c1 c6
              go_upto_region 5 with fail
              have hlk : ∀ w' : World, w'.heap[pB]? = wc.heap[pB]? → (Instr.lookup 28 (.map (some pB)) (.int .i64 aep) true).run Try.prog w' = .ok (.tuple #[.int .i64 ((E aep).getD 0), .bool (E aep).isSome]) w' := fun w' hw => mapi_look (HLb.out.mp.of_block hw) HB.out.1 HB.out.2
              simp only [HE.out, Option.getD_none, Option.getD_some, Option.isSome_none, Option.isSome_some] at hlk
              have hl1 := hlk wc rfl
              have hl2 := hlk wc.drew rfl
              clear hlk
              have HQ1 := Lib.hid (And.intro y3 (And.intro c1 hl1))
              have HQ2 := Lib.hid (And.intro (show wc.drew.cell? ⟨gB, 3, none⟩ = some (.map (some pB)) from y3) (And.intro (show wc.drew.cell? ⟨g, 1, none⟩ = some (.int .i64 aep) from c1) hl2))
              clear hl1 hl2
              go_region_held3 (fun w' => w'.cell? ⟨gB, 3, none⟩ = some (.map (some pB)) ∧ w'.cell? ⟨g, 1, none⟩ = some (.int .i64 aep) ∧ (Instr.lookup 28 (.map (some pB)) (.int .i64 aep) true).run Try.prog w' = .ok (.tuple #[.int .i64 0, .bool false]) w')
                (first
                  | with_reducible exact HQ1.out
                  | with_reducible exact HQ2.out)
                (fail)
              clear HQ1 HQ2
              have hbq : Below wc.heap.size wc wc.drew := (Below.refl _ _).drew
              have HLd := Lib.hid (HLb.out.below hbq)
              have HMd := Lib.hid (HM.out.below hbq HM.out.lt)
              have HZd := Lib.hid (HZ.out.below hbq HZ.out.lt)
              have HXd := Lib.hid (HXa.out.below hbq HXa.out.lt)
              clear HLb HM HZ HXa y3 c0 c1 c6
              generalize wc.drew = W5 at *
              have y4 := HLd.out.lf.cell 4
              have yf := HLd.out.lf.fz 4
              have a2 := HXd.out.cell 2
              simp only [lfC, List.getElem?_toArray, List.getElem?_cons_zero, List.getElem?_cons_succ] at y4 a2
              have c1 := HMd.out.cell 1
              have c5 := HMd.out.cell 5
              simp only [Mg.cells, List.getElem?_toArray, List.getElem?_cons_zero, List.getElem?_cons_succ] at c1 c5
              go_upto_region 7 with fail
              have HLf := Lib.hid HLd.out.flag
              have Hng : Hid (w.heap.size ≠ gB ∧ w.heap.size + 1 ≠ gB ∧ g ≠ gB) := Lib.hid (by have := HgL.out; have := Hg0.out; omega)
              have HMf : Hid (MB (W5.setCell ⟨gB, 4, none⟩ (.bool false)) g ⟨2, aep, asq, aN, ab, acl, 0, at0, at1, at2, at3, adt, arw⟩) := Lib.hid (mb_but HMd.out ((But.refl [gB] W5).set (p := ⟨gB, 4, none⟩) _ (.inl (by simp))) (by simpa using Hng.out.2.2))
              have HZf : Hid (MB (W5.setCell ⟨gB, 4, none⟩ (.bool false)) (w.heap.size + 1) Ml.nil) := Lib.hid (mb_but HZd.out ((But.refl [gB] W5).set (p := ⟨gB, 4, none⟩) _ (.inl (by simp))) (by simpa using Hng.out.2.1))
              have HXf : Hid (Bo (W5.setCell ⟨gB, 4, none⟩ (.bool false)) w.heap.size #[.int .i64 0, .int .i64 n, .int .i64 acl, .int .i64 mk, .int .i64 mep, .int .i64 msq, .int .i64 mn, .int .i64 mb, .int .i64 mc, .int .i64 me, .int .i64 m0, .int .i64 m1, .int .i64 m2, .int .i64 m3, .string data, .string row, .string s, .slice aL nL cL] 38) := Lib.hid (HXd.out.but ((But.refl [gB] W5).set (p := ⟨gB, 4, none⟩) _ (.inl (by simp))) (by simpa using Hng.out.1))
              clear HLd HMd HZd HXd y4 yf a2 c1 c5
              generalize W5.setCell ⟨gB, 4, none⟩ (.bool false) = W6 at *
              have y3 := HLf.out.lf.cell 3
              have a2 := HXf.out.cell 2
              simp only [lfC, List.getElem?_toArray, List.getElem?_cons_zero, List.getElem?_cons_succ] at y3 a2
              have c1 := HMf.out.cell 1
              simp only [Mg.cells, List.getElem?_toArray, List.getElem?_cons_zero, List.getElem?_cons_succ] at c1
              go_still_tail 8, (by kernel_rfl)
              change wpList _ _ _ _ _ W6.drew
              have HLd : Hid (LB w0 W6.drew gB pB dB sB mB D tB cB C2 L2 W N E) := Lib.hid (HLf.out.below (Below.refl _ _).drew)
              have HMd : Hid (MB W6.drew g ⟨2, aep, asq, aN, ab, acl, 0, at0, at1, at2, at3, adt, arw⟩) := Lib.hid HMf.out
              have HZd : Hid (MB W6.drew (w.heap.size + 1) Ml.nil) := Lib.hid HZf.out
              clear HLf HMf HZf HXf y3 a2 c1
              generalize W6.drew = W7 at *
              refine wpList_update_i rfl _ _ _ rfl pB rfl aep rfl acl rfl HLd.out.mp HN.out HB.out.1 HB.out.2 HB2.out ?_
              intro w8 hm8 hb8
              have HL8 := Lib.hid (HLd.out.upd hm8 hb8)
              have Hp := Hpg.out
              have HM8 := Lib.hid (mb_but HMd.out hb8 (by simpa using Hp.2.2))
              have HZ8 := Lib.hid (mb_but HZd.out hb8 (by simpa using Hp.2.1))
              clear hm8 hb8 Hp e1 e2
              go_wp2_with (first
                | (refine wpList_loadM rfl _ rfl g 0 rfl ⟨2, aep, asq, aN, ab, acl, 0, at0, at1, at2, at3, adt, arw⟩ (mb_range HM8.out) ?_)
                | (refine wpList_storeM rfl _ _ rfl (w.heap.size + 1) rfl ⟨2, aep, asq, aN, ab, acl, 0, at0, at1, at2, at3, adt, arw⟩ rfl (mb_there HZ8.out) ?_; intro w9 hw9))
              subst hw9
              refine ret_msg4 (m := ⟨2, aep, asq, aN, ab, acl, 0, at0, at1, at2, at3, adt, arw⟩) (v := .bool true) Try.results11 rfl rfl rfl (Ml.mb_set HZ8.out _) ⟨rfl, ?_⟩
              have hgr : grants ⟨2, aep, asq, aN, ab, acl, 0, at0, at1, at2, at3, adt, arw⟩ true = true := by simp [grants]
              (try rw [hgr])
              (try simp only [if_true])
              exact ((HL8.out.but ((But.refl [w.heap.size + 1] _).sets (w.heap.size + 1) 0 (Mg.cells ⟨2, aep, asq, aN, ab, acl, 0, at0, at1, at2, at3, adt, arw⟩).toList (.inl (by simp))) (by simp only [List.mem_singleton]; rintro x rfl; exact Hge.out _ (Nat.le_succ _)) (by simp only [List.mem_singleton]; rintro x rfl; exact Hw0.out)).lf' Hfi.out HGd.out)
          | some p =>
            obtain rfl := g5 p hE
            have HE := Lib.hid hE
            clear hE g2 g3 g4 g5 g6 g7 g8
            as_aux_lemma =>
              clear HR1 HR2 HS HSd HSa
              have y3 := HLb.out.lf.cell 3
              simp only [lfC, List.getElem?_toArray, List.getElem?_cons_zero, List.getElem?_cons_succ] at y3
              have c0 := HM.out.cell 0
              have c1 := HM.out.cell 1
              have c6 := HM.out.cell 6
              simp only [Mg.cells, List.getElem?_toArray, List.getElem?_cons_zero, List.getElem?_cons_succ] at c0 c1 c6
              go_upto_region 5 with fail
              have hlk : ∀ w' : World, w'.heap[pB]? = wc.heap[pB]? → (Instr.lookup 28 (.map (some pB)) (.int .i64 aep) true).run Try.prog w' = .ok (.tuple #[.int .i64 ((E aep).getD 0), .bool (E aep).isSome]) w' := fun w' hw => mapi_look (HLb.out.mp.of_block hw) HB.out.1 HB.out.2
              simp only [HE.out, Option.getD_none, Option.getD_some, Option.isSome_none, Option.isSome_some] at hlk
              have hl1 := hlk wc rfl
              have hl2 := hlk wc.drew rfl
              clear hlk
              have HQ1 := Lib.hid (And.intro y3 (And.intro c1 hl1))
              have HQ2 := Lib.hid (And.intro (show wc.drew.cell? ⟨gB, 3, none⟩ = some (.map (some pB)) from y3) (And.intro (show wc.drew.cell? ⟨g, 1, none⟩ = some (.int .i64 aep) from c1) hl2))
              clear hl1 hl2
              go_region_held3 (fun w' => w'.cell? ⟨gB, 3, none⟩ = some (.map (some pB)) ∧ w'.cell? ⟨g, 1, none⟩ = some (.int .i64 aep) ∧ (Instr.lookup 28 (.map (some pB)) (.int .i64 aep) true).run Try.prog w' = .ok (.tuple #[.int .i64 p, .bool true]) w')
                (first
                  | with_reducible exact HQ1.out
                  | with_reducible exact HQ2.out)
                (fail)
              clear HQ1 HQ2
              have hbq : Below wc.heap.size wc wc.drew := (Below.refl _ _).drew
              have HLd := Lib.hid (HLb.out.below hbq)
              have HMd := Lib.hid (HM.out.below hbq HM.out.lt)
              have HZd := Lib.hid (HZ.out.below hbq HZ.out.lt)
              have HXd := Lib.hid (HXa.out.below hbq HXa.out.lt)
              clear HLb HM HZ HXa y3 c0 c1 c6
              generalize wc.drew = W5 at *
              have y4 := HLd.out.lf.cell 4
              have yf := HLd.out.lf.fz 4
              have a2 := HXd.out.cell 2
              simp only [lfC, List.getElem?_toArray, List.getElem?_cons_zero, List.getElem?_cons_succ] at y4 a2
              have c1 := HMd.out.cell 1
              have c5 := HMd.out.cell 5
              simp only [Mg.cells, List.getElem?_toArray, List.getElem?_cons_zero, List.getElem?_cons_succ] at c1 c5
              go_upto_region 7 with fail
              have HLf := Lib.hid HLd.out.flag
              have Hng : Hid (w.heap.size ≠ gB ∧ w.heap.size + 1 ≠ gB ∧ g ≠ gB) := Lib.hid (by have := HgL.out; have := Hg0.out; omega)
              have HMf : Hid (MB (W5.setCell ⟨gB, 4, none⟩ (.bool false)) g ⟨2, aep, asq, aN, ab, p, 0, at0, at1, at2, at3, adt, arw⟩) := Lib.hid (mb_but HMd.out ((But.refl [gB] W5).set (p := ⟨gB, 4, none⟩) _ (.inl (by simp))) (by simpa using Hng.out.2.2))
              have HZf : Hid (MB (W5.setCell ⟨gB, 4, none⟩ (.bool false)) (w.heap.size + 1) Ml.nil) := Lib.hid (mb_but HZd.out ((But.refl [gB] W5).set (p := ⟨gB, 4, none⟩) _ (.inl (by simp))) (by simpa using Hng.out.2.1))
              have HXf : Hid (Bo (W5.setCell ⟨gB, 4, none⟩ (.bool false)) w.heap.size #[.int .i64 0, .int .i64 n, .int .i64 p, .int .i64 mk, .int .i64 mep, .int .i64 msq, .int .i64 mn, .int .i64 mb, .int .i64 mc, .int .i64 me, .int .i64 m0, .int .i64 m1, .int .i64 m2, .int .i64 m3, .string data, .string row, .string s, .slice aL nL cL] 38) := Lib.hid (HXd.out.but ((But.refl [gB] W5).set (p := ⟨gB, 4, none⟩) _ (.inl (by simp))) (by simpa using Hng.out.1))
              clear HLd HMd HZd HXd y4 yf a2 c1 c5
              generalize W5.setCell ⟨gB, 4, none⟩ (.bool false) = W6 at *
              have y3 := HLf.out.lf.cell 3
              have a2 := HXf.out.cell 2
              simp only [lfC, List.getElem?_toArray, List.getElem?_cons_zero, List.getElem?_cons_succ] at y3 a2
              have c1 := HMf.out.cell 1
              simp only [Mg.cells, List.getElem?_toArray, List.getElem?_cons_zero, List.getElem?_cons_succ] at c1
              go_still_tail 8, (by kernel_rfl)
              change wpList _ _ _ _ _ W6.drew
              have HLd : Hid (LB w0 W6.drew gB pB dB sB mB D tB cB C2 L2 W N E) := Lib.hid (HLf.out.below (Below.refl _ _).drew)
              have HMd : Hid (MB W6.drew g ⟨2, aep, asq, aN, ab, p, 0, at0, at1, at2, at3, adt, arw⟩) := Lib.hid HMf.out
              have HZd : Hid (MB W6.drew (w.heap.size + 1) Ml.nil) := Lib.hid HZf.out
              clear HLf HMf HZf HXf y3 a2 c1
              generalize W6.drew = W7 at *
              refine wpList_update_i rfl _ _ _ rfl pB rfl aep rfl p rfl HLd.out.mp HN.out HB.out.1 HB.out.2 HB2.out ?_
              intro w8 hm8 hb8
              have HL8 := Lib.hid (HLd.out.upd hm8 hb8)
              have Hp := Hpg.out
              have HM8 := Lib.hid (mb_but HMd.out hb8 (by simpa using Hp.2.2))
              have HZ8 := Lib.hid (mb_but HZd.out hb8 (by simpa using Hp.2.1))
              clear hm8 hb8 Hp e1 e2
              go_wp2_with (first
                | (refine wpList_loadM rfl _ rfl g 0 rfl ⟨2, aep, asq, aN, ab, p, 0, at0, at1, at2, at3, adt, arw⟩ (mb_range HM8.out) ?_)
                | (refine wpList_storeM rfl _ _ rfl (w.heap.size + 1) rfl ⟨2, aep, asq, aN, ab, p, 0, at0, at1, at2, at3, adt, arw⟩ rfl (mb_there HZ8.out) ?_; intro w9 hw9))
              subst hw9
              refine ret_msg4 (m := ⟨2, aep, asq, aN, ab, p, 0, at0, at1, at2, at3, adt, arw⟩) (v := .bool true) Try.results11 rfl rfl rfl (Ml.mb_set HZ8.out _) ⟨rfl, ?_⟩
              have hgr : grants ⟨2, aep, asq, aN, ab, p, 0, at0, at1, at2, at3, adt, arw⟩ true = true := by simp [grants]
              (try rw [hgr])
              (try simp only [if_true])
              exact ((HL8.out.but ((But.refl [w.heap.size + 1] _).sets (w.heap.size + 1) 0 (Mg.cells ⟨2, aep, asq, aN, ab, p, 0, at0, at1, at2, at3, adt, arw⟩).toList (.inl (by simp))) (by simp only [List.mem_singleton]; rintro x rfl; exact Hge.out _ (Nat.le_succ _)) (by simp only [List.mem_singleton]; rintro x rfl; exact Hw0.out)).lf' Hfi.out HGd.out)
        · have h2' : (ae == 0) = false := by rw [beq_eq_false_iff_ne]; exact he0
          subst hk2
          have hgr : grants ⟨2, aep, asq, aN, ab, acl, ae, at0, at1, at2, at3, adt, arw⟩ true = false := by simp [grants, he0]
          have Hg := Lib.hid (Hgd.out.1 hgr)
          obtain ⟨z0, z1, z2, z3, z4, z5, z6, z7, z8, z9, z10, z11, z12⟩ := HZ.out.cells
          have zf := HZ.out.fz
          obtain ⟨c0, c1, c2, c3, c4, c5, c6, c7, c8, c9, c10, c11, c12⟩ := HM.out.cells
          simp only [Ml.nil] at z0 z1 z2 z3 z4 z5 z6 z7 z8 z9 z10 z11 z12
          go_wp2
          refine ret_msg4 (m := ⟨2, aep, asq, aN, ab, acl, ae, at0, at1, at2, at3, adt, arw⟩) (v := .bool true) Try.results11 rfl rfl rfl (Ml.mb_set' HZ.out) ⟨rfl, ?_⟩
          (try rw [hgr])
          (try simp only [Bool.false_eq_true, if_false])
          exact ((HLb.out.but ((But.refl [w.heap.size + 1] _).sets (w.heap.size + 1) 0 (Mg.cells ⟨2, aep, asq, aN, ab, acl, ae, at0, at1, at2, at3, adt, arw⟩).toList (.inl (by simp))) (by simp only [List.mem_singleton]; rintro x rfl; exact Hge.out _ (Nat.le_succ _)) (by simp only [List.mem_singleton]; rintro x rfl; exact Hw0.out)).lf' Hfi.out Hg.out)
      · have h2' : (ak == 2) = false := by rw [beq_eq_false_iff_ne]; exact hk2
        have hgr : grants ⟨ak, aep, asq, aN, ab, acl, ae, at0, at1, at2, at3, adt, arw⟩ true = false := by simp [grants, hk2]
        have Hg := Lib.hid (Hgd.out.1 hgr)
        obtain ⟨z0, z1, z2, z3, z4, z5, z6, z7, z8, z9, z10, z11, z12⟩ := HZ.out.cells
        have zf := HZ.out.fz
        obtain ⟨c0, c1, c2, c3, c4, c5, c6, c7, c8, c9, c10, c11, c12⟩ := HM.out.cells
        simp only [Ml.nil] at z0 z1 z2 z3 z4 z5 z6 z7 z8 z9 z10 z11 z12
        go_wp2
        refine ret_msg4 (m := ⟨ak, aep, asq, aN, ab, acl, ae, at0, at1, at2, at3, adt, arw⟩) (v := .bool true) Try.results11 rfl rfl rfl (Ml.mb_set' HZ.out) ⟨rfl, ?_⟩
        (try rw [hgr])
        (try simp only [Bool.false_eq_true, if_false])
        exact ((HLb.out.but ((But.refl [w.heap.size + 1] _).sets (w.heap.size + 1) 0 (Mg.cells ⟨ak, aep, asq, aN, ab, acl, ae, at0, at1, at2, at3, adt, arw⟩).toList (.inl (by simp))) (by simp only [List.mem_singleton]; rintro x rfl; exact Hge.out _ (Nat.le_succ _)) (by simp only [List.mem_singleton]; rintro x rfl; exact Hw0.out)).lf' Hfi.out Hg.out)
end Go.Proofs.Ytpoolpckabpnfaa.Wt
