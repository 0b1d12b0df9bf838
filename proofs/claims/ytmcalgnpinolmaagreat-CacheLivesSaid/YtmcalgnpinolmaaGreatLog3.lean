/-
  What the code reads of a sector's bytes as a record.
-/
import Derived.Test.YtmcalgnpinolmaaGreatLog4
namespace Go.Proofs.YtmcalgnpinolmaaGreat
open Go.RowKit
set_option linter.unusedVariables false
set_option linter.unusedSimpArgs false
set_option maxRecDepth 20000

/-- a result's block -/
def Zr : Obj := .cells #[.int .i64 0, .string ⟨#[]⟩] 139

theorem two {w : World} {b : Nat} (v0 v1 : Value) {u0 u1 : Value} (h0 : w.cell? ⟨b, 0, none⟩ = some u0) (h1 : w.cell? ⟨b, 1, none⟩ = some u1) :
    ((w.setCell ⟨b, 0, none⟩ v0).setCell ⟨b, 1, none⟩ v1).cell? ⟨b, 0, none⟩ = some v0 ∧ ((w.setCell ⟨b, 0, none⟩ v0).setCell ⟨b, 1, none⟩ v1).cell? ⟨b, 1, none⟩ = some v1 := by
  refine ⟨?_, ?_⟩
  · rw [World.cell?_setCell_other _ _ _ _ (by simp)]
    exact World.cell?_setCell_same _ _ _ h0
  · exact World.cell?_setCell_same _ _ _ (show _ = some u1 by rw [World.cell?_setCell_other _ _ _ _ (by simp)]; exact h1)

theorem rr_short (w : World) (b off n cap : Nat) (z0 z1 z2 z3 z4 : Nat) (h : Five (w.alloc (.cells #[.int .i64 0, .string ⟨#[]⟩] 139)) b off n cap z0 z1 z2 z3 z4) (hn : n ≤ 1000) (hk : n < 5 + z4) :
    Calls Tryz.prog 87 #[.slice (some ⟨b, off, none⟩) n cap] w fun e w' => e = .returned (.tuple #[.int .i64 0, .agg #[.int .i64 0, .string ByteArray.empty]]) ∧ Below w.heap.size w w' := by
  have hgt : (n : Int) < 5 + (z4 : Int) := by omega
  obtain ⟨g0, g1, g2, g3, g4, b0, b1, b2, b3, b4, n5, nc⟩ := h
  have hk1 : (z4 : Int) < 256 := by omega
  have hk0 : (0 : Int) ≤ (z4 : Int) := by omega
  have hn5 : (5 : Int) ≤ (n : Int) := by omega
  have hs := or_four z0 z1 z2 z3 b0 b1 b2 b3
  have r0 : (w.alloc (.cells #[.int .i64 0, .string ⟨#[]⟩] 139)).cell? ⟨w.heap.size, 0, none⟩ = some (.int .i64 0) := by rw [World.cell?_alloc_mark]; rfl
  have r1 : (w.alloc (.cells #[.int .i64 0, .string ⟨#[]⟩] 139)).cell? ⟨w.heap.size, 1, none⟩ = some (.string ⟨#[]⟩) := by rw [World.cell?_alloc_mark]; rfl
  have rf : ∀ o, (w.alloc (.cells #[.int .i64 0, .string ⟨#[]⟩] 139)).frozen? ⟨w.heap.size, o, none⟩ = false := fun o => World.frozen?_alloc_at _ _ _ _ rfl
  have HB : Hid (Below w.heap.size w (w.alloc (.cells #[.int .i64 0, .string ⟨#[]⟩] 139))) := Lib.hid ((Below.refl _ _).alloc (Nat.le_refl _) _)
  clear hk nc n5
  go_enter Tryz.func87, Tryz.ntmps87
  go_wp2_with fail
  go_quiet (fail)
  go_wp2_with fail
  obtain ⟨k0, k1⟩ := two (w := (w.alloc (.cells #[.int .i64 0, .string ⟨#[]⟩] 139)).drewN nq) (.int .i64 0) (.string ⟨#[]⟩) r0 r1
  refine bodyPost_ret_by (v := .tuple #[.int .i64 0, .agg #[.int .i64 0, .string ByteArray.empty]]) ?_ rfl ⟨rfl, ((HB.out.trans (below_drewN _ _ nq)).setCell (Nat.le_refl _) _).setCell (Nat.le_refl _) _⟩
  generalize (((w.alloc (.cells #[.int .i64 0, .string ⟨#[]⟩] 139)).drewN nq).setCell ⟨w.heap.size, 0, none⟩ (.int .i64 0)).setCell ⟨w.heap.size, 1, none⟩ (.string ⟨#[]⟩) = w3 at *
  simp [results, Tryz.results87, go_sem, k0, k1]
  rfl

theorem rr_bad (w : World) (b off n cap : Nat) (z0 z1 z2 z3 z4 : Nat) (h : Five (w.alloc (.cells #[.int .i64 0, .string ⟨#[]⟩] 139)) b off n cap z0 z1 z2 z3 z4) (hn : n ≤ 1000) (hn6 : 6 ≤ n) (hk : 5 + z4 ≤ n)
    (hc : ∀ q, Calls Tryz.prog 105 #[.slice (some ⟨b, off + 4, none⟩) (5 + z4 - 4) (cap - 4), .int .u32 ((z0 : Int) * 16777216 + (z1 : Int) * 65536 + (z2 : Int) * 256 + (z3 : Int))] ((w.alloc (.cells #[.int .i64 0, .string ⟨#[]⟩] 139)).drewN q) fun e w'' => e = .returned (.bool false) ∧ (w.alloc (.cells #[.int .i64 0, .string ⟨#[]⟩] 139)).drewN q = w'') :
    Calls Tryz.prog 87 #[.slice (some ⟨b, off, none⟩) n cap] w fun e w' => e = .returned (.tuple #[.int .i64 0, .agg #[.int .i64 0, .string ByteArray.empty]]) ∧ Below w.heap.size w w' := by
  have hgt : 5 + (z4 : Int) ≤ (n : Int) := by omega
  obtain ⟨g0, g1, g2, g3, g4, b0, b1, b2, b3, b4, n5, nc⟩ := h
  have hk1 : (z4 : Int) < 256 := by omega
  have hk0 : (0 : Int) ≤ (z4 : Int) := by omega
  have hn5 : (5 : Int) ≤ (n : Int) := by omega
  have hs := or_four z0 z1 z2 z3 b0 b1 b2 b3
  have r0 : (w.alloc (.cells #[.int .i64 0, .string ⟨#[]⟩] 139)).cell? ⟨w.heap.size, 0, none⟩ = some (.int .i64 0) := by rw [World.cell?_alloc_mark]; rfl
  have r1 : (w.alloc (.cells #[.int .i64 0, .string ⟨#[]⟩] 139)).cell? ⟨w.heap.size, 1, none⟩ = some (.string ⟨#[]⟩) := by rw [World.cell?_alloc_mark]; rfl
  have rf : ∀ o, (w.alloc (.cells #[.int .i64 0, .string ⟨#[]⟩] 139)).frozen? ⟨w.heap.size, o, none⟩ = false := fun o => World.frozen?_alloc_at _ _ _ _ rfl
  have HB : Hid (Below w.heap.size w (w.alloc (.cells #[.int .i64 0, .string ⟨#[]⟩] 139))) := Lib.hid ((Below.refl _ _).alloc (Nat.le_refl _) _)
  have hgt2 : 5 + (z4 : Int) ≤ (cap : Int) := by omega
  have hc4 : ¬ cap = 4 := by omega
  have hc5 : ¬ cap = 5 := by omega
  have HC := Lib.hid hc
  clear hk nc n5 hc
  go_enter Tryz.func87, Tryz.ntmps87
  go_wp2_with fail
  go_quiet (fail)
  go_wp2_with (go_at_call 105; refine (HC.out _).mono ?_; rintro e w' ⟨rfl, rfl⟩)
  obtain ⟨k0, k1⟩ := two (w := (w.alloc (.cells #[.int .i64 0, .string ⟨#[]⟩] 139)).drewN nq) (.int .i64 0) (.string ⟨#[]⟩) r0 r1
  refine bodyPost_ret_by (v := .tuple #[.int .i64 0, .agg #[.int .i64 0, .string ByteArray.empty]]) ?_ rfl ⟨rfl, ((HB.out.trans (below_drewN _ _ nq)).setCell (Nat.le_refl _) _).setCell (Nat.le_refl _) _⟩
  generalize (((w.alloc (.cells #[.int .i64 0, .string ⟨#[]⟩] 139)).drewN nq).setCell ⟨w.heap.size, 0, none⟩ (.int .i64 0)).setCell ⟨w.heap.size, 1, none⟩ (.string ⟨#[]⟩) = w3 at *
  simp [results, Tryz.results87, go_sem, k0, k1]
  rfl

/-- a record that came out of Decode: none of the log's, or one -/
def RecOutL (w : World) (kd : Int) (aN : Option Addr) (nN : Nat) (aT : Option Addr) (nT : Nat) (p : Int × M.Rl) : Prop :=
  (kd ≠ 2 ∧ p = (0, ⟨0, ByteArray.empty⟩)) ∨ (kd = 2 ∧ nN ≠ 2 ∧ p = (0, ⟨0, ByteArray.empty⟩)) ∨ (kd = 2 ∧ nN = 2 ∧ nT ≠ 1 ∧ p = (0, ⟨0, ByteArray.empty⟩)) ∨
  ∃ k t s bN bT, kd = 2 ∧ nN = 2 ∧ nT = 1 ∧ aN = some ⟨bN, 0, none⟩ ∧ aT = some ⟨bT, 0, none⟩ ∧ bN < w.heap.size ∧ bT < w.heap.size ∧ w.cell? ⟨bN, 0, none⟩ = some (.int .i64 k) ∧ w.cell? ⟨bN, 1, none⟩ = some (.int .i64 t) ∧ w.cell? ⟨bT, 0, none⟩ = some (.string s) ∧
    ((s.size ≤ 110 ∧ p = (k, ⟨t, s⟩)) ∨ (¬ s.size ≤ 110 ∧ p = (0, ⟨0, ByteArray.empty⟩)))

set_option maxHeartbeats 4000000 in
theorem rr_rec (w : World) (b off n cap : Nat) (z0 z1 z2 z3 z4 : Nat) (h : Five (w.alloc (.cells #[.int .i64 0, .string ⟨#[]⟩] 139)) b off n cap z0 z1 z2 z3 z4) (hn : n ≤ 1000) (hn6 : 6 ≤ n) (hk : 5 + z4 ≤ n) (p : Int × M.Rl)
    (hc : ∀ q, Calls Tryz.prog 105 #[.slice (some ⟨b, off + 4, none⟩) (5 + z4 - 4) (cap - 4), .int .u32 ((z0 : Int) * 16777216 + (z1 : Int) * 65536 + (z2 : Int) * 256 + (z3 : Int))] ((w.alloc (.cells #[.int .i64 0, .string ⟨#[]⟩] 139)).drewN q) fun e w'' => e = .returned (.bool true) ∧ (w.alloc (.cells #[.int .i64 0, .string ⟨#[]⟩] 139)).drewN q = w'')
    (hd : ∀ q, Calls Tryz.prog 63 #[.slice (some ⟨b, off + 5, none⟩) z4 (cap - 5)] ((w.alloc (.cells #[.int .i64 0, .string ⟨#[]⟩] 139)).drewN q) fun e w'' => ∃ kd aN nN cN aT nT cT er, e = .returned (.tuple #[.agg #[.int .i64 kd, .slice aN nN cN, .slice aT nT cT], .int .i64 er]) ∧ Below (w.alloc (.cells #[.int .i64 0, .string ⟨#[]⟩] 139)).heap.size (w.alloc (.cells #[.int .i64 0, .string ⟨#[]⟩] 139)) w'' ∧ RecOutL w'' kd aN nN aT nT p) :
    Calls Tryz.prog 87 #[.slice (some ⟨b, off, none⟩) n cap] w fun e w' => e = .returned (.tuple #[.int .i64 p.1, .agg #[.int .i64 p.2.time, .string p.2.s]]) ∧ Below w.heap.size w w' := by
  have hgt : 5 + (z4 : Int) ≤ (n : Int) := by omega
  obtain ⟨g0, g1, g2, g3, g4, b0, b1, b2, b3, b4, n5, nc⟩ := h
  have hk1 : (z4 : Int) < 256 := by omega
  have hk0 : (0 : Int) ≤ (z4 : Int) := by omega
  have hn5 : (5 : Int) ≤ (n : Int) := by omega
  have hs := or_four z0 z1 z2 z3 b0 b1 b2 b3
  have r0 : (w.alloc (.cells #[.int .i64 0, .string ⟨#[]⟩] 139)).cell? ⟨w.heap.size, 0, none⟩ = some (.int .i64 0) := by rw [World.cell?_alloc_mark]; rfl
  have r1 : (w.alloc (.cells #[.int .i64 0, .string ⟨#[]⟩] 139)).cell? ⟨w.heap.size, 1, none⟩ = some (.string ⟨#[]⟩) := by rw [World.cell?_alloc_mark]; rfl
  have rf : ∀ o, (w.alloc (.cells #[.int .i64 0, .string ⟨#[]⟩] 139)).frozen? ⟨w.heap.size, o, none⟩ = false := fun o => World.frozen?_alloc_at _ _ _ _ rfl
  have HB : Hid (Below w.heap.size w (w.alloc (.cells #[.int .i64 0, .string ⟨#[]⟩] 139))) := Lib.hid ((Below.refl _ _).alloc (Nat.le_refl _) _)
  have hgt2 : 5 + (z4 : Int) ≤ (cap : Int) := by omega
  have hc4 : ¬ cap = 4 := by omega
  have hc5 : ¬ cap = 5 := by omega
  have HC := Lib.hid hc
  have HD := Lib.hid hd
  have HZ : Hid ((w.alloc (.cells #[.int .i64 0, .string ⟨#[]⟩] 139)).heap[w.heap.size]? = some (.cells #[.int .i64 0, .string ⟨#[]⟩] 139 (0, 0))) := Lib.hid (heap_alloc_new w _)
  clear hk nc n5 hc hd
  go_enter Tryz.func87, Tryz.ntmps87
  go_wp2_with fail
  go_quiet (fail)
  go_wp2_with (go_at_call 105; refine (HC.out _).mono ?_; rintro e w' ⟨rfl, rfl⟩)
  refine (HD.out _).mono ?_
  rintro e w1 ⟨kd, aN, nN, cN, aT, nT, cT, er, rfl, hb, hr⟩
  have Hb : Hid (Below w.heap.size w w1) := Lib.hid (HB.out.trans (hb.mono (by simp)))
  have hlt : w.heap.size < w1.heap.size := by have := hb.size; simp at this; omega
  have hz1 : w1.heap[w.heap.size]? = some (.cells #[.int .i64 0, .string ⟨#[]⟩] 139 (0, 0)) := (hb.block _ (by simp)).trans HZ.out
  have q0 : (w1.alloc (.cells #[.int .i64 kd, .slice aN nN cN, .slice aT nT cT] 141)).cell? ⟨w.heap.size, 0, none⟩ = some (.int .i64 0) := by rw [World.cell?_alloc_lt _ _ _ hlt]; simp [World.cell?, hz1]
  have q1 : (w1.alloc (.cells #[.int .i64 kd, .slice aN nN cN, .slice aT nT cT] 141)).cell? ⟨w.heap.size, 1, none⟩ = some (.string ⟨#[]⟩) := by rw [World.cell?_alloc_lt _ _ _ hlt]; simp [World.cell?, hz1]
  have qf : ∀ o, (w1.alloc (.cells #[.int .i64 kd, .slice aN nN cN, .slice aT nT cT] 141)).frozen? ⟨w.heap.size, o, none⟩ = false := fun o => by
    rw [World.frozen?_of_block (w := w1) (a := ⟨w.heap.size, o, none⟩) (Below.heap_alloc _ _ _ hlt)]; simp [World.frozen?, hz1]
  clear hb hz1 hlt r0 r1 rf
  rcases hr with ⟨h1, rfl⟩ | ⟨h1, h2, rfl⟩ | ⟨h1, h2, h3, rfl⟩ | ⟨k, t, s, bN, bT, h1, h2, h3, rfl, rfl, l1, l2, j0, j1, j2, hm⟩
  · have e1 : (kd != 2) = true := by simpa using h1
    clear h1
    go_wp2_with fail
    obtain ⟨k0, k1⟩ := two (.int .i64 0) (.string ⟨#[]⟩) q0 q1
    refine bodyPost_ret_by (v := .tuple #[.int .i64 0, .agg #[.int .i64 0, .string ByteArray.empty]]) ?_ rfl ⟨rfl, ((Hb.out.alloc Hb.out.size _).setCell (Nat.le_refl _) _).setCell (Nat.le_refl _) _⟩
    generalize ((w1.alloc (.cells #[.int .i64 kd, .slice aN nN cN, .slice aT nT cT] 141)).setCell ⟨w.heap.size, 0, none⟩ (.int .i64 0)).setCell ⟨w.heap.size, 1, none⟩ (.string ⟨#[]⟩) = w3 at *
    simp [results, Tryz.results87, go_sem, k0, k1]
    rfl
  · subst h1
    have e1 : ((nN : Int) != 2) = true := by simp; omega
    clear h2
    go_wp2_with fail
    obtain ⟨k0, k1⟩ := two (.int .i64 0) (.string ⟨#[]⟩) q0 q1
    refine bodyPost_ret_by (v := .tuple #[.int .i64 0, .agg #[.int .i64 0, .string ByteArray.empty]]) ?_ rfl ⟨rfl, ((Hb.out.alloc Hb.out.size _).setCell (Nat.le_refl _) _).setCell (Nat.le_refl _) _⟩
    generalize ((w1.alloc (.cells #[.int .i64 2, .slice aN nN cN, .slice aT nT cT] 141)).setCell ⟨w.heap.size, 0, none⟩ (.int .i64 0)).setCell ⟨w.heap.size, 1, none⟩ (.string ⟨#[]⟩) = w3 at *
    simp [results, Tryz.results87, go_sem, k0, k1]
    rfl
  · subst h1 h2
    have e1 : ((nT : Int) != 1) = true := by simp; omega
    clear h3
    go_wp2_with fail
    obtain ⟨k0, k1⟩ := two (.int .i64 0) (.string ⟨#[]⟩) q0 q1
    refine bodyPost_ret_by (v := .tuple #[.int .i64 0, .agg #[.int .i64 0, .string ByteArray.empty]]) ?_ rfl ⟨rfl, ((Hb.out.alloc Hb.out.size _).setCell (Nat.le_refl _) _).setCell (Nat.le_refl _) _⟩
    generalize ((w1.alloc (.cells #[.int .i64 2, .slice aN 2 cN, .slice aT nT cT] 141)).setCell ⟨w.heap.size, 0, none⟩ (.int .i64 0)).setCell ⟨w.heap.size, 1, none⟩ (.string ⟨#[]⟩) = w3 at *
    simp [results, Tryz.results87, go_sem, k0, k1]
    rfl
  · subst h1 h2 h3
    have m0 : (w1.alloc (.cells #[.int .i64 2, .slice (some ⟨bN, 0, none⟩) 2 cN, .slice (some ⟨bT, 0, none⟩) 1 cT] 141)).cell? ⟨bN, 0, none⟩ = some (.int .i64 k) := by rw [World.cell?_alloc_lt _ _ _ l1]; exact j0
    have m1 : (w1.alloc (.cells #[.int .i64 2, .slice (some ⟨bN, 0, none⟩) 2 cN, .slice (some ⟨bT, 0, none⟩) 1 cT] 141)).cell? ⟨bN, 1, none⟩ = some (.int .i64 t) := by rw [World.cell?_alloc_lt _ _ _ l1]; exact j1
    have m2 : (w1.alloc (.cells #[.int .i64 2, .slice (some ⟨bN, 0, none⟩) 2 cN, .slice (some ⟨bT, 0, none⟩) 1 cT] 141)).cell? ⟨bT, 0, none⟩ = some (.string s) := by rw [World.cell?_alloc_lt _ _ _ l2]; exact j2
    clear j0 j1 j2 l1 l2
    rcases hm with ⟨hm, rfl⟩ | ⟨hm, rfl⟩
    · have hmI : (s.size : Int) ≤ 110 := by omega
      have HQ0 := Lib.hid q0
      have HQ1 := Lib.hid q1
      clear hm
      go_wp2_with fail
      go_region
      go_wp2_with fail
      obtain ⟨k0, k1⟩ := two (.int .i64 t) (.string s) HQ0.out HQ1.out
      refine bodyPost_ret_by (v := .tuple #[.int .i64 k, .agg #[.int .i64 t, .string s]]) ?_ rfl ⟨rfl, (((Hb.out.alloc Hb.out.size _).setCell (Nat.le_refl _) _).setCell (Nat.le_refl _) _).drew⟩
      generalize ((w1.alloc (.cells #[.int .i64 2, .slice (some ⟨bN, 0, none⟩) 2 cN, .slice (some ⟨bT, 0, none⟩) 1 cT] 141)).setCell ⟨w.heap.size, 0, none⟩ (.int .i64 t)).setCell ⟨w.heap.size, 1, none⟩ (.string s) = w3 at *
      simp [results, Tryz.results87, go_sem, k0, k1]
    · have hmI : ¬ ((s.size : Int) ≤ 110) := by omega
      have hmL : (110 : Int) < (s.size : Int) := by omega
      clear hm
      go_wp2_with fail
      obtain ⟨k0, k1⟩ := two (.int .i64 0) (.string ⟨#[]⟩) q0 q1
      refine bodyPost_ret_by (v := .tuple #[.int .i64 0, .agg #[.int .i64 0, .string ByteArray.empty]]) ?_ rfl ⟨rfl, ((Hb.out.alloc Hb.out.size _).setCell (Nat.le_refl _) _).setCell (Nat.le_refl _) _⟩
      generalize ((w1.alloc (.cells #[.int .i64 2, .slice (some ⟨bN, 0, none⟩) 2 cN, .slice (some ⟨bT, 0, none⟩) 1 cT] 141)).setCell ⟨w.heap.size, 0, none⟩ (.int .i64 0)).setCell ⟨w.heap.size, 1, none⟩ (.string ⟨#[]⟩) = w3 at *
      simp [results, Tryz.results87, go_sem, k0, k1]
      rfl

def M.rdQ (l : List UInt8) : Int × M.Rl := (M.rdL l).getD (0, ⟨0, ByteArray.empty⟩)

/-- what Decode's record is as a log's record -/
theorem recoutL_of {w : World} {B : Nat} {r : C.M.Rc} {aN : Option Addr} {nN cN : Nat} {aT : Option Addr} {nT cT : Nat} (h : C.RecOwn w B r aN nN cN aT nT cT) :
    RecOutL w r.kind aN nN aT nT ((M.asL r).getD (0, ⟨0, ByteArray.empty⟩)) := by
  obtain ⟨k, ns, ts⟩ := r
  have hN := h.at.lenN
  have hT := h.at.lenT
  simp only at hN hT
  by_cases hk : k = 2
  · subst hk
    by_cases h1 : nN = 2
    · by_cases h2 : nT = 1
      · match ns, ts, hN, hT, h with
        | [g, u], [t], hN, hT, h =>
          obtain ⟨bN, oN, g', e1, l1, q1, k1⟩ := C.row_i64 h.at.nums 0 (by omega)
          obtain ⟨bN2, oN2, g2, e12, l12, q12, k12⟩ := C.row_i64 h.at.nums 1 (by omega)
          obtain ⟨bT, oT, t', e2, l2, q2, k2⟩ := C.row_str h.at.texts 0 (by omega)
          simp at q1 q12 q2
          subst q1 q12 q2
          have z1 := (C.own_row h.nums).2 _ _ e1
          have z2 := (C.own_row h.texts).2 _ _ e2
          obtain ⟨_, rfl⟩ := z1
          obtain ⟨_, rfl⟩ := z2
          rw [e1] at e12
          injection e12 with e12
          injection e12 with f1 f2 _
          subst f1 f2
          refine .inr (.inr (.inr ⟨g, u, t, bN, bT, rfl, h1, h2, e1, e2, l1, l2, k1, k12, k2, ?_⟩))
          by_cases hm : t.size ≤ 110
          · exact .inl ⟨hm, by simp only [M.asL]; rw [if_pos trivial, if_pos hm]; rfl⟩
          · exact .inr ⟨hm, by simp only [M.asL]; rw [if_pos trivial, if_neg hm]; rfl⟩
        | [], _, hN, _, _ => simp at hN; omega
        | [_], _, hN, _, _ => simp at hN; omega
        | _ :: _ :: _ :: _, _, hN, _, _ => simp at hN; omega
        | [_, _], [], _, hT, _ => simp at hT; omega
        | [_, _], _ :: _ :: _, _, hT, _ => simp at hT; omega
      · refine .inr (.inr (.inl ⟨rfl, h1, h2, ?_⟩))
        match ns, ts, hT with
        | [_, _], [_], hT => simp at hT; omega
        | [], _, _ => rfl
        | [_], _, _ => rfl
        | _ :: _ :: _ :: _, _, _ => rfl
        | [_, _], [], _ => rfl
        | [_, _], _ :: _ :: _, _ => rfl
    · refine .inr (.inl ⟨rfl, h1, ?_⟩)
      match ns, ts, hN with
      | [_, _], _, hN => simp at hN; omega
      | [], _, _ => rfl
      | [_], _, _ => rfl
      | _ :: _ :: _ :: _, _, _ => rfl
  · refine .inl ⟨hk, ?_⟩
    match ns, ts with
    | [_, _], [_] => simp only [M.asL]; rw [if_neg hk]; rfl
    | [], _ => rfl
    | [_], _ => rfl
    | _ :: _ :: _ :: _, _ => rfl
    | [_, _], [] => rfl
    | [_, _], _ :: _ :: _ => rfl

theorem rr_any (w : World) (b off n cap : Nat) (l : List UInt8) (h0 : Row w (some ⟨b, off, none⟩) n cap (u8s l)) (hn : n ≤ 1000) (hn6 : 6 ≤ n) :
    Calls Tryz.prog 87 #[.slice (some ⟨b, off, none⟩) n cap] w fun e w' => e = .returned (.tuple #[.int .i64 (M.rdQ l).1, .agg #[.int .i64 (M.rdQ l).2.time, .string (M.rdQ l).2.s]]) ∧ Below w.heap.size w w' := by
  have h : Row (w.alloc (.cells #[.int .i64 0, .string ⟨#[]⟩] 139)) (some ⟨b, off, none⟩) n cap (u8s l) := row_below h0 ((Below.refl w.heap.size w).alloc (Nat.le_refl _) _) (Nat.le_refl _)
  have hl : l.length = n := by have := h.1; rwa [u8s_length] at this
  match l, h, hl with
  | c0 :: c1 :: c2 :: c3 :: k :: r, h, hl =>
    obtain ⟨h5, hnr⟩ := five_of h
    by_cases hs : r.length < k.toNat
    · have e : M.rdQ (c0 :: c1 :: c2 :: c3 :: k :: r) = (0, ⟨0, ByteArray.empty⟩) := by
        unfold M.rdQ M.rdL
        simp only [M.unframe]
        rw [if_neg (by omega)]
        rfl
      rw [e]
      exact rr_short w b off n cap _ _ _ _ _ h5 hn (by omega)
    · have hk : 5 + k.toNat ≤ n := by omega
      have r4 : Row (w.alloc (.cells #[.int .i64 0, .string ⟨#[]⟩] 139)) (some ⟨b, off + 4, none⟩) (5 + k.toNat - 4) (cap - 4) (u8s (k :: r.take k.toNat)) := by
        have := row_mid h (show 4 ≤ 5 + k.toNat by omega) hk
        have e : ((u8s (c0 :: c1 :: c2 :: c3 :: k :: r)).take (5 + k.toNat)).drop 4 = u8s (k :: r.take k.toNat) := by
          rw [show 5 + k.toNat = k.toNat + 1 + 1 + 1 + 1 + 1 by omega]
          simp [u8s]
        rw [e] at this
        exact this
      have r5 : Row (w.alloc (.cells #[.int .i64 0, .string ⟨#[]⟩] 139)) (some ⟨b, off + 5, none⟩) k.toNat (cap - 5) (u8s (r.take k.toNat)) := by
        have := row_mid h (show 5 ≤ 5 + k.toNat by omega) hk
        have e : ((u8s (c0 :: c1 :: c2 :: c3 :: k :: r)).take (5 + k.toNat)).drop 5 = u8s (r.take k.toNat) := by
          rw [show 5 + k.toNat = k.toNat + 1 + 1 + 1 + 1 + 1 by omega]
          simp [u8s]
        rw [e, show 5 + k.toNat - 5 = k.toNat by omega] at this
        exact this
      have hz : ((c0.toNat : Int) * 16777216 + (c1.toNat : Int) * 65536 + (c2.toNat : Int) * 256 + (c3.toNat : Int)) = ((M.num4 c0 c1 c2 c3 : Nat) : Int) := by unfold M.num4; omega
      have hlt := M.num4_lt c0 c1 c2 c3
      have hklt := k.toNat_lt
      by_cases he : (M.sumB (k :: r.take k.toNat)).toNat = M.num4 c0 c1 c2 c3
      · have e : M.rdL (c0 :: c1 :: c2 :: c3 :: k :: r) = (C.M.dec (r.take k.toNat)).bind M.asL := by
          unfold M.rdL
          simp only [M.unframe]
          rw [if_pos (by omega), if_pos he]
        refine rr_rec w b off n cap _ _ _ _ _ h5 hn hn6 hk (M.rdQ (c0 :: c1 :: c2 :: c3 :: k :: r)) (fun q => ?_) (fun q => ?_)
        · rw [hz, ← he]
          exact K.check_yes (M.sumB (k :: r.take k.toNat)) _ _ _ _ _ (k_row (row_drewN r4 q) (by omega)) rfl
        · refine (C.decode_any _ _ _ _ _ (c_row (row_drewN r5 q))).mono ?_
          rintro e1 w1 ⟨hb, ⟨rc, v, hd, ⟨a1, n1, cc1, a2, n2, cc2, rfl, ho1, ho2⟩, rfl⟩ | ⟨hd, rfl⟩⟩
          · refine ⟨_, _, _, _, _, _, _, _, rfl, (below_drewN _ _ q).trans hb, ?_⟩
            have := recoutL_of (r := rc) ⟨ho1, ho2⟩
            unfold M.rdQ
            rw [e, hd]
            exact this
          · refine ⟨_, _, _, _, _, _, _, _, rfl, (below_drewN _ _ q).trans hb, .inl ⟨by decide, ?_⟩⟩
            unfold M.rdQ
            rw [e, hd]
            rfl
      · have e : M.rdQ (c0 :: c1 :: c2 :: c3 :: k :: r) = (0, ⟨0, ByteArray.empty⟩) := by
          unfold M.rdQ M.rdL
          simp only [M.unframe]
          rw [if_pos (by omega), if_neg he]
          rfl
        rw [e]
        refine rr_bad w b off n cap _ _ _ _ _ h5 hn hn6 hk (fun q => ?_)
        have hx : (BitVec.ofNat 32 (M.num4 c0 c1 c2 c3)).toNat = M.num4 c0 c1 c2 c3 := by rw [BitVec.toNat_ofNat]; exact Nat.mod_eq_of_lt (by omega)
        rw [hz, ← hx]
        exact K.check_no _ _ _ _ _ _ (k_row (row_drewN r4 q) (by omega)) (fun e => he (by rw [← hx, ← e]; rfl))
  | [], _, hl => simp at hl; omega
  | [_], _, hl => simp at hl; omega
  | [_, _], _, hl => simp at hl; omega
  | [_, _, _], _, hl => simp at hl; omega
  | [_, _, _, _], _, hl => simp at hl; omega
end Go.Proofs.YtmcalgnpinolmaaGreat
