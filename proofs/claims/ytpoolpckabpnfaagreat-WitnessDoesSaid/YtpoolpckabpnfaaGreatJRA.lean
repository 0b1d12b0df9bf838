/-
  The document's own witness in memory; what it puts.
  The document's own witness puts what is so.
-/
import Derived.Test.YtpoolpckabpnfaaGreatJWA
import Derived.Test.YtpoolpckabpnfaaGreatJR
import Derived.Test.YtpoolpckabpnfaaGreatJMY
import Derived.Deep.RegionHeld3
import Derived.Deep.RegionLaw
import Derived.BigQuiet
import Derived.BigRegion
import Derived.StillTailTactics
namespace Go.Proofs.YtpoolpckabpnfaaGreat.Wt
open Go.RowKit
open Ml (Mg may msgV MB)
open C (RecAt RecOwn zeroRec Own i64s strs u8s)
set_option linter.unusedVariables false
set_option linter.unusedSimpArgs false
set_option maxRecDepth 20000

variable {rB LB n : Nat} {d : M.Dv}

def rvC (kB : Nat) (x : Fx) (L W : Int) : Array Value := #[.pointer (some ⟨kB, 0, none⟩), .int .i64 x.ep, .int .i64 x.ho, .int .i64 x.ma, .int .i64 x.ch, .int .i64 L, .int .i64 W]
/-- the blocks that a message may change -/
def theirs (rB LB kB vB : Nat) : List Nat := [rB, LB, kB, vB]
theorem mem_theirs {rB LB kB vB x : Nat} : x ∈ theirs rB LB kB vB ↔ x = rB ∨ x = LB ∨ x = kB ∨ x = vB := by simp [theirs]

/-- the document's witness, its device and its cell, in memory; x: what it holds to be so -/
structure RX (w : World) (rB LB n : Nat) (d : M.Dv) (vB kB a b : Nat) (c : M.Cl) (x : Fx) (L W : Int) : Prop where
  ref : RefAt w rB LB n d
  sv : Bo w vB (rvC kB x L W) 54
  cel : ∃ z, ZO z c.o ∧ RCell w kB rB a b z c
  kd : kB ≠ rB ∧ kB ≠ LB
  vd : vB ≠ rB ∧ vB ≠ LB ∧ vB ≠ kB
  gn : 0 ≤ c.gen ∧ c.gen ≤ 4611686018427387904
  o1 : c.o ≤ 1
  tx : c.text.size ≤ 100
  ab : a ≠ b ∧ a < n ∧ b < n
  wt : 1 ≤ W ∧ W ≤ 1099511627776
  lf : 0 ≤ L ∧ L ≤ W
abbrev RW (w : World) (rB LB n : Nat) (d : M.Dv) (vB kB a b : Nat) (c : M.Cl) (L W : Int) : Prop := RX w rB LB n d vB kB a b c (fx c.text) L W

variable {w w' : World} {vB kB a b : Nat} {c : M.Cl} {x : Fx} {L W : Int}
theorem RX.but (h : RX w rB LB n d vB kB a b c x L W) {l : List Nat} (hb : But l w w') (hn : ∀ y ∈ l, y ∉ theirs rB LB kB vB) : RX w' rB LB n d vB kB a b c x L W where
  ref := h.ref.but hb (fun hx => hn _ hx (by simp [theirs])) (fun hx => hn _ hx (by simp [theirs]))
  sv := h.sv.but hb (fun hx => hn _ hx (by simp [theirs]))
  cel := by obtain ⟨z, hz, hc⟩ := h.cel; exact ⟨z, hz, hc.but hb (fun hx => hn _ hx (by simp [theirs]))⟩
  kd := h.kd
  vd := h.vd
  gn := h.gn
  o1 := h.o1
  tx := h.tx
  ab := h.ab
  wt := h.wt
  lf := h.lf
theorem RX.below (h : RX w rB LB n d vB kB a b c x L W) (hb : Below w.heap.size w w') : RX w' rB LB n d vB kB a b c x L W := h.but (But.of_below hb) (by simp)
theorem RX.theirs_lt (h : RX w rB LB n d vB kB a b c x L W) : ∀ y ∈ theirs rB LB kB vB, y < w.heap.size := by
  intro y hy
  rcases mem_theirs.1 hy with rfl | rfl | rfl | rfl
  · exact h.ref.ltR
  · exact h.ref.lt
  · obtain ⟨z, _, hc⟩ := h.cel; exact hc.lt
  · exact h.sv.lt
theorem RX.not_mem (h : RX w rB LB n d vB kB a b c x L W) {g : Nat} (hg : w.heap.size ≤ g) : g ∉ theirs rB LB kB vB := fun hx => by have := h.theirs_lt _ hx; omega
theorem RX.q0 (h : RX w rB LB n d vB kB a b c x L W) : w.cell? ⟨vB, 0, none⟩ = some (.pointer (some ⟨kB, 0, none⟩)) := h.sv.cell 0
theorem RX.q1 (h : RX w rB LB n d vB kB a b c x L W) : w.cell? ⟨vB, 1, none⟩ = some (.int .i64 x.ep) := h.sv.cell 1
theorem RX.q2 (h : RX w rB LB n d vB kB a b c x L W) : w.cell? ⟨vB, 2, none⟩ = some (.int .i64 x.ho) := h.sv.cell 2
theorem RX.q3 (h : RX w rB LB n d vB kB a b c x L W) : w.cell? ⟨vB, 3, none⟩ = some (.int .i64 x.ma) := h.sv.cell 3
theorem RX.q4 (h : RX w rB LB n d vB kB a b c x L W) : w.cell? ⟨vB, 4, none⟩ = some (.int .i64 x.ch) := h.sv.cell 4
theorem RX.q5 (h : RX w rB LB n d vB kB a b c x L W) : w.cell? ⟨vB, 5, none⟩ = some (.int .i64 L) := h.sv.cell 5
theorem RX.q6 (h : RX w rB LB n d vB kB a b c x L W) : w.cell? ⟨vB, 6, none⟩ = some (.int .i64 W) := h.sv.cell 6
theorem RX.fz (h : RX w rB LB n d vB kB a b c x L W) (o : Nat) : w.frozen? ⟨vB, o, none⟩ = false := h.sv.fz o
theorem RX.set_but (h : RX w rB LB n d vB kB a b c x L W) (o : Nat) (v : Value) : But (theirs rB LB kB vB) w (w.setCell ⟨vB, o, none⟩ v) := (But.refl _ w).set _ (.inl (by simp [theirs]))
/-- a part of its own block is set -/
theorem RX.setO (h : RX w rB LB n d vB kB a b c x L W) (o : Nat) (v : Value) {x' : Fx} {L' : Int} (he : (rvC kB x L W).setIfInBounds o v = rvC kB x' L' W) (hl : 0 ≤ L' ∧ L' ≤ W) : RX (w.setCell ⟨vB, o, none⟩ v) rB LB n d vB kB a b c x' L' W where
  ref := h.ref.but ((But.refl [vB] w).set _ (.inl (by simp))) (by have := h.vd; simp; omega) (by have := h.vd; simp; omega)
  sv := by rw [← he]; exact h.sv.set o v
  cel := by obtain ⟨z, hz, hc⟩ := h.cel; exact ⟨z, hz, hc.but ((But.refl [vB] w).set _ (.inl (by simp))) (by have := h.vd; simp; omega)⟩
  kd := h.kd
  vd := h.vd
  gn := h.gn
  o1 := h.o1
  tx := h.tx
  ab := h.ab
  wt := h.wt
  lf := hl
/-- the timer is set -/
theorem RX.setL (h : RX w rB LB n d vB kB a b c x L W) {L' : Int} (hl : 0 ≤ L' ∧ L' ≤ W) : RX (w.setCell ⟨vB, 5, none⟩ (.int .i64 L')) rB LB n d vB kB a b c x L' W := h.setO 5 _ rfl hl
/-- all that it holds to be so is set -/
theorem RX.setX (h : RX w rB LB n d vB kB a b c x L W) (y : Fx) : RX ((((w.setCell ⟨vB, 1, none⟩ (.int .i64 y.ep)).setCell ⟨vB, 2, none⟩ (.int .i64 y.ho)).setCell ⟨vB, 3, none⟩ (.int .i64 y.ma)).setCell ⟨vB, 4, none⟩ (.int .i64 y.ch)) rB LB n d vB kB a b c y L W :=
  (((h.setO 1 (.int .i64 y.ep) (x' := ⟨y.ep, x.ho, x.ma, x.ch⟩) rfl h.lf).setO 2 (.int .i64 y.ho) (x' := ⟨y.ep, y.ho, x.ma, x.ch⟩) rfl h.lf).setO 3 (.int .i64 y.ma) (x' := ⟨y.ep, y.ho, y.ma, x.ch⟩) rfl h.lf).setO 4 (.int .i64 y.ch) rfl h.lf
theorem RX.setX_but (h : RX w rB LB n d vB kB a b c x L W) (v1 v2 v3 v4 : Value) : But (theirs rB LB kB vB) w ((((w.setCell ⟨vB, 1, none⟩ v1).setCell ⟨vB, 2, none⟩ v2).setCell ⟨vB, 3, none⟩ v3).setCell ⟨vB, 4, none⟩ v4) :=
  ((((But.refl _ w).set _ (.inl (by simp [theirs]))).set _ (.inl (by simp [theirs]))).set _ (.inl (by simp [theirs]))).set _ (.inl (by simp [theirs]))

/-- a tick -/
theorem rtick_any (h : RX w rB LB n d vB kB a b c x L W) : Calls Tryz.prog 13 #[.pointer (some ⟨vB, 0, none⟩)] w fun e w' => e = .returned (.tuple #[]) ∧ RX w' rB LB n d vB kB a b c x (left (L - 1)) W ∧ But (theirs rB LB kB vB) w w' := by
  have hl := h.lf
  have hw := h.wt
  have H := Lib.hid h
  have q5 := h.q5
  have f5 := h.fz 5
  by_cases h0 : 0 < L
  · have hl2 : left (L - 1) = L - 1 := by unfold left; omega
    rw [hl2]
    have HL : Hid (0 ≤ L - 1 ∧ L - 1 ≤ W) := Lib.hid (by omega)
    have hw64 : wrap64 (L - 1) = L - 1 := by unfold wrap64; omega
    have HW64 := Lib.hid hw64
    clear h hl hw hl2 hw64
    go_enter Tryz.func13, Tryz.ntmps13
    go_wp2
    go_end0
    exact ⟨rfl, by rw [HW64.out]; exact H.out.setL HL.out, H.out.set_but 5 _⟩
  · have hl2 : left (L - 1) = L := by unfold left; omega
    rw [hl2]
    clear h hl hw hl2 f5
    go_enter Tryz.func13, Tryz.ntmps13
    go_wp2
    go_end0
    exact ⟨rfl, H.out, But.refl _ _⟩

/-- a put to its cell -/
theorem rput_cell (h : RX w rB LB n d vB kB a b c x L W) (y : Fx) :
    Calls Tryz.prog 61 #[.pointer (some ⟨kB, 0, none⟩), .string (fxT y)] w fun e w' => e = .returned (.int .i64 (M.puE n d a b c (fxT y))) ∧ RX w' rB LB n (M.puD n d a b c (fxT y)) vB kB a b (M.puC n d a b c (fxT y)) x L W ∧ But (theirs rB LB kB vB) w w' := by
  have hn := h.ref.n512
  have hab := h.ab
  obtain ⟨z, hz, hc⟩ := h.cel
  refine (rput_all w h.ref kB a b z c hc hz h.kd h.gn ⟨by omega, by omega⟩ (fxT y) (fxT_small y)).mono ?_
  rintro e w' ⟨rfl, hd, ⟨z', hz', hc'⟩, hb⟩
  obtain ⟨g1, g2, g3⟩ := do_ways (n := n) (a := a) (b := b) (d := d) h.gn h.o1 h.tx (0, some y)
  exact ⟨rfl, ⟨hd, h.sv.but hb (by have := h.vd; simp; omega), ⟨z', hz', hc'⟩, h.kd, h.vd, g2, g1, g3, h.ab, h.wt, h.lf⟩, hb.mono fun y hy => by
    simp only [List.mem_cons, List.not_mem_nil, or_false] at hy
    rcases hy with rfl | rfl | rfl <;> simp [theirs]⟩
theorem puC_text {n a b : Nat} {d : M.Dv} {c : M.Cl} (hg : c.gen ≤ 4611686018427387904) (y : Fx) (hy : y.Ok) (h : M.puE n d a b c (fxT y) = 0) : fx (M.puC n d a b c (fxT y)).text = y := by
  rcases M.pu_ways n d a b c (fxT y) hg with ⟨_, h1, h2⟩ | ⟨h1, h2⟩
  · rw [h1]; exact fx_fxT hy
  · exact absurd h h1
theorem puC_same {n a b : Nat} {d : M.Dv} {c : M.Cl} (hg : c.gen ≤ 4611686018427387904) (y : Fx) (h : M.puE n d a b c (fxT y) ≠ 0) : M.puC n d a b c (fxT y) = c := by
  rcases M.pu_ways n d a b c (fxT y) hg with ⟨h0, h1, h2⟩ | ⟨h1, h2⟩
  · exact absurd h0 h
  · exact h2
theorem rin_any (w : World) {ma fr : Int} (hm : 1 ≤ ma ∧ ma ≤ 3) : Calls Tryz.prog 39 #[.int .i64 ma, .int .i64 fr] w fun e w' => e = .returned (.bool (inM ma fr)) ∧ w = w' := by
  have h2 : ma = 1 ∨ ma = 2 ∨ ma = 3 := by omega
  clear hm
  by_cases h0 : fr = 0
  · subst h0
    rcases h2 with rfl | rfl | rfl
    all_goals
      go_enter Tryz.func39, Tryz.ntmps39
      go_wp2
      go_ret
      exact ⟨rfl, rfl⟩
  · by_cases h1 : fr = 1
    · subst h1
      rcases h2 with rfl | rfl | rfl
      all_goals
        go_enter Tryz.func39, Tryz.ntmps39
        go_wp2
        go_ret
        exact ⟨rfl, rfl⟩
    · have e : inM ma fr = false := by unfold inM; rw [if_neg h0, decide_eq_false h1]; rfl
      rw [e]
      have k0 : (fr == 0) = false := by rw [beq_eq_false_iff_ne]; exact h0
      have k1 : (fr == 1) = false := by rw [beq_eq_false_iff_ne]; exact h1
      clear h0 h1 e h2
      go_enter Tryz.func39, Tryz.ntmps39
      go_wp2
      go_ret
      exact ⟨rfl, rfl⟩
end Go.Proofs.YtpoolpckabpnfaaGreat.Wt
namespace Go.Proofs.YtpoolpckabpnfaaGreat.Wt
open Go.RowKit
open Ml (Mg may msgV MB)
open C (RecAt RecOwn zeroRec Own i64s strs u8s)
set_option linter.unusedVariables false
set_option linter.unusedSimpArgs false
set_option maxRecDepth 20000

variable {rB LB n : Nat} {d : M.Dv}

theorem wr_enc (w : World) (y : Fx) (hy : y.Ok) : Calls Tryz.prog 60 #[.agg #[.int .i64 40, .slice (some ⟨w.heap.size, 0, none⟩) 4 4, .slice none 0 0]] (w.alloc (.cells #[.int .i64 y.ep, .int .i64 y.ho, .int .i64 y.ma, .int .i64 y.ch] 2)) fun e w' => ∃ a cap, e = .returned (.tuple #[.slice a (C.M.enc (fxRec y)).length cap, .int .i64 0]) ∧ C.Row w' a (C.M.enc (fxRec y)).length cap (u8s (C.M.enc (fxRec y))) ∧ (∀ b off, a = some ⟨b, off, none⟩ → w.heap.size ≤ b) ∧ Below w.heap.size w w' := by
  obtain ⟨hm1, hm2⟩ := fx_may hy
  have hr : RecAt (w.alloc (.cells #[.int .i64 y.ep, .int .i64 y.ho, .int .i64 y.ma, .int .i64 y.ch] 2)) (fxRec y) (some ⟨w.heap.size, 0, none⟩) 4 4 none 0 0 := ⟨(C.own_row (C.own_lit 2 w w.heap.size (i64s [y.ep, y.ho, y.ma, y.ch]) (Nat.le_refl _) (by simp [i64s]))).1, crow_nil _⟩
  refine (C.refencode_yes _ (fxRec y) _ _ _ _ _ _ hr hm1 hm2).mono ?_
  rintro e w' ⟨aE, cE, rfl, ho, hb⟩
  have h3 : Below w.heap.size w (w.alloc (.cells #[.int .i64 y.ep, .int .i64 y.ho, .int .i64 y.ma, .int .i64 y.ch] 2)) := (Below.refl _ _).alloc (Nat.le_refl _) _
  obtain ⟨o1, o2⟩ := C.own_row ho
  exact ⟨aE, cE, rfl, o1, fun b off hx => Nat.le_trans h3.size (o2 b off hx).1, h3.trans (hb.mono h3.size)⟩

set_option maxHeartbeats 4000000 in
theorem rput_any (w : World) {vB kB a b : Nat} {c : M.Cl} {L W : Int} (h : RW w rB LB n d vB kB a b c L W) (y : Fx) (hy : y.Ok) :
    Calls Tryz.prog 40 #[.pointer (some ⟨vB, 0, none⟩), .int .i64 y.ep, .int .i64 y.ho, .int .i64 y.ma, .int .i64 y.ch] w fun e w' => e = .returned (.int .i64 (M.puE n d a b c (fxT y))) ∧ RW w' rB LB n (M.puD n d a b c (fxT y)) vB kB a b (M.puC n d a b c (fxT y)) L W ∧ But (theirs rB LB kB vB) w w' := by
  have HP : Hid (∀ w', RW w' rB LB n d vB kB a b c L W → Calls Tryz.prog 61 #[.pointer (some ⟨kB, 0, none⟩), .string (C.str (C.M.enc (fxRec y)))] w' fun e w'' => e = .returned (.int .i64 (M.puE n d a b c (fxT y))) ∧ RX w'' rB LB n (M.puD n d a b c (fxT y)) vB kB a b (M.puC n d a b c (fxT y)) (fx c.text) L W ∧ But (theirs rB LB kB vB) w' w'') := Lib.hid fun w' h => rput_cell h y
  have HS := Lib.hid h
  have HI : Hid (∀ b, w.heap.size ≤ b → b ∉ theirs rB LB kB vB) := Lib.hid fun b hb => h.not_mem hb
  have HE := Lib.hid (wr_enc w y hy)
  have HT : Hid (M.puE n d a b c (fxT y) = 0 → fx (M.puC n d a b c (fxT y)).text = y) := Lib.hid (puC_text h.gn.2 y hy)
  have HC : Hid (M.puE n d a b c (fxT y) ≠ 0 → fx (M.puC n d a b c (fxT y)).text = fx c.text) := Lib.hid fun h9 => by rw [puC_same h.gn.2 y h9]
  generalize M.puE n d a b c (fxT y) = E at *
  generalize M.puD n d a b c (fxT y) = D at *
  generalize M.puC n d a b c (fxT y) = C2 at *
  generalize C.M.enc (fxRec y) = l at *
  clear h hy
  obtain ⟨ep, ho, ma, ch⟩ := y
  simp only at HE HT ⊢
  go_enter Tryz.func40, Tryz.ntmps40
  go_upto_region 2 with (go_at_call 60; with_reducible refine HE.out.mono ?_; rintro e w1 ⟨aE, cE, rfl, hr, hab, hb⟩
                         have HB := Lib.hid hb
                         have S1 := Lib.hid (HS.out.below hb)
                         have HK : Hid (∀ w', But (theirs rB LB kB vB) w1 w' → w'.cell? ⟨vB, 0, none⟩ = some (.pointer (some ⟨kB, 0, none⟩)) → w'.cell? ⟨vB, 0, none⟩ = some (.pointer (some ⟨kB, 0, none⟩)) ∧ (convert 50 9 (.slice aE l.length cE)).run Tryz.prog w' = .ok (.string (C.str l)) w') := Lib.hid fun w' hb' hq => ⟨hq, C.run_string_bytes (row_but hr hb' fun b off hx => HI.out b (hab b off hx))⟩
                         clear hb hr hab)
  obtain ⟨q0, cv⟩ := HK.out w1 (But.refl _ _) S1.out.q0
  go_region_held3 (fun w' => w'.cell? ⟨vB, 0, none⟩ = some (.pointer (some ⟨kB, 0, none⟩)) ∧ (convert 50 9 (.slice aE l.length cE)).run Tryz.prog w' = .ok (.string (C.str l)) w')
    (first
      | exact ⟨q0, cv⟩
      | exact HK.out w1.drew ((But.of_below (Below.refl w1.heap.size w1).drew).mono (by simp)) q0
      | exact HK.out _ B3.out S3.out.q0)
    (first
      | (go_at_call 61; refine (HP.out w1.drew (S1.out.below (Below.refl w1.heap.size w1).drew)).mono ?_; rintro e w3 ⟨rfl, hs3, hb3⟩
         have S3 := Lib.hid hs3
         have B3 : Hid (But (theirs rB LB kB vB) w1 w3) := Lib.hid (((But.of_below (Below.refl w1.heap.size w1).drew).mono (by simp)).trans hb3)
         clear hs3 hb3))
  have B4 := Lib.hid (((But.of_below HB.out).mono (by simp)).trans B3.out)
  clear B3 HB HP HE HK q0 cv S1 HS
  by_cases h0 : E = 0
  · subst h0
    have HT1 := Lib.hid (HT.out rfl)
    clear HT HC
    have q1 := S3.out.q1
    have q2 := S3.out.q2
    have q3 := S3.out.q3
    have q4 := S3.out.q4
    have f1 := S3.out.fz 1
    have f2 := S3.out.fz 2
    have f3 := S3.out.fz 3
    have f4 := S3.out.fz 4
    go_wp2
    go_ret
    refine ⟨rfl, ?_, B4.out.trans (S3.out.setX_but _ _ _ _)⟩
    unfold RW
    rw [HT1.out]
    exact S3.out.setX ⟨ep, ho, ma, ch⟩
  · have h1 : (E == 0) = false := by rw [beq_eq_false_iff_ne]; exact h0
    have H0 := Lib.hid h0
    clear h0
    go_wp2
    go_ret
    refine ⟨rfl, ?_, B4.out⟩
    unfold RW
    rw [HC.out H0.out]
    exact S3.out
end Go.Proofs.YtpoolpckabpnfaaGreat.Wt
