/-
  The document's own Take: every case.
  Both witnesses at once, and both devices alone: what stays while one side is written; where both are opened; where neither can be.
-/
import Derived.Test.YtpoolpckabpnfaaGreatWrTake
import Derived.Test.YtpoolpckabpnfaaGreatJRB
import Derived.Test.YtpoolpckabpnfaaGreatJO
import Derived.Test.YtpoolpckabpnfaaGreatJWC
import Derived.Test.YtpoolpckabpnfaaGreatJDR
namespace Go.Proofs.YtpoolpckabpnfaaGreat.Wt
open Go.RowKit
open Ml (Mg may msgV MB)
set_option linter.unusedVariables false
set_option linter.unusedSimpArgs false
set_option maxRecDepth 20000

variable {rB LB n : Nat} {d : M.Dv}

theorem rtake_no (w : World) (vB : Nat) (fr : Int) (m : Mg) (hc : can fr m = false) :
    Calls Tryz.prog 11 #[.pointer (some ⟨vB, 0, none⟩), .int .i64 fr, msgV m] w fun e w' => e = .returned (.tuple #[msgV Ml.nil, .bool false]) ∧ Below w.heap.size w w' := by
  by_cases h1 : fr < 0
  · exact rtake_neg w vB fr m h1
  · by_cases h2 : 1 < fr
    · exact rtake_pos w vB fr m h2
    · have hf : 0 ≤ fr ∧ fr ≤ 1 := by omega
      cases hm : may m with
      | false => exact rtake_may w vB fr m hf hm
      | true =>
        have hn : isNode fr = true := (isNode_iff fr).2 hf
        have hk : kindOk m.kind = false := by
          unfold can at hc
          rw [hn, hm] at hc
          simpa using hc
        exact rtake_kind w vB fr m hf hm hk
theorem lostM_in3 {ma fr : Int} (hf : 0 ≤ fr ∧ fr ≤ 1) (hm : 1 ≤ ma ∧ ma ≤ 3) (h3 : ma ≠ 3) (hI : inM ma (1 - fr) = true) : lostM ma fr = 2 - fr := by
  have h1 : ma = 1 ∨ ma = 2 := by omega
  have h2 : fr = 0 ∨ fr = 1 := by omega
  rcases h1 with rfl | rfl <;> rcases h2 with rfl | rfl <;> revert hI <;> decide

/-- a message is taken -/
theorem rtake_any (w : World) {vB kB a b : Nat} {c : M.Cl} {L W : Int} (h : RW w rB LB n d vB kB a b c L W) (fr : Int) (m : Mg) :
    Calls Tryz.prog 11 #[.pointer (some ⟨vB, 0, none⟩), .int .i64 fr, msgV m] w fun e w' => e = .returned (.tuple #[msgV (takA n a b d c L fr m), .bool (takI n a b d c L fr m)]) ∧ RW w' rB LB n (takD n a b d c L fr m) vB kB a b (takC n a b d c L fr m) (takL n a b d c L W fr m) W ∧ But (theirs rB LB kB vB) w w' := by
  cases hc : can fr m with
  | false =>
    have e1 : takI n a b d c L fr m = false := by unfold takI; rw [hc]; rfl
    have e2 : takA n a b d c L fr m = Ml.nil := by unfold takA; rw [e1]; rfl
    have e3 : takD n a b d c L fr m = d := by unfold takD; rw [if_neg (by simp [hc])]
    have e4 : takC n a b d c L fr m = c := by unfold takC; rw [if_neg (by simp [hc])]
    have e5 : takL n a b d c L W fr m = L := by unfold takL; rw [if_neg (by simp [hc])]
    rw [e1, e2, e3, e4, e5]
    refine (rtake_no w vB fr m hc).mono ?_
    rintro e w' ⟨rfl, hb⟩
    exact ⟨rfl, RX.below h hb, (But.of_below hb).mono (by simp)⟩
  | true =>
    obtain ⟨e3, e4⟩ := @tak_eqs n a b d c L W fr m hc
    obtain ⟨hk, hf, hm⟩ := (can_iff fr m).1 hc
    have hI : takE n a b d c L fr m = 30 → takI n a b d c L fr m = false ∧ takA n a b d c L fr m = Ml.nil := fun h30 => by
      have e1 : takI n a b d c L fr m = false := by unfold takI; rw [hc, h30]; rfl
      exact ⟨e1, by unfold takA; rw [e1]; rfl⟩
    have hJ : takE n a b d c L fr m ≠ 30 → takI n a b d c L fr m = true ∧ takA n a b d c L fr m = ansA (fx (takC n a b d c L fr m).text) m (takE n a b d c L fr m) := fun h30 => by
      have e1 : takI n a b d c L fr m = true := by unfold takI; rw [hc, decide_eq_false h30]; rfl
      exact ⟨e1, by unfold takA; rw [if_pos e1]⟩
    rcases hk with hk | hk | hk
    · have ep : takP (fx c.text) L fr m = askP (fx c.text) L fr m := by unfold takP; rw [if_pos hk]
      have eE : takE n a b d c L fr m = doE n a b d c (askP (fx c.text) L fr m) := by unfold takE; rw [ep]
      have e5 : takL n a b d c L W fr m = if takE n a b d c L fr m = 0 then W else L := by
        unfold takL; rw [hc, hk]; simp
      have hdo := fun (w' : World) (h : RW w' rB LB n d vB kB a b c L W) => rask_any w' h fr hf m
      rw [← ep, ← e3, ← e4] at hdo
      rw [ep, ← eE, ← e5] at hdo
      by_cases h30 : takE n a b d c L fr m = 30
      · rw [(hI h30).1, (hI h30).2]
        exact rtake_no1 w h fr hf m hk hm hdo h30
      · rw [(hJ h30).1, (hJ h30).2]
        exact rtake_yes1 w h fr hf m hk hm hdo h30
    · have ep : takP (fx c.text) L fr m = chaP (fx c.text) fr m := by unfold takP; rw [if_neg (by omega), if_pos hk]
      have eE : takE n a b d c L fr m = doE n a b d c (chaP (fx c.text) fr m) := by unfold takE; rw [ep]
      have e5 : takL n a b d c L W fr m = L := by unfold takL; rw [if_neg (by omega)]
      have hdo := fun (w' : World) (h : RW w' rB LB n d vB kB a b c L W) => rcha_any w' h fr hf m hm
      rw [← ep, ← e3, ← e4] at hdo
      rw [ep, ← eE] at hdo
      rw [e5]
      by_cases h30 : takE n a b d c L fr m = 30
      · rw [(hI h30).1, (hI h30).2]
        exact rtake_no3 w h fr hf m hk hm hdo h30
      · rw [(hJ h30).1, (hJ h30).2]
        exact rtake_yes3 w h fr hf m hk hm hdo h30
    · have ep : takP (fx c.text) L fr m = losP (fx c.text) fr := by unfold takP; rw [if_neg (by omega), if_neg (by omega)]
      have eE : takE n a b d c L fr m = M.puE n d a b c (fxT ⟨(fx c.text).ep, -1, lostM (fx c.text).ma fr, (fx c.text).ch⟩) := by unfold takE; rw [ep]; rfl
      have eD : takD n a b d c L fr m = M.puD n d a b c (fxT ⟨(fx c.text).ep, -1, lostM (fx c.text).ma fr, (fx c.text).ch⟩) := by rw [e3, ep]; rfl
      have eC : takC n a b d c L fr m = M.puC n d a b c (fxT ⟨(fx c.text).ep, -1, lostM (fx c.text).ma fr, (fx c.text).ch⟩) := by rw [e4, ep]; rfl
      have e5 : takL n a b d c L W fr m = L := by unfold takL; rw [if_neg (by omega)]
      have hok := fx_ok c.text
      have hdo := fun (w' : World) (h : RW w' rB LB n d vB kB a b c L W) => rput_any w' h ⟨(fx c.text).ep, -1, lostM (fx c.text).ma fr, (fx c.text).ch⟩ ⟨hok.1, by simp only; omega, lostM_in hf hok.2.2.1, hok.2.2.2⟩
      rw [← eE, ← eD, ← eC] at hdo
      simp only at hdo
      rw [e5]
      by_cases h3 : (fx c.text).ma = 3
      · rw [show lostM (fx c.text).ma fr = 2 - fr by unfold lostM; rw [if_pos h3]] at hdo
        by_cases h30 : takE n a b d c L fr m = 30
        · rw [(hI h30).1, (hI h30).2]
          exact rtake_no4A w h fr hf m hk hm hdo h30 h3
        · rw [(hJ h30).1, (hJ h30).2]
          exact rtake_yes4A w h fr hf m hk hm hdo h30 h3
      · cases hq : inM (fx c.text).ma (1 - fr) with
        | true =>
          rw [lostM_in3 hf hok.2.2.1 h3 hq] at hdo
          by_cases h30 : takE n a b d c L fr m = 30
          · rw [(hI h30).1, (hI h30).2]
            exact rtake_no4B w h fr hf m hk hm hdo h30 h3 hq
          · rw [(hJ h30).1, (hJ h30).2]
            exact rtake_yes4B w h fr hf m hk hm hdo h30 h3 hq
        | false =>
          rw [show lostM (fx c.text).ma fr = (fx c.text).ma by unfold lostM; rw [if_neg h3]] at hdo
          by_cases h30 : takE n a b d c L fr m = 30
          · rw [(hI h30).1, (hI h30).2]
            exact rtake_no4C w h fr hf m hk hm hdo h30 h3 hq
          · rw [(hJ h30).1, (hJ h30).2]
            exact rtake_yes4C w h fr hf m hk hm hdo h30 h3 hq
end Go.Proofs.YtpoolpckabpnfaaGreat.Wt
namespace Go.Proofs.YtpoolpckabpnfaaGreat.Wt
open Go.RowKit
open Ml (Mg may msgV)
set_option linter.unusedVariables false
set_option linter.unusedSimpArgs false
set_option maxRecDepth 20000

/-- the device alone does something -/
theorem WS.dev' {w w' : World} {dB sB mB n tB cB a b : Nat} {d d' : M.Dv} {c : M.Cl} {L W : Int} (h : WS w dB sB mB n d tB cB a b c L W) (hd : DevAt w' dB sB mB n d') {l : List Nat} (hb : But l w w') (hl : ∀ y ∈ l, y = dB ∨ y = sB ∨ y = mB) : WS w' dB sB mB n d' tB cB a b c L W where
  dev := hd
  sv := h.sv.but hb (fun hm => by have := hl _ hm; have := h.td; omega)
  cel := h.cel.but hb (fun hm => by have := hl _ hm; have := h.kd; omega)
  kd := h.kd
  td := h.td
  o1 := h.o1
  gn := h.gn
  tx := h.tx
  ab := h.ab
  wt := h.wt
  lf := h.lf
theorem RX.dev' {w w' : World} {rB LB n vB kB a b : Nat} {d d' : M.Dv} {c : M.Cl} {x : Fx} {L W : Int} (h : RX w rB LB n d vB kB a b c x L W) (hd : RefAt w' rB LB n d') {l : List Nat} (hb : But l w w') (hl : ∀ y ∈ l, y = rB ∨ y = LB) : RX w' rB LB n d' vB kB a b c x L W where
  ref := hd
  sv := h.sv.but hb (fun hm => by have := hl _ hm; have := h.vd; omega)
  cel := by obtain ⟨z, hz, hc⟩ := h.cel; exact ⟨z, hz, hc.but hb (fun hm => by have := hl _ hm; have := h.kd; omega)⟩
  kd := h.kd
  vd := h.vd
  gn := h.gn
  o1 := h.o1
  tx := h.tx
  ab := h.ab
  wt := h.wt
  lf := h.lf

/-- both devices -/
structure ND (w0 wx : World) (dB sB mB rB LB n : Nat) (d d2 : M.Dv) : Prop where
  l : DevAt wx dB sB mB n d
  r : RefAt wx rB LB n d2
  be : Below w0.heap.size w0 wx
  gl : w0.heap.size ≤ dB ∧ w0.heap.size ≤ sB ∧ w0.heap.size ≤ mB
  gr : w0.heap.size ≤ rB ∧ w0.heap.size ≤ LB
  ap : (dB ≠ rB ∧ dB ≠ LB) ∧ (sB ≠ rB ∧ sB ≠ LB) ∧ (mB ≠ rB ∧ mB ≠ LB)
section
variable {w0 wx wy : World} {dB sB mB rB LB n : Nat} {d d2 d' : M.Dv}
theorem ND.left (h : ND w0 wx dB sB mB rB LB n d d2) (hd : DevAt wy dB sB mB n d') {l : List Nat} (hb : But l wx wy) (hl : ∀ y ∈ l, y = dB ∨ y = sB ∨ y = mB) : ND w0 wy dB sB mB rB LB n d' d2 :=
  ⟨hd, h.r.but hb (fun hm => by have := hl _ hm; have := h.ap; omega) (fun hm => by have := hl _ hm; have := h.ap; omega), h.be.trans (hb.to_below (fun y hy => by have := hl _ hy; have := h.gl; omega) h.be.size), h.gl, h.gr, h.ap⟩
theorem ND.right (h : ND w0 wx dB sB mB rB LB n d d2) (hd : RefAt wy rB LB n d') {l : List Nat} (hb : But l wx wy) (hl : ∀ y ∈ l, y = rB ∨ y = LB) : ND w0 wy dB sB mB rB LB n d d' :=
  ⟨h.l.but hb (fun hm => by have := hl _ hm; have := h.ap; omega) (fun hm => by have := hl _ hm; have := h.ap; omega) (fun hm => by have := hl _ hm; have := h.ap; omega), hd, h.be.trans (hb.to_below (fun y hy => by have := hl _ hy; have := h.gr; omega) h.be.size), h.gl, h.gr, h.ap⟩
theorem ND.fresh (h : ND w0 wx dB sB mB rB LB n d d2) (hb : Below wx.heap.size wx wy) : ND w0 wy dB sB mB rB LB n d d2 :=
  h.left (h.l.but (But.of_below hb) (by simp) (by simp) (by simp)) (But.of_below hb) (by simp)
theorem ND.lt (h : ND w0 wx dB sB mB rB LB n d d2) : dB < wx.heap.size ∧ sB < wx.heap.size ∧ mB < wx.heap.size ∧ rB < wx.heap.size ∧ LB < wx.heap.size := ⟨h.l.ltD, h.l.lt, h.l.pend.lt, h.r.ltR, h.r.lt⟩
end

/-- both witnesses -/
structure MG (w0 wx : World) (dB sB mB rB LB n a b : Nat) (W : Int) (tB cB vB kB : Nat) (d : M.Dv) (c : M.Cl) (L : Int) (d2 : M.Dv) (c2 : M.Cl) (L2 : Int) : Prop where
  l : WS wx dB sB mB n d tB cB a b c L W
  r : RW wx rB LB n d2 vB kB a b c2 L2 W
  be : Below w0.heap.size w0 wx
  gl : ∀ y ∈ ours dB sB mB cB tB, w0.heap.size ≤ y
  gr : ∀ y ∈ theirs rB LB kB vB, w0.heap.size ≤ y
  ap : ∀ y ∈ ours dB sB mB cB tB, y ∉ theirs rB LB kB vB
section
variable {w0 wx wy wz : World} {dB sB mB rB LB n a b tB cB vB kB : Nat} {W : Int} {d d' d2 : M.Dv} {c c' c2 : M.Cl} {L L' L2 : Int}
theorem MG.left (h : MG w0 wx dB sB mB rB LB n a b W tB cB vB kB d c L d2 c2 L2) (hl : WS wy dB sB mB n d' tB cB a b c' L' W) {l : List Nat} (hb : But l wx wy) (hs : ∀ y ∈ l, y ∈ ours dB sB mB cB tB) : MG w0 wy dB sB mB rB LB n a b W tB cB vB kB d' c' L' d2 c2 L2 :=
  ⟨hl, RX.but h.r hb (fun x hx => h.ap x (hs x hx)), h.be.trans (hb.to_below (fun y hy => h.gl y (hs y hy)) h.be.size), h.gl, h.gr, h.ap⟩
theorem MG.right (h : MG w0 wx dB sB mB rB LB n a b W tB cB vB kB d c L d2 c2 L2) (hr : RW wy rB LB n d' vB kB a b c' L' W) {l : List Nat} (hb : But l wx wy) (hs : ∀ y ∈ l, y ∈ theirs rB LB kB vB) : MG w0 wy dB sB mB rB LB n a b W tB cB vB kB d c L d' c' L' :=
  ⟨h.l.but hb (fun x hx => fun hm => h.ap x hm (hs x hx)), hr, h.be.trans (hb.to_below (fun y hy => h.gr y (hs y hy)) h.be.size), h.gl, h.gr, h.ap⟩
theorem MG.fresh (h : MG w0 wx dB sB mB rB LB n a b W tB cB vB kB d c L d2 c2 L2) (hb : Below wx.heap.size wx wy) : MG w0 wy dB sB mB rB LB n a b W tB cB vB kB d c L d2 c2 L2 :=
  h.left (h.l.below hb) (But.of_below hb) (by simp)
theorem MG.llt (h : MG w0 wx dB sB mB rB LB n a b W tB cB vB kB d c L d2 c2 L2) : ∀ y ∈ ours dB sB mB cB tB, y < wx.heap.size := h.l.ours_lt
theorem MG.rlt (h : MG w0 wx dB sB mB rB LB n a b W tB cB vB kB d c L d2 c2 L2) : ∀ y ∈ theirs rB LB kB vB, y < wx.heap.size := RX.theirs_lt h.r
theorem MG.dev (h : MG w0 wx dB sB mB rB LB n a b W tB cB vB kB d c L d2 c2 L2) (hd : DevAt wy dB sB mB n d') {l : List Nat} (hb : But l wx wy) (hl : ∀ y ∈ l, y = dB ∨ y = sB ∨ y = mB) : MG w0 wy dB sB mB rB LB n a b W tB cB vB kB d' c L d2 c2 L2 :=
  h.left (h.l.dev' hd hb hl) hb (fun y hy => mem_ours.2 (by rcases hl y hy with h | h | h <;> simp [h]))
theorem MG.ref (h : MG w0 wx dB sB mB rB LB n a b W tB cB vB kB d c L d2 c2 L2) (hd : RefAt wy rB LB n d') {l : List Nat} (hb : But l wx wy) (hl : ∀ y ∈ l, y = rB ∨ y = LB) : MG w0 wy dB sB mB rB LB n a b W tB cB vB kB d c L d' c2 L2 :=
  h.right (RX.dev' h.r hd hb hl) hb (fun y hy => mem_theirs.2 (by rcases hl y hy with h | h <;> simp [h]))
theorem MG.nd (h : MG w0 wx dB sB mB rB LB n a b W tB cB vB kB d c L d2 c2 L2) : ND w0 wx dB sB mB rB LB n d d2 := by
  have l1 : dB ∈ ours dB sB mB cB tB := mem_ours.2 (.inl rfl)
  have l2 : sB ∈ ours dB sB mB cB tB := mem_ours.2 (.inr (.inl rfl))
  have l3 : mB ∈ ours dB sB mB cB tB := mem_ours.2 (.inr (.inr (.inl rfl)))
  have r1 : rB ∈ theirs rB LB kB vB := mem_theirs.2 (.inl rfl)
  have r2 : LB ∈ theirs rB LB kB vB := mem_theirs.2 (.inr (.inl rfl))
  have ne : ∀ {x y}, x ∈ ours dB sB mB cB tB → y ∈ theirs rB LB kB vB → x ≠ y := fun hx hy e => h.ap _ hx (e ▸ hy)
  exact ⟨h.l.dev, RX.ref h.r, h.be, ⟨h.gl _ l1, h.gl _ l2, h.gl _ l3⟩, ⟨h.gr _ r1, h.gr _ r2⟩, ⟨ne l1 r1, ne l1 r2⟩, ⟨ne l2 r1, ne l2 r2⟩, ⟨ne l3 r1, ne l3 r2⟩⟩
/-- both are opened, one behind the other -/
theorem ND.opened (h : ND w0 wx dB sB mB rB LB n d d2) (hb : Below wx.heap.size wx wy) (hl : WS wy dB sB mB n d tB cB a b c L W) (h1 : wx.heap.size ≤ tB) (h2 : wx.heap.size ≤ cB)
    (hb2 : Below wy.heap.size wy wz) (hr : RW wz rB LB n d2 vB kB a b c2 L2 W) (h3 : wy.heap.size ≤ vB) (h4 : wy.heap.size ≤ kB) : MG w0 wz dB sB mB rB LB n a b W tB cB vB kB d c L d2 c2 L2 := by
  have hs0 := h.be.size
  have hs1 := hb.size
  obtain ⟨g1, g2, g3⟩ := h.gl
  obtain ⟨g4, g5⟩ := h.gr
  obtain ⟨q1, q2, q3, q4, q5⟩ := h.lt
  obtain ⟨⟨a1, a2⟩, ⟨a3, a4⟩, a5, a6⟩ := h.ap
  have o1 : tB < wy.heap.size := hl.ours_lt _ (mem_ours.2 (by simp))
  have o2 : cB < wy.heap.size := hl.ours_lt _ (mem_ours.2 (by simp))
  refine ⟨hl.below hb2, hr, (h.be.trans (hb.mono hs0)).trans (hb2.mono (by omega)), fun y hy => ?_, fun y hy => ?_, fun y hy hm => ?_⟩
  · rcases mem_ours.1 hy with rfl | rfl | rfl | rfl | rfl <;> omega
  · rcases mem_theirs.1 hy with rfl | rfl | rfl | rfl <;> omega
  · rcases mem_theirs.1 hm with e | e | e | e <;> rcases mem_ours.1 hy with e2 | e2 | e2 | e2 | e2 <;> omega
end

/-! ## where neither can be opened -/
theorem wopen_bad {dB sB mB n : Nat} {d : M.Dv} (w : World) (h : DevAt w dB sB mB n d) (x y : Int) (hb : Bad n x y) {W : Int} (hW : 1 ≤ W ∧ W ≤ 1099511627776) :
    Calls Tryz.prog 7 #[.pointer (some ⟨dB, 0, none⟩), .int .i64 x, .int .i64 y, .int .i64 W] w fun e w' => e = .returned (.tuple #[.pointer none, .int .i64 1]) ∧ w = w' := by
  have HW := Lib.hid (fun w' => within_any W 1 1099511627776 w')
  rw [show (decide (1 ≤ W) && decide (W ≤ 1099511627776)) = true by rw [decide_eq_true hW.1, decide_eq_true hW.2]; rfl] at HW
  have HO := Lib.hid (copen_bad w h x y hb)
  clear h hb hW
  go_enter Tryz.func7, Tryz.ntmps7
  go_wp2_with (first
    | (go_at_call 27; with_reducible refine (HW.out _).mono ?_; rintro e w1 ⟨rfl, rfl⟩)
    | (go_at_call 28; with_reducible refine HO.out.mono ?_; rintro e w2 ⟨rfl, rfl⟩))
  go_ret2
  exact ⟨rfl, rfl⟩
/-- what lets none be opened -/
def NoW (n : Nat) (x y W : Int) : Prop := ¬ (1 ≤ W ∧ W ≤ 1099511627776) ∨ Bad n x y
theorem wopen_no {dB sB mB n : Nat} {d : M.Dv} (w : World) (h : DevAt w dB sB mB n d) (x y W : Int) (hn : NoW n x y W) :
    Calls Tryz.prog 7 #[.pointer (some ⟨dB, 0, none⟩), .int .i64 x, .int .i64 y, .int .i64 W] w fun e w' => e = .returned (.tuple #[.pointer none, .int .i64 1]) ∧ w = w' := by
  by_cases hW : 1 ≤ W ∧ W ≤ 1099511627776
  · exact wopen_bad w h x y (hn.resolve_left (fun h => h hW)) hW
  · exact wopen_arg w ⟨dB, 0, none⟩ x y W hW
theorem ropen_no {rB LB n : Nat} {d : M.Dv} (w : World) (h : RefAt w rB LB n d) (x y W : Int) (hn : NoW n x y W) :
    Calls Tryz.prog 8 #[.pointer (some ⟨rB, 0, none⟩), .int .i64 x, .int .i64 y, .int .i64 W] w fun e w' => e = .returned (.tuple #[.pointer none, .int .i64 1]) ∧ w = w' := by
  by_cases hW : 1 ≤ W ∧ W ≤ 1099511627776
  · exact ropen_err w ⟨rB, 0, none⟩ x y W hW 1 (by decide) (ropen_bad w h x y (hn.resolve_left (fun h => h hW)))
  · exact ropen_arg w ⟨rB, 0, none⟩ x y W hW
end Go.Proofs.YtpoolpckabpnfaaGreat.Wt
