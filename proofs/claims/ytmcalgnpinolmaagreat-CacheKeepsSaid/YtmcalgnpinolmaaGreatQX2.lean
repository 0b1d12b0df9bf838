/-
  A cache as it is seen, where the power may go: Drop, Clean, Reset.
  Note, where the power may go.
  Put, where the power may go.
  An act, a crash, and it is opened anew.
-/
import Derived.Test.YtmcalgnpinolmaaGreatQX1
import Derived.Test.YtmcalgnpinolmaaGreatQH
import Derived.Test.YtmcalgnpinolmaaGreatSDev5
import Derived.Deep.DeepCutAuto
namespace Go.Proofs.YtmcalgnpinolmaaGreat
open Go.RowKit Go.Maps
set_option linter.unusedVariables false
set_option linter.unusedSimpArgs false
set_option maxRecDepth 20000
namespace Q
variable {B : Bk} {G : Gm} {V : Vi} {K : Int} {P P' : Vi → Prop}

/-- a cache as it is seen, where the power may go; P: how it was seen since all was sure -/
def CV (w : World) (B : Bk) (G : Gm) (P : Vi → Prop) (V : Vi) (K : Int) : Prop := ∃ s d, CX w B G P s d ∧ LenOk G.N s.L s.E ∧ vis s.E = V.e ∧ s.k = V.k ∧ s.K ≤ K ∧ P V
theorem CV.but {w w' : World} (h : CV w B G P V K) {q : List Nat} (hb : But q w w') (hq : ∀ x ∈ B.l, x ∉ q) : CV w' B G P V K := by
  obtain ⟨s, d, h1, h2⟩ := h
  exact ⟨s, d, h1.but hb hq, h2⟩
theorem CV.below {w w' : World} (h : CV w B G P V K) (hb : Below w.heap.size w w') : CV w' B G P V K := h.but (But.of_below hb) (by simp)
theorem CV.lt {w : World} (h : CV w B G P V K) : ∀ x ∈ B.l, x < w.heap.size := by
  obtain ⟨s, d, h1, _⟩ := h
  exact h1.lt
theorem CV.mono {w : World} {K' : Int} (h : CV w B G P V K) (hk : K ≤ K') (hp : ∀ v, P v → P' v) : CV w B G P' V K' := by
  obtain ⟨s, d, h1, h2, h3, h4, h5, h6⟩ := h
  exact ⟨s, d, h1.mono hp, h2, h3, h4, by omega, hp _ h6⟩
theorem CV.qc {w : World} (h : CV w B G P V K) : CacheC w B.qB B.lB G.N G.nb B.mE V.k := by
  obtain ⟨s, d, h1, _, _, h3, _⟩ := h
  rw [← h3]; exact h1.qc
theorem CV.ok {w : World} (h : CV w B G P V K) : VOk G.nb G.N V := by
  obtain ⟨s, d, h1, _, h2, h3, _⟩ := h
  have o := h1.hd.ok
  refine ⟨fun b x hx => ?_, fun b x hx => ?_, by rw [← h2]; exact h1.hd.cn, h1.hd.n8, h1.hd.nb, by rw [← h3]; exact h1.hd.kk⟩
  · rw [← h2] at hx
    unfold vis at hx
    cases hE : s.E b with
    | none => rw [hE] at hx; cases hx
    | some y => rw [hE] at hx; injection hx with hx; subst hx; exact o.key b y hE
  · rw [← h2] at hx
    unfold vis at hx
    cases hE : s.E b with
    | none => rw [hE] at hx; cases hx
    | some y => rw [hE] at hx; injection hx with hx; subst hx; exact o.may b y hE
theorem CV.ct {w : World} (h : CV w B G P V K) : Ct w B G V := by
  have h1 := h.qc
  have h2 := h.ok
  obtain ⟨s, d, g1, _, g2, _⟩ := h
  exact ⟨h1, ⟨s.E, g1.mp, g2⟩, h2, by have := g1.lg.geo.fn; have := g1.lg.geo.n5; omega⟩

/-- what a call makes of a cache, whatever it tells -/
def AfterX (w : World) (B : Bk) (G : Gm) (P : Vi → Prop) (K' : Int) (w' : World) : Prop := ∃ V' r, CV w' (B.row r) G (fun v => P v ∨ v = V') V' K' ∧ (r = B.rb ∨ w.heap.size ≤ r) ∧ But B.l w w'
theorem AfterX.same {w w' : World} (h : CV w B G P V K) (hb : Below w.heap.size w w') {K' : Int} (hk : K ≤ K') : AfterX w B G P K' w' := ⟨V, B.rb, (h.below hb).mono hk (fun v => .inl), .inl rfl, (But.refl _ _).below hb (Nat.le_refl _)⟩
theorem AfterX.from {w w1 w' : World} {K' : Int} (hb : Below w.heap.size w w1) {r : Nat} {V' : Vi} (h1 : CV w' (B.row r) G (fun v => P v ∨ v = V') V' K') (h2 : r = B.rb ∨ w1.heap.size ≤ r) (h3 : But B.l w1 w') : AfterX w B G P K' w' :=
  ⟨V', r, h1, by have := hb.size; omega, ((But.refl B.l w).below hb (Nat.le_refl _)).trans h3⟩

theorem bring_v (w : World) (h : CV w B G P V K) (hK : K ≤ 700000000) (b cap : Nat) (ds : List (Deed × Kp)) (hds : ds.length ≤ 2) (hds0 : 1 ≤ ds.length) (hrow : RowD w b ds) (hb : b ∉ B.l) (ha : Adm G.nb G.N V.e ds) (hmid : ∀ i, 0 < i → i < ds.length → P ⟨runV V.e (ds.take i), lastK V.k (ds.take i)⟩) :
    Calls Tryz.prog 51 #[.pointer (some ⟨B.qB, 0, none⟩), .slice (some ⟨b, 0, none⟩) ds.length cap] w fun e w' => ∃ (x : Int) (V' : Vi) (r : Nat), e = .returned (.int .i64 x) ∧ (∃ i, V' = ⟨runV V.e (ds.take i), lastK V.k (ds.take i)⟩) ∧ CV w' (B.row r) G (fun v => P v ∨ v = V') V' (K + 2002) ∧ (r = B.rb ∨ w.heap.size ≤ r) ∧ But B.l w w' := by
  obtain ⟨s, d, h1, h2, h3, h4, h5, h6⟩ := h
  have hcur : (⟨vis s.E, s.k⟩ : Vi) = V := by rw [h3, h4]
  have hmid2 : ∀ i, i < ds.length → P ⟨runV V.e (ds.take i), lastK V.k (ds.take i)⟩ := fun i hi => by
    by_cases h0 : i = 0
    · subst h0; simpa [runV, lastK] using h6
    · exact hmid i (by omega) hi
  refine (bring_x (P' := fun v => P v ∨ v = ⟨runV V.e ds, lastK V.k ds⟩) w h1 (by omega) h2 b cap ds hds hrow hb (by rw [h3]; exact ha) hds0 (fun i hi => by rw [h3, h4]; exact hmid2 i hi) (fun v hv => .inl hv) (by rw [h3, h4]; exact .inr rfl)).mono ?_
  rintro e w' ⟨x, rfl, r, s', d', i, hr, hbu, hi, hk, hv, hKK, hl, hor⟩
  rw [h4] at hk
  rw [h3] at hv
  rcases hor with ⟨hx, hil, hg⟩ | ⟨hx, hil, hdd, hg⟩
  · subst hil
    rw [List.take_length] at hk hv
    refine ⟨x, ⟨runV V.e ds, lastK V.k ds⟩, r, rfl, ⟨ds.length, by rw [List.take_length]⟩, ⟨s', d', hg, hl, hv, hk, by omega, .inr rfl⟩, hr, hbu⟩
  · exact ⟨x, ⟨runV V.e (ds.take i), lastK V.k (ds.take i)⟩, r, rfl, ⟨i, rfl⟩, ⟨s', d', hg.mono (fun v hv => .inl hv), hl, hv, hk, by omega, .inr rfl⟩, hr, hbu⟩

/-- one record, built just now -/
theorem bring1_x (w : World) (h : CV w B G P V K) (hK : K ≤ 700000000) (d : Deed) (k : Kp) (hd : MayD G.nb d) (hk : MayK k) (hcn : num G.nb (stepV V.e d) ≤ G.N - 6) {t : TypeId} {v : Value} (hv : d.val = .iface t v) :
    Calls Tryz.prog 51 #[.pointer (some ⟨B.qB, 0, none⟩), .slice (some ⟨w.heap.size, 0, none⟩) 1 1] (w.alloc (.cells #[.iface t v, .int .i64 k.ep, .int .i64 k.sq, .int .i64 k.t0, .int .i64 k.t1, .int .i64 k.t2, .int .i64 k.t3] 98)) fun e w' => ∃ x : Int, e = .returned (.int .i64 x) ∧ AfterX w B G P (K + 2002) w' := by
  have hb := (Below.refl w.heap.size w).alloc (Nat.le_refl _) (.cells #[.iface t v, .int .i64 k.ep, .int .i64 k.sq, .int .i64 k.t0, .int .i64 k.t1, .int .i64 k.t2, .int .i64 k.t3] 98)
  refine (bring_v _ (h.below hb) hK w.heap.size 1 [(d, k)] (by simp) (by simp) (rowD_one w d k hv) (fun z => by have := h.lt _ z; omega) ⟨hd, hk, hcn, trivial⟩ (fun i h1 h2 => by simp at h2; omega)).mono ?_
  rintro e w' ⟨x, V', r, rfl, _, g1, g2, g3⟩
  exact ⟨x, rfl, AfterX.from hb g1 g2 g3⟩

/-- the map's look-up, by what is seen -/
theorem look_x {w : World} (h : CV w B G P V K) {b : Int} (hb0 : -9223372036854775808 ≤ b) (hb1 : b ≤ 9223372036854775807) : ∃ x : La, (V.e b = some x.e ∨ (V.e b = none ∧ x = zeroL)) ∧
    (Instr.lookup 90 (.map (some B.mE)) (.int .i64 b) true).run Tryz.prog w = .ok (.tuple #[x.val, .bool (V.e b).isSome]) w := by
  obtain ⟨s, d, hc, _, hv, _⟩ := h
  have hl := (mapq_look hc.mp hb0 hb1).1
  have hE : vis s.E b = V.e b := by rw [hv]
  rw [← hE]
  unfold vis
  cases hs : s.E b with
  | none => rw [hs] at hl; exact ⟨zeroL, .inr ⟨rfl, rfl⟩, hl⟩
  | some y => rw [hs] at hl; exact ⟨y, .inl rfl, hl⟩


set_option maxHeartbeats 1000000 in
theorem drop_x (w : World) (h : CV w B G P V K) (hK : K ≤ 600000000) (b : Int) (hb0 : -9223372036854775808 ≤ b) (hb1 : b ≤ 9223372036854775807) :
    Calls Tryz.prog 37 #[.pointer (some ⟨B.qB, 0, none⟩), .int .i64 b] w fun e w' => ∃ x : Int, e = .returned (.int .i64 x) ∧ AfterX w B G P (K + 2002) w' := by
  obtain ⟨x, hx, hl⟩ := look_x h hb0 hb1
  have ok := h.ok
  have p3 := h.qc.p3
  obtain ⟨⟨xb, xp, xq, xd, xy, xc, xn⟩, xpos⟩ := x
  unfold La.val at hl
  simp only at hl
  have HB : Hid (Below w.heap.size w (w.alloc (.cells #[.int .i64 xb, .int .i64 xp, .int .i64 xq, .string xd, .bool xy, .int .i64 xc, .int .i64 xn, .int .i64 xpos] 108))) := Lib.hid ((Below.refl _ _).alloc (Nat.le_refl _) _)
  have H1 := Lib.hid (h.below HB.out)
  by_cases hs : (V.e b).isSome = true
  · rw [hs] at hl
    obtain ⟨y, hy⟩ := Option.isSome_iff_exists.1 hs
    have hr := ok.range hy
    have HC := Lib.hid (bring1_x _ H1.out (by omega) (.drop b) V.k hr ok.kk (Nat.le_trans (num_drop _ _) ok.cn) rfl)
    have p4 := H1.out.qc.p4
    have p5 := H1.out.qc.p5
    have p6 := H1.out.qc.p6
    have p7 := H1.out.qc.p7
    have p8 := H1.out.qc.p8
    have p9 := H1.out.qc.p9
    rw [show (w.alloc (.cells #[.int .i64 xb, .int .i64 xp, .int .i64 xq, .string xd, .bool xy, .int .i64 xc, .int .i64 xn, .int .i64 xpos] 108)).heap.size = w.heap.size + 1 by simp] at HC
    clear h hx ok hs hr hy hK hb0 hb1
    go_enter Tryz.func37, Tryz.ntmps37
    go_wp2_with (go_at_call 51; with_reducible refine HC.out.mono ?_; rintro e w2 ⟨x2, rfl, h2⟩; have H2 := Lib.hid h2; clear h2)
    go_ret
    obtain ⟨V2, r2, g1, g2, g3⟩ := H2.out
    exact ⟨_, rfl, AfterX.from HB.out g1 g2 g3⟩
  · have hs2 : (V.e b).isSome = false := by simpa using hs
    rw [hs2] at hl
    have HF : Hid (AfterX w B G P (K + 2002) (w.alloc (.cells #[.int .i64 xb, .int .i64 xp, .int .i64 xq, .string xd, .bool xy, .int .i64 xc, .int .i64 xn, .int .i64 xpos] 108))) := Lib.hid (AfterX.same h HB.out (by omega))
    clear h hx ok hs hs2 hK hb0 hb1 H1
    go_enter Tryz.func37, Tryz.ntmps37
    go_wp2_with fail
    go_ret
    exact ⟨_, rfl, HF.out⟩


set_option maxHeartbeats 2000000 in
theorem clean_x (w : World) (h : CV w B G P V K) (hK : K ≤ 600000000) (b ep sq : Int) (hb0 : -9223372036854775808 ≤ b) (hb1 : b ≤ 9223372036854775807) :
    Calls Tryz.prog 26 #[.pointer (some ⟨B.qB, 0, none⟩), .int .i64 b, .agg #[.int .i64 ep, .int .i64 sq]] w fun e w' => ∃ x : Int, e = .returned (.int .i64 x) ∧ AfterX w B G P (K + 2002) w' := by
  have HB0 : Hid (Below w.heap.size w (w.alloc (.cells #[.int .i64 ep, .int .i64 sq] 30))) := Lib.hid ((Below.refl _ _).alloc (Nat.le_refl _) _)
  have H0 := Lib.hid (h.below HB0.out)
  obtain ⟨x, hx, hl⟩ := look_x H0.out hb0 hb1
  have ok := h.ok
  have p3 := H0.out.qc.p3
  obtain ⟨⟨xb, xp, xq, xd, xy, xc, xn⟩, xpos⟩ := x
  unfold La.val at hl
  simp only at hl
  have HB : Hid (Below w.heap.size w ((w.alloc (.cells #[.int .i64 ep, .int .i64 sq] 30)).alloc (.cells #[.int .i64 xb, .int .i64 xp, .int .i64 xq, .string xd, .bool xy, .int .i64 xc, .int .i64 xn, .int .i64 xpos] 108))) := Lib.hid (HB0.out.alloc HB0.out.size _)
  have H1 := Lib.hid (h.below HB.out)
  have HF : Hid (AfterX w B G P (K + 2002) ((w.alloc (.cells #[.int .i64 ep, .int .i64 sq] 30)).alloc (.cells #[.int .i64 xb, .int .i64 xp, .int .i64 xq, .string xd, .bool xy, .int .i64 xc, .int .i64 xn, .int .i64 xpos] 108))) := Lib.hid (AfterX.same h HB.out (by omega))
  rcases hx with hx | ⟨hx, hz⟩
  · simp only at hx
    rw [hx] at hl
    simp only [Option.isSome_some] at hl
    by_cases hv : xp = ep ∧ xq = sq
    · obtain ⟨rfl, rfl⟩ := hv
      cases hy : xy with
      | false =>
        subst hy
        clear h hx ok hK hb0 hb1 H1 H0 HB HB0
        go_enter Tryz.func26, Tryz.ntmps26
        go_wp2_with fail
        go_ret
        exact ⟨_, rfl, HF.out⟩
      | true =>
        subst hy
        have hr := ok.range hx
        have hm := ok.may b _ hx
        have hst : stepV V.e (.clean b xp xq) = updV V.e b (some ⟨xb, xp, xq, xd, false, xc, xn⟩) := by unfold stepV; simp only [hx, and_self, if_true]
        have HC : Hid (∀ w1, CV w1 B G P V K → Calls Tryz.prog 51 #[.pointer (some ⟨B.qB, 0, none⟩), .slice (some ⟨w1.heap.size, 0, none⟩) 1 1] (w1.alloc (.cells #[.iface 120 (.agg #[.int .i64 b, .int .i64 xp, .int .i64 xq]), .int .i64 V.k.ep, .int .i64 V.k.sq, .int .i64 V.k.t0, .int .i64 V.k.t1, .int .i64 V.k.t2, .int .i64 V.k.t3] 98)).drew fun e w' => ∃ (x : Int) (V' : Vi) (r : Nat), e = .returned (.int .i64 x) ∧ V'.k = V.k ∧ CV w' (B.row r) G (fun v => P v ∨ v = V') V' (K + 2002) ∧ (r = B.rb ∨ w1.heap.size ≤ r) ∧ But B.l w1 w') := Lib.hid (fun w1 h1 => by
          have hb := (Below.refl w1.heap.size w1).alloc (Nat.le_refl _) (.cells #[.iface 120 (.agg #[.int .i64 b, .int .i64 xp, .int .i64 xq]), .int .i64 V.k.ep, .int .i64 V.k.sq, .int .i64 V.k.t0, .int .i64 V.k.t1, .int .i64 V.k.t2, .int .i64 V.k.t3] 98)
          refine (bring_v _ (h1.below hb.drew) (by omega) w1.heap.size 1 [(.clean b xp xq, V.k)] (by simp) (by simp) ((rowD_one w1 (.clean b xp xq) V.k rfl).but ((But.refl [] _).drew) (by simp)) (fun z => by have := h1.lt _ z; omega) ⟨⟨hr, ⟨hm.p0, hm.p1⟩, ⟨hm.q0, hm.q1⟩⟩, ok.kk, by rw [hst, num_same hx]; exact ok.cn, trivial⟩ (fun i q1 q2 => by simp at q2; omega)).mono ?_
          rintro e w' ⟨x, V', r, rfl, ⟨i, hVi⟩, g1, g2, g3⟩
          refine ⟨x, V', r, rfl, by rw [hVi]; cases i <;> simp [lastK], g1, ?_, ((But.refl B.l w1).below hb.drew (Nat.le_refl _)).trans g3⟩
          rcases g2 with g2 | g2
          · exact .inl g2
          · exact .inr (Nat.le_trans (by simp) g2))
        have HQ : Hid (∀ w', But B.l ((w.alloc (.cells #[.int .i64 xp, .int .i64 xq] 30)).alloc (.cells #[.int .i64 xb, .int .i64 xp, .int .i64 xq, .string xd, .bool true, .int .i64 xc, .int .i64 xn, .int .i64 xpos] 108)) w' → (∃ B' K' V' P', V'.k = V.k ∧ B'.qB = B.qB ∧ CV w' B' G P' V' K') → w'.cell? ⟨w.heap.size, 0, none⟩ = some (.int .i64 xp) ∧ w'.cell? ⟨w.heap.size, 1, none⟩ = some (.int .i64 xq) ∧ w'.cell? ⟨B.qB, 4, none⟩ = some (.int .i64 V.k.ep) ∧ w'.cell? ⟨B.qB, 5, none⟩ = some (.int .i64 V.k.sq) ∧ w'.cell? ⟨B.qB, 6, none⟩ = some (.int .i64 V.k.t0) ∧ w'.cell? ⟨B.qB, 7, none⟩ = some (.int .i64 V.k.t1) ∧ w'.cell? ⟨B.qB, 8, none⟩ = some (.int .i64 V.k.t2) ∧ w'.cell? ⟨B.qB, 9, none⟩ = some (.int .i64 V.k.t3)) := Lib.hid (fun w' hb hc => by
          obtain ⟨B', K', V', P', e1, e2, hc⟩ := hc
          have g := hc.qc
          rw [e1, e2] at g
          have hl : w.heap.size ∉ B.l := fun z => by have := h.lt _ z; omega
          have e : ∀ o, w'.cell? ⟨w.heap.size, o, none⟩ = (w.alloc (.cells #[.int .i64 xp, .int .i64 xq] 30)).cell? ⟨w.heap.size, o, none⟩ := fun o => by
            rw [hb.cell (by simp; omega) hl, World.cell?_alloc_lt _ _ _ (by simp)]
          exact ⟨by rw [e, World.cell?_alloc_mark]; rfl, by rw [e, World.cell?_alloc_mark]; rfl, g.p4, g.p5, g.p6, g.p7, g.p8, g.p9⟩)
        clear h hx ok hK hb0 hb1 H0 HB0 hr hm hst HF
        go_enter Tryz.func26, Tryz.ntmps26
        go_wp2_with fail
        generalize ((w.alloc (.cells #[.int .i64 xp, .int .i64 xq] 30)).alloc (.cells #[.int .i64 xb, .int .i64 xp, .int .i64 xq, .string xd, .bool true, .int .i64 xc, .int .i64 xn, .int .i64 xpos] 108)) = w1 at *
        have HS1 := Lib.hid (HQ.out w1.drew ((But.refl _ _).drew) ⟨B, K, V, P, rfl, rfl, H1.out.below (Below.refl _ _).drew⟩)
        have hbn := ((Below.refl w1.heap.size w1).alloc (Nat.le_refl _) (.cells #[.iface 120 (.agg #[.int .i64 b, .int .i64 xp, .int .i64 xq]), .int .i64 V.k.ep, .int .i64 V.k.sq, .int .i64 V.k.t0, .int .i64 V.k.t1, .int .i64 V.k.t2, .int .i64 V.k.t3] 98)).drew
        have HS2 := Lib.hid (HQ.out _ ((But.refl B.l _).below hbn (Nat.le_refl _)) ⟨B, K, V, P, rfl, rfl, H1.out.below hbn⟩)
        have HC1 := Lib.hid (HC.out w1 H1.out)
        clear hbn HC
        go_region_held3 (fun w' => w'.cell? ⟨w.heap.size, 0, none⟩ = some (.int .i64 xp) ∧ w'.cell? ⟨w.heap.size, 1, none⟩ = some (.int .i64 xq) ∧ w'.cell? ⟨B.qB, 4, none⟩ = some (.int .i64 V.k.ep) ∧ w'.cell? ⟨B.qB, 5, none⟩ = some (.int .i64 V.k.sq) ∧ w'.cell? ⟨B.qB, 6, none⟩ = some (.int .i64 V.k.t0) ∧ w'.cell? ⟨B.qB, 7, none⟩ = some (.int .i64 V.k.t1) ∧ w'.cell? ⟨B.qB, 8, none⟩ = some (.int .i64 V.k.t2) ∧ w'.cell? ⟨B.qB, 9, none⟩ = some (.int .i64 V.k.t3))
          (first
            | exact HS1.out
            | exact HS2.out
            | exact HS3.out)
          (first
            | (go_at_call 51; with_reducible refine HC1.out.mono ?_; rintro e w2 ⟨x2, V2, r2, rfl, hVk, g1, g2, g3⟩
               have HF := Lib.hid (AfterX.from HB.out g1 g2 g3)
               have HS3 := Lib.hid (HQ.out w2 g3 ⟨B.row r2, K + 2002, V2, _, hVk, rfl, g1⟩)
               clear g1 g2 g3 hVk))
        go_wp2_with fail
        go_ret
        exact ⟨_, rfl, HF.out⟩
    · by_cases h1 : xp = ep
      · subst h1
        have h2 : ¬ xq = sq := fun z => hv ⟨rfl, z⟩
        clear h hx ok hK hb0 hb1 H1 H0 HB HB0 hv
        go_enter Tryz.func26, Tryz.ntmps26
        go_wp2_with fail
        go_ret
        exact ⟨_, rfl, HF.out⟩
      · clear h hx ok hK hb0 hb1 H1 H0 HB HB0 hv
        go_enter Tryz.func26, Tryz.ntmps26
        go_wp2_with fail
        go_ret
        exact ⟨_, rfl, HF.out⟩
  · rw [hx] at hl
    simp only [Option.isSome_none] at hl
    clear h hx hz ok hK hb0 hb1 H1 H0 HB HB0
    go_enter Tryz.func26, Tryz.ntmps26
    go_wp2_with fail
    go_ret
    exact ⟨_, rfl, HF.out⟩

/-- a note of what is kept, built just now, in a world that was drawn from or not -/
theorem note1_x (w : World) (h : CV w B G P V K) (hK : K ≤ 700000000) (k : Kp) (hk : MayK k) :
    Calls Tryz.prog 51 #[.pointer (some ⟨B.qB, 0, none⟩), .slice (some ⟨w.heap.size, 0, none⟩) 1 1] (w.alloc (.cells #[.iface 124 (.agg #[]), .int .i64 k.ep, .int .i64 k.sq, .int .i64 k.t0, .int .i64 k.t1, .int .i64 k.t2, .int .i64 k.t3] 98)) fun e w' => ∃ x : Int, e = .returned (.int .i64 x) ∧ AfterX w B G P (K + 2002) w' :=
  bring1_x w h hK .note k trivial hk h.ok.cn rfl


set_option maxHeartbeats 1000000 in
theorem reset_x (w : World) (h : CV w B G P V K) (hK : K ≤ 600000000) (ep sq : Int) (a : Option Addr) (n cap : Nat) (l : List Int) (hr : C.Row w a n cap (C.i64s l)) :
    Calls Tryz.prog 30 #[.pointer (some ⟨B.qB, 0, none⟩), .agg #[.int .i64 ep, .int .i64 sq], .slice a n cap] w fun e w' => ∃ x : Int, e = .returned (.int .i64 x) ∧ AfterX w B G P (K + 2002) w' := by
  have hb0 := (Below.refl w.heap.size w).alloc (Nat.le_refl _) (.cells #[.int .i64 ep, .int .i64 sq] 30)
  have hr1 := C.row_below hr hb0 (Nat.le_refl _)
  have HB0 := Lib.hid hb0
  have H := Lib.hid h
  by_cases hk : keepOk ep sq l
  · have HY := Lib.hid (keeping_yes _ ep sq a n cap l hr1 hk)
    have hm := keep_may hk
    generalize keepK ep sq l = kk at *
    have HN : Hid (∀ w1, Below w.heap.size w w1 → Calls Tryz.prog 51 #[.pointer (some ⟨B.qB, 0, none⟩), .slice (some ⟨w1.heap.size, 0, none⟩) 1 1] (w1.alloc (.cells #[.iface 124 (.agg #[]), .int .i64 kk.ep, .int .i64 kk.sq, .int .i64 kk.t0, .int .i64 kk.t1, .int .i64 kk.t2, .int .i64 kk.t3] 98)) fun e w' => ∃ x : Int, e = .returned (.int .i64 x) ∧ AfterX w B G P (K + 2002) w') := Lib.hid (fun w1 hb => by
      refine (note1_x w1 (h.below hb) (by omega) kk hm).mono ?_
      rintro e w' ⟨x, rfl, V', r, g1, g2, g3⟩
      exact ⟨x, rfl, AfterX.from hb g1 g2 g3⟩)
    unfold Kp.val at HY
    clear h hr hr1 hk hm hb0 hK
    go_enter Tryz.func30, Tryz.ntmps30
    go_wp2_with (first
      | (go_at_call 53; with_reducible refine HY.out.mono ?_; rintro e w1 ⟨rfl, hb1⟩
         have HB1 : Hid (Below w.heap.size w (w1.alloc (.cells #[.int .i64 kk.ep, .int .i64 kk.sq, .int .i64 kk.t0, .int .i64 kk.t1, .int .i64 kk.t2, .int .i64 kk.t3] 92))) := Lib.hid ((HB0.out.trans (hb1.mono HB0.out.size)).alloc (HB0.out.trans (hb1.mono HB0.out.size)).size _)
         have HC := Lib.hid (HN.out _ HB1.out)
         rw [show (w1.alloc (.cells #[.int .i64 kk.ep, .int .i64 kk.sq, .int .i64 kk.t0, .int .i64 kk.t1, .int .i64 kk.t2, .int .i64 kk.t3] 92)).heap.size = w1.heap.size + 1 by simp] at HC
         clear hb1)
      | (go_at_call 51; with_reducible refine HC.out.mono ?_; rintro e w2 ⟨x2, rfl, h2⟩; have H2 := Lib.hid h2; clear h2))
    go_ret
    exact ⟨_, rfl, H2.out⟩
  · have HY := Lib.hid (keeping_no _ ep sq a n cap l hr1 hk)
    unfold kp0 Kp.val at HY
    clear h hr hr1 hk hb0
    go_enter Tryz.func30, Tryz.ntmps30
    go_wp2_with (go_at_call 53; with_reducible refine HY.out.mono ?_; rintro e w1 ⟨rfl, hb1⟩
                 have HB1 : Hid (Below w.heap.size w w1) := Lib.hid (HB0.out.trans (hb1.mono HB0.out.size))
                 clear hb1)
    go_ret
    exact ⟨_, rfl, AfterX.same H.out (HB1.out.alloc HB1.out.size _) (by omega)⟩
end Q
end Go.Proofs.YtmcalgnpinolmaaGreat
namespace Go.Proofs.YtmcalgnpinolmaaGreat
open Go.RowKit Go.Maps
set_option linter.unusedVariables false
set_option linter.unusedSimpArgs false
set_option maxRecDepth 20000
namespace Q
variable {B : Bk} {G : Gm} {V : Vi} {K : Int} {P P' : Vi → Prop}

set_option maxHeartbeats 4000000 in
theorem note_x (w : World) (h : CV w B G P V K) (hK : K ≤ 600000000) (ep sq : Int) (a : Option Addr) (n cap : Nat) (l : List Int) (hr : C.Row w a n cap (C.i64s l)) :
    Calls Tryz.prog 32 #[.pointer (some ⟨B.qB, 0, none⟩), .agg #[.int .i64 ep, .int .i64 sq], .slice a n cap] w fun e w' => ∃ x : Int, e = .returned (.int .i64 x) ∧ AfterX w B G P (K + 2002) w' := by
  have hb0 := (Below.refl w.heap.size w).alloc (Nat.le_refl _) (.cells #[.int .i64 ep, .int .i64 sq] 30)
  have hr1 := C.row_below hr hb0 (Nat.le_refl _)
  have HB0 := Lib.hid hb0
  have H := Lib.hid h
  by_cases hk : keepOk ep sq l
  · have HY := Lib.hid (keeping_yes _ ep sq a n cap l hr1 hk)
    have hm := keep_may hk
    generalize keepK ep sq l = kk at *
    have Hm := Lib.hid hm
    have HN : Hid (∀ k, MayK k → ∀ w1, Below w.heap.size w w1 → Calls Tryz.prog 51 #[.pointer (some ⟨B.qB, 0, none⟩), .slice (some ⟨w1.heap.size, 0, none⟩) 1 1] (w1.alloc (.cells #[.iface 124 (.agg #[]), .int .i64 k.ep, .int .i64 k.sq, .int .i64 k.t0, .int .i64 k.t1, .int .i64 k.t2, .int .i64 k.t3] 98)) fun e w' => ∃ x : Int, e = .returned (.int .i64 x) ∧ AfterX w B G P (K + 2002) w') := Lib.hid (fun k hmk w1 hb => by
      refine (note1_x w1 (h.below hb) (by omega) k hmk).mono ?_
      rintro e w' ⟨x, rfl, V', r, g1, g2, g3⟩
      exact ⟨x, rfl, AfterX.from hb g1 g2 g3⟩)
    have HKm := Lib.hid (noteK_may h.ok.kk hm)
    unfold Kp.val at HY
    clear h hr hr1 hk hm hb0 hK
    go_enter Tryz.func32, Tryz.ntmps32
    go_wp2_with (go_at_call 53; with_reducible refine HY.out.mono ?_; rintro e w1 ⟨rfl, hb1⟩
                 have HB1 : Hid (Below w.heap.size w (w1.alloc (.cells #[.int .i64 kk.ep, .int .i64 kk.sq, .int .i64 kk.t0, .int .i64 kk.t1, .int .i64 kk.t2, .int .i64 kk.t3] 92))) := Lib.hid ((HB0.out.trans (hb1.mono HB0.out.size)).alloc (HB0.out.trans (hb1.mono HB0.out.size)).size _)
                 have HP := Lib.hid (KAt.new w1 kk)
                 have HPw : Hid (w.heap.size ≤ w1.heap.size) := Lib.hid (HB0.out.trans (hb1.mono HB0.out.size)).size
                 clear hb1)
    have HSz : Hid (w1.heap.size < (w1.alloc (.cells #[.int .i64 kk.ep, .int .i64 kk.sq, .int .i64 kk.t0, .int .i64 kk.t1, .int .i64 kk.t2, .int .i64 kk.t3] 92)).heap.size) := Lib.hid (by simp)
    generalize w1.alloc (.cells #[.int .i64 kk.ep, .int .i64 kk.sq, .int .i64 kk.t0, .int .i64 kk.t1, .int .i64 kk.t2, .int .i64 kk.t3] 92) = w2 at *
    generalize w1.heap.size = P at *
    have HS : Hid (∀ w', Below w2.heap.size w2 w' → KAt w' P kk ∧ w'.cell? ⟨B.qB, 4, none⟩ = some (.int .i64 V.k.ep) ∧ w'.cell? ⟨B.qB, 5, none⟩ = some (.int .i64 V.k.sq) ∧ w'.cell? ⟨P, 0, none⟩ = some (.int .i64 kk.ep) ∧ w'.cell? ⟨P, 1, none⟩ = some (.int .i64 kk.sq)) := Lib.hid (fun w' hb => by
      have g := (H.out.below (HB1.out.trans (hb.mono HB1.out.size))).qc
      have kp := HP.out.but (But.of_below hb) (by simp)
      exact ⟨kp, g.p4, g.p5, kp.c0, kp.c1⟩)
    have HS1 := Lib.hid (HS.out w2.drew ((Below.refl _ _).drew)).2
    go_region_held3 (fun w' => w'.cell? ⟨B.qB, 4, none⟩ = some (.int .i64 V.k.ep) ∧ w'.cell? ⟨B.qB, 5, none⟩ = some (.int .i64 V.k.sq) ∧ w'.cell? ⟨P, 0, none⟩ = some (.int .i64 kk.ep) ∧ w'.cell? ⟨P, 1, none⟩ = some (.int .i64 kk.sq))
      (first
        | exact HS1.out
        | exact HS3.out)
      (first
        | (go_at_call 49; with_reducible refine (order_q _ _ _ _ _).mono ?_; rintro e w3 ⟨rfl, hb3⟩
           have HB3 : Hid (Below w2.heap.size w2 w3) := Lib.hid (((Below.refl _ _).drew).trans hb3)
           have HS3 := Lib.hid (HS.out w3 HB3.out).2
           clear hb3))
    have HK3 := Lib.hid (HS.out w3 HB3.out).1
    have HBw3 : Hid (Below w.heap.size w w3) := Lib.hid (HB1.out.trans (HB3.out.mono HB1.out.size))
    have HSz3 : Hid (P < w3.heap.size) := Lib.hid (Nat.lt_of_lt_of_le HSz.out HB3.out.size)
    clear HS1 HS3 HS HP HY
    by_cases hc : 0 < ord V.k.ep V.k.sq kk.ep kk.sq
    · have HC0 := Lib.hid hc
      have g := (H.out.below HBw3.out).qc
      have p4 := g.p4
      have p5 := g.p5
      have d0 := HK3.out.c0
      have d1 := HK3.out.c1
      have fz := HK3.out.fz
      clear g
      have HK4 := Lib.hid ((HK3.out.set0 V.k.ep).set1 V.k.sq)
      have HB4 : Hid (Below w.heap.size w ((w3.setCell ⟨P, 0, none⟩ (.int .i64 V.k.ep)).setCell ⟨P, 1, none⟩ (.int .i64 V.k.sq))) := Lib.hid ((HBw3.out.setCell HPw.out _).setCell HPw.out _)
      have HG4 := Lib.hid (H.out.below HB4.out).qc
      have p6 := HG4.out.p6
      have p7 := HG4.out.p7
      have p8 := HG4.out.p8
      have p9 := HG4.out.p9
      go_wp2_with fail
      have HE : Hid (mixK V.k.ep V.k.sq V.k kk 4 = noteK V.k kk) := Lib.hid (by unfold mixK noteK; rw [if_pos HC0.out, if_pos HC0.out]; simp)
      go_loopw [39] (fun i wr => ∃ (k : Nat), k ≤ 4 ∧ i = .int .i64 k ∧ KAt wr P (mixK V.k.ep V.k.sq V.k kk k) ∧ Below w.heap.size w wr) (fun i _ => 4 - (RowKit.intOf i).toNat)
      case atStart => exact ⟨0, by omega, rfl, HK4.out, HB4.out⟩
      case round =>
        obtain ⟨k, hk, rfl, hkat, hbr⟩ := hrel
        have HKr := Lib.hid hkat
        have HBr := Lib.hid hbr
        clear hkat hbr p6 p7 p8 p9 d0 d1 p4 p5 fz
        have hcase : k = 0 ∨ k = 1 ∨ k = 2 ∨ k = 3 ∨ k = 4 := by omega
        rcases hcase with rfl | rfl | rfl | rfl | rfl
        · have c : wr.cell? ⟨P, 2, none⟩ = some (.int .i64 kk.t0) := HKr.out.c2
          have fz := HKr.out.fz
          have ix := index4 V.k.t0 V.k.t1 V.k.t2 V.k.t3 wr
          have HK5 : Hid (KAt (wr.setCell ⟨P, 2, none⟩ (.int .i64 (max kk.t0 V.k.t0))) P (mixK V.k.ep V.k.sq V.k kk 1)) := Lib.hid (HKr.out.set2 _)
          have HB5 : Hid (Below w.heap.size w (wr.setCell ⟨P, 2, none⟩ (.int .i64 (max kk.t0 V.k.t0)))) := Lib.hid (HBr.out.setCell HPw.out _)
          go_wp2_with (refine wpList_index4 _ rfl (.tmp 38) (.tmp 39) rfl (.int .i64 V.k.t0) ix.1 ?_)
          go_roundw
          case rel => exact ⟨1, by omega, by go_num, HK5.out, HB5.out⟩
          case measure => simp [RowKit.intOf]
        · have c : wr.cell? ⟨P, 3, none⟩ = some (.int .i64 kk.t1) := HKr.out.c3
          have fz := HKr.out.fz
          have ix := index4 V.k.t0 V.k.t1 V.k.t2 V.k.t3 wr
          have HK5 : Hid (KAt (wr.setCell ⟨P, 3, none⟩ (.int .i64 (max kk.t1 V.k.t1))) P (mixK V.k.ep V.k.sq V.k kk 2)) := Lib.hid (HKr.out.set3 _)
          have HB5 : Hid (Below w.heap.size w (wr.setCell ⟨P, 3, none⟩ (.int .i64 (max kk.t1 V.k.t1)))) := Lib.hid (HBr.out.setCell HPw.out _)
          go_wp2_with (refine wpList_index4 _ rfl (.tmp 38) (.tmp 39) rfl (.int .i64 V.k.t1) ix.2.1 ?_)
          go_roundw
          case rel => exact ⟨2, by omega, by go_num, HK5.out, HB5.out⟩
          case measure => simp [RowKit.intOf]
        · have c : wr.cell? ⟨P, 4, none⟩ = some (.int .i64 kk.t2) := HKr.out.c4
          have fz := HKr.out.fz
          have ix := index4 V.k.t0 V.k.t1 V.k.t2 V.k.t3 wr
          have HK5 : Hid (KAt (wr.setCell ⟨P, 4, none⟩ (.int .i64 (max kk.t2 V.k.t2))) P (mixK V.k.ep V.k.sq V.k kk 3)) := Lib.hid (HKr.out.set4 _)
          have HB5 : Hid (Below w.heap.size w (wr.setCell ⟨P, 4, none⟩ (.int .i64 (max kk.t2 V.k.t2)))) := Lib.hid (HBr.out.setCell HPw.out _)
          go_wp2_with (refine wpList_index4 _ rfl (.tmp 38) (.tmp 39) rfl (.int .i64 V.k.t2) ix.2.2.1 ?_)
          go_roundw
          case rel => exact ⟨3, by omega, by go_num, HK5.out, HB5.out⟩
          case measure => simp [RowKit.intOf]
        · have c : wr.cell? ⟨P, 5, none⟩ = some (.int .i64 kk.t3) := HKr.out.c5
          have fz := HKr.out.fz
          have ix := index4 V.k.t0 V.k.t1 V.k.t2 V.k.t3 wr
          have HK5 : Hid (KAt (wr.setCell ⟨P, 5, none⟩ (.int .i64 (max kk.t3 V.k.t3))) P (mixK V.k.ep V.k.sq V.k kk 4)) := Lib.hid (HKr.out.set5 _)
          have HB5 : Hid (Below w.heap.size w (wr.setCell ⟨P, 5, none⟩ (.int .i64 (max kk.t3 V.k.t3)))) := Lib.hid (HBr.out.setCell HPw.out _)
          go_wp2_with (refine wpList_index4 _ rfl (.tmp 38) (.tmp 39) rfl (.int .i64 V.k.t3) ix.2.2.2 ?_)
          go_roundw
          case rel => exact ⟨4, by omega, by go_num, HK5.out, HB5.out⟩
          case measure => simp [RowKit.intOf]
        · have HKn : Hid (KAt wr P (noteK V.k kk)) := Lib.hid (by rw [← HE.out]; exact HKr.out)
          have c0 := HKn.out.c0
          have c1 := HKn.out.c1
          have c2 := HKn.out.c2
          have c3 := HKn.out.c3
          have c4 := HKn.out.c4
          have c5 := HKn.out.c5
          have HC := Lib.hid (HN.out _ HKm.out wr HBr.out)
          have hnk : ∃ nk, nk = noteK V.k kk := ⟨_, rfl⟩
          obtain ⟨nk, hnk⟩ := hnk
          have HNK := Lib.hid hnk
          rw [← hnk] at HC c0 c1 c2 c3 c4 c5
          clear hnk
          go_wp2_with (go_at_call 51; with_reducible refine HC.out.mono ?_; rintro e w6 ⟨x6, rfl, h6⟩; have H6 := Lib.hid h6; clear h6)
          go_ret
          exact ⟨_, rfl, H6.out⟩
    · have HC0 := Lib.hid hc
      have HK4 := HK3
      have HB4 := HBw3
      have HG4 := Lib.hid (H.out.below HB4.out).qc
      have p6 := HG4.out.p6
      have p7 := HG4.out.p7
      have p8 := HG4.out.p8
      have p9 := HG4.out.p9
      go_wp2_with fail
      have HE : Hid (mixK kk.ep kk.sq V.k kk 4 = noteK V.k kk) := Lib.hid (by
        have hn : ¬ (0 < ord V.k.ep V.k.sq kk.ep kk.sq) := by have := HC0.out; omega
        unfold mixK noteK; rw [if_neg hn, if_neg hn]; simp)
      go_loopw [39] (fun i wr => ∃ (k : Nat), k ≤ 4 ∧ i = .int .i64 k ∧ KAt wr P (mixK kk.ep kk.sq V.k kk k) ∧ Below w.heap.size w wr) (fun i _ => 4 - (RowKit.intOf i).toNat)
      case atStart => exact ⟨0, by omega, rfl, HK4.out, HB4.out⟩
      case round =>
        obtain ⟨k, hk, rfl, hkat, hbr⟩ := hrel
        have HKr := Lib.hid hkat
        have HBr := Lib.hid hbr
        clear hkat hbr p6 p7 p8 p9
        have hcase : k = 0 ∨ k = 1 ∨ k = 2 ∨ k = 3 ∨ k = 4 := by omega
        rcases hcase with rfl | rfl | rfl | rfl | rfl
        · have c : wr.cell? ⟨P, 2, none⟩ = some (.int .i64 kk.t0) := HKr.out.c2
          have fz := HKr.out.fz
          have ix := index4 V.k.t0 V.k.t1 V.k.t2 V.k.t3 wr
          have HK5 : Hid (KAt (wr.setCell ⟨P, 2, none⟩ (.int .i64 (max kk.t0 V.k.t0))) P (mixK kk.ep kk.sq V.k kk 1)) := Lib.hid (HKr.out.set2 _)
          have HB5 : Hid (Below w.heap.size w (wr.setCell ⟨P, 2, none⟩ (.int .i64 (max kk.t0 V.k.t0)))) := Lib.hid (HBr.out.setCell HPw.out _)
          go_wp2_with (refine wpList_index4 _ rfl (.tmp 38) (.tmp 39) rfl (.int .i64 V.k.t0) ix.1 ?_)
          go_roundw
          case rel => exact ⟨1, by omega, by go_num, HK5.out, HB5.out⟩
          case measure => simp [RowKit.intOf]
        · have c : wr.cell? ⟨P, 3, none⟩ = some (.int .i64 kk.t1) := HKr.out.c3
          have fz := HKr.out.fz
          have ix := index4 V.k.t0 V.k.t1 V.k.t2 V.k.t3 wr
          have HK5 : Hid (KAt (wr.setCell ⟨P, 3, none⟩ (.int .i64 (max kk.t1 V.k.t1))) P (mixK kk.ep kk.sq V.k kk 2)) := Lib.hid (HKr.out.set3 _)
          have HB5 : Hid (Below w.heap.size w (wr.setCell ⟨P, 3, none⟩ (.int .i64 (max kk.t1 V.k.t1)))) := Lib.hid (HBr.out.setCell HPw.out _)
          go_wp2_with (refine wpList_index4 _ rfl (.tmp 38) (.tmp 39) rfl (.int .i64 V.k.t1) ix.2.1 ?_)
          go_roundw
          case rel => exact ⟨2, by omega, by go_num, HK5.out, HB5.out⟩
          case measure => simp [RowKit.intOf]
        · have c : wr.cell? ⟨P, 4, none⟩ = some (.int .i64 kk.t2) := HKr.out.c4
          have fz := HKr.out.fz
          have ix := index4 V.k.t0 V.k.t1 V.k.t2 V.k.t3 wr
          have HK5 : Hid (KAt (wr.setCell ⟨P, 4, none⟩ (.int .i64 (max kk.t2 V.k.t2))) P (mixK kk.ep kk.sq V.k kk 3)) := Lib.hid (HKr.out.set4 _)
          have HB5 : Hid (Below w.heap.size w (wr.setCell ⟨P, 4, none⟩ (.int .i64 (max kk.t2 V.k.t2)))) := Lib.hid (HBr.out.setCell HPw.out _)
          go_wp2_with (refine wpList_index4 _ rfl (.tmp 38) (.tmp 39) rfl (.int .i64 V.k.t2) ix.2.2.1 ?_)
          go_roundw
          case rel => exact ⟨3, by omega, by go_num, HK5.out, HB5.out⟩
          case measure => simp [RowKit.intOf]
        · have c : wr.cell? ⟨P, 5, none⟩ = some (.int .i64 kk.t3) := HKr.out.c5
          have fz := HKr.out.fz
          have ix := index4 V.k.t0 V.k.t1 V.k.t2 V.k.t3 wr
          have HK5 : Hid (KAt (wr.setCell ⟨P, 5, none⟩ (.int .i64 (max kk.t3 V.k.t3))) P (mixK kk.ep kk.sq V.k kk 4)) := Lib.hid (HKr.out.set5 _)
          have HB5 : Hid (Below w.heap.size w (wr.setCell ⟨P, 5, none⟩ (.int .i64 (max kk.t3 V.k.t3)))) := Lib.hid (HBr.out.setCell HPw.out _)
          go_wp2_with (refine wpList_index4 _ rfl (.tmp 38) (.tmp 39) rfl (.int .i64 V.k.t3) ix.2.2.2 ?_)
          go_roundw
          case rel => exact ⟨4, by omega, by go_num, HK5.out, HB5.out⟩
          case measure => simp [RowKit.intOf]
        · have HKn : Hid (KAt wr P (noteK V.k kk)) := Lib.hid (by rw [← HE.out]; exact HKr.out)
          have c0 := HKn.out.c0
          have c1 := HKn.out.c1
          have c2 := HKn.out.c2
          have c3 := HKn.out.c3
          have c4 := HKn.out.c4
          have c5 := HKn.out.c5
          have HC := Lib.hid (HN.out _ HKm.out wr HBr.out)
          have hnk : ∃ nk, nk = noteK V.k kk := ⟨_, rfl⟩
          obtain ⟨nk, hnk⟩ := hnk
          have HNK := Lib.hid hnk
          rw [← hnk] at HC c0 c1 c2 c3 c4 c5
          clear hnk
          go_wp2_with (go_at_call 51; with_reducible refine HC.out.mono ?_; rintro e w6 ⟨x6, rfl, h6⟩; have H6 := Lib.hid h6; clear h6)
          go_ret
          exact ⟨_, rfl, H6.out⟩
  · have HY := Lib.hid (keeping_no _ ep sq a n cap l hr1 hk)
    unfold kp0 Kp.val at HY
    clear h hr hr1 hk hb0
    go_enter Tryz.func32, Tryz.ntmps32
    go_wp2_with (go_at_call 53; with_reducible refine HY.out.mono ?_; rintro e w1 ⟨rfl, hb1⟩
                 have HB1 : Hid (Below w.heap.size w w1) := Lib.hid (HB0.out.trans (hb1.mono HB0.out.size))
                 clear hb1)
    go_ret
    exact ⟨_, rfl, AfterX.same H.out (HB1.out.alloc HB1.out.size _) (by omega)⟩
end Q
end Go.Proofs.YtmcalgnpinolmaaGreat
namespace Go.Proofs.YtmcalgnpinolmaaGreat
open Go.RowKit Go.Maps
set_option linter.unusedVariables false
set_option linter.unusedSimpArgs false
set_option maxRecDepth 20000
namespace Q
variable {B : Bk} {G : Gm} {V : Vi} {K : Int} {P P' : Vi → Prop}

set_option maxHeartbeats 1000000 in
theorem lowest_ct (w : World) (h : Ct w B G V) : Calls Tryz.prog 50 #[.pointer (some ⟨B.qB, 0, none⟩)] w fun e w' => e = .returned (.tuple #[.int .i64 (lowI G.nb V.e), .bool (lowest G.nb V.e).isSome]) ∧ Below w.heap.size w w' := by
  have HA : Hid (Calls Tryz.prog 20 #[.pointer (some ⟨B.qB, 0, none⟩)] w fun e w' => ∃ a n cap, e = .returned (.slice a n cap) ∧ n = (allV G.nb V.e).length ∧ OwnE w.heap.size w' a cap (allV G.nb V.e) ∧ Below w.heap.size w w') := Lib.hid (by
    refine (all_ct w h).mono ?_
    rintro e w' ⟨a, cap, rfl, ho, hb⟩
    exact ⟨a, _, cap, rfl, (allV_len _ _).symm, ho, hb⟩)
  have hlow : lowest G.nb V.e = lowL ((allV G.nb V.e).filter clean1) := rfl
  have hI : lowI G.nb V.e = match lowL ((allV G.nb V.e).filter clean1) with | some x => x.b | none => 0 := rfl
  rw [hlow, hI]
  generalize allV G.nb V.e = all at *
  clear h hlow hI
  have HD : Hid (∀ w' a cap, OwnE w.heap.size w' a cap all → Below w.heap.size w w' → Calls Tryz.prog 73 #[.slice a all.length cap, .func (.func 74) #[] #[]] w' fun e w'' => ∃ n2, e = .returned (.slice a n2 cap) ∧ n2 = (all.filter clean1).length ∧ OwnE w.heap.size w'' a cap (all.filter clean1) ∧ Below w.heap.size w w'') := Lib.hid (fun w' a cap ho hb => by
    refine (delete_q w' w.heap.size a cap all ho hb.size).mono ?_
    rintro e w'' ⟨rfl, h1, h2⟩
    exact ⟨_, rfl, rfl, h1, hb.trans h2⟩)
  cases hf : all.filter clean1 with
  | nil =>
    rw [hf] at HD
    simp only [lowL, Option.isSome_none]
    clear hf
    go_enter Tryz.func50, Tryz.ntmps50
    go_wp2_with (first
      | (go_at_call 20; with_reducible refine HA.out.mono ?_; rintro e w1 ⟨a1, n1, cap1, rfl, rfl, ho1, hb1⟩; have H1 := Lib.hid (And.intro ho1 hb1); clear ho1 hb1)
      | (go_at_call 73; with_reducible refine (HD.out _ _ _ H1.out.1 H1.out.2).mono ?_; rintro e w2 ⟨n2, rfl, hn2, ho2, hb2⟩; simp at hn2; subst hn2; have H2 := Lib.hid hb2; clear ho2 hb2))
    go_ret2
    exact ⟨rfl, H2.out⟩
  | cons x0 l =>
    rw [hf] at HD
    simp only [lowL, Option.isSome_some]
    clear hf
    have HMn : Hid (∀ w' a n cap, n = (x0 :: l).length → OwnE w.heap.size w' a cap (x0 :: l) → Calls Tryz.prog 75 #[.slice a n cap, .func (.func 76) #[] #[]] w' fun e w'' => e = .returned (minL x0 l).val ∧ Below w'.heap.size w' w'') := Lib.hid (fun w' a n cap hn ho => by subst hn; exact min_q w' w.heap.size a cap x0 l ho)
    generalize minL x0 l = mm at *
    obtain ⟨mb, mp, mq, md, my, mc, mn⟩ := mm
    unfold En.val at HMn
    simp only at HMn ⊢
    have hfl := field_ent0 mb mp mq md my mc mn
    go_enter Tryz.func50, Tryz.ntmps50
    go_wp2_with (first
      | (go_at_call 20; with_reducible refine HA.out.mono ?_; rintro e w1 ⟨a1, n1, cap1, rfl, rfl, ho1, hb1⟩; have H1 := Lib.hid (And.intro ho1 hb1); clear ho1 hb1)
      | (go_at_call 73; with_reducible refine (HD.out _ _ _ H1.out.1 H1.out.2).mono ?_; rintro e w2 ⟨n2, rfl, hn2, ho2, hb2⟩
         have hne : ((n2 : Int) == 0) = false := by rw [hn2, beq_eq_false_iff_ne]; simp; omega
         have H2 := Lib.hid (And.intro hn2 (And.intro ho2 hb2)); clear ho2 hb2 hn2)
      | (go_at_call 75; with_reducible refine (HMn.out _ _ _ _ H2.out.1 H2.out.2.1).mono ?_; rintro e w3 ⟨rfl, hb3⟩; have H3 := Lib.hid hb3; clear hb3))
    go_ret2
    exact ⟨rfl, H2.out.2.2.trans (H3.out.mono H2.out.2.2.size)⟩

/-- Put's last step: the entry's own record behind those of l, and all of them brought -/
theorem put_end_x (w w5 w6 : World) (h : CV w B G P V K) (hK : K ≤ 600000000) (hb : Below w.heap.size w w5) (x : En) (hx : MayE G.nb x) (kk : Kp) (hkk : kk = behind V.k x) (l : List (Deed × Kp)) (hl : l.length ≤ 1) (a : Option Addr) (cap : Nat) (ho : OwnD w5 a cap l) (ha : ∀ g, a = some ⟨g, 0, none⟩ → w.heap.size ≤ g)
    (hadm : Adm G.nb G.N V.e (l ++ [(.lay x, kk)])) (hmid : ∀ i, 0 < i → i < l.length + 1 → P ⟨runV V.e ((l ++ [(Deed.lay x, kk)]).take i), lastK V.k ((l ++ [(Deed.lay x, kk)]).take i)⟩) (h6 : Below w5.heap.size w5 w6) :
    OwnD (w6.alloc (.cells #[.iface 117 x.val, .int .i64 kk.ep, .int .i64 kk.sq, .int .i64 kk.t0, .int .i64 kk.t1, .int .i64 kk.t2, .int .i64 kk.t3] 98)) a cap l ∧ RowD (w6.alloc (.cells #[.iface 117 x.val, .int .i64 kk.ep, .int .i64 kk.sq, .int .i64 kk.t0, .int .i64 kk.t1, .int .i64 kk.t2, .int .i64 kk.t3] 98)) w6.heap.size [(.lay x, kk)] ∧
    (∀ b9 cap9 w9, OwnD w9 (some ⟨b9, 0, none⟩) cap9 (l ++ [(.lay x, kk)]) → (a = some ⟨b9, 0, none⟩ ∨ (w6.alloc (.cells #[.iface 117 x.val, .int .i64 kk.ep, .int .i64 kk.sq, .int .i64 kk.t0, .int .i64 kk.t1, .int .i64 kk.t2, .int .i64 kk.t3] 98)).heap.size ≤ b9) → But (ab a) (w6.alloc (.cells #[.iface 117 x.val, .int .i64 kk.ep, .int .i64 kk.sq, .int .i64 kk.t0, .int .i64 kk.t1, .int .i64 kk.t2, .int .i64 kk.t3] 98)) w9 →
      Calls Tryz.prog 51 #[.pointer (some ⟨B.qB, 0, none⟩), .slice (some ⟨b9, 0, none⟩) (l.length + 1) cap9] w9 fun e w' => ∃ x : Int, e = .returned (.int .i64 x) ∧ AfterX w B G P (K + 2002) w') := by
  have hb7 : Below w6.heap.size w6 (w6.alloc (.cells #[.iface 117 x.val, .int .i64 kk.ep, .int .i64 kk.sq, .int .i64 kk.t0, .int .i64 kk.t1, .int .i64 kk.t2, .int .i64 kk.t3] 98)) := (Below.refl _ _).alloc (Nat.le_refl _) _
  have hb57 := h6.trans (hb7.mono h6.size)
  have hbw7 := hb.trans (hb57.mono hb.size)
  refine ⟨ho.but (But.of_below hb57) (by simp), rowD_one w6 (.lay x) kk rfl, fun b9 cap9 w9 ho9 hb9 hbu9 => ?_⟩
  have hab : ∀ y ∈ ab a, w.heap.size ≤ y := fun y hy => by
    rcases ho.ways with ⟨rfl, _, _⟩ | ⟨g, cur, rfl, _⟩
    · simp [ab] at hy
    · simp [ab] at hy; rw [hy]; exact ha g rfl
  have hbw9 : Below w.heap.size w w9 := hbw7.trans (hbu9.to_below hab hbw7.size)
  have hb9n : b9 ∉ B.l := fun z => by
    have h1 := h.lt _ z
    rcases hb9 with h2 | h2
    · have := ha b9 h2; omega
    · have := hbw7.size; omega
  have hlen : (l ++ [((Deed.lay x), kk)]).length = l.length + 1 := by simp
  have := bring_v w9 (h.below hbw9) (by omega) b9 cap9 (l ++ [(.lay x, kk)]) (by rw [hlen]; omega) (by rw [hlen]; omega) ho9.row hb9n hadm (fun i q1 q2 => hmid i q1 (by rw [hlen] at q2; exact q2))
  rw [hlen] at this
  refine this.mono ?_
  rintro e w' ⟨y, V', r, rfl, _, g1, g2, g3⟩
  exact ⟨y, rfl, AfterX.from hbw9 g1 g2 g3⟩


set_option maxHeartbeats 4000000 in
theorem put_x (w : World) (h : CV w B G P V K) (hK : K ≤ 600000000) (x : En) (hx0 : -9223372036854775808 ≤ x.b) (hx1 : x.b ≤ 9223372036854775807) (hmid : ∀ y, fullV G.nb G.N V x.b → lowest G.nb V.e = some y → P (dropV V y.b)) :
    Calls Tryz.prog 23 #[.pointer (some ⟨B.qB, 0, none⟩), x.val] w fun e w' => ∃ x : Int, e = .returned (.int .i64 x) ∧ AfterX w B G P (K + 2002) w' := by
  have ok := h.ok
  have hnum : num G.nb V.e ≤ 32 := Nat.le_trans (cnt_le _ _) ok.nb
  have hN : G.N ≤ 512 := h.ct.n5
  have hb0 := (Below.refl w.heap.size w).alloc (Nat.le_refl _) (.cells #[.int .i64 x.b, .int .i64 x.ep, .int .i64 x.sq, .string x.data, .bool x.dirty, .int .i64 x.cl, .int .i64 x.n] 37)
  have HCh := Lib.hid (check_q _ (h.below hb0).qc x)
  by_cases hc : checkE G.nb x = 0
  · have hmay := check_may hc
    rw [hc] at HCh
    obtain ⟨kk, hkk⟩ : ∃ kk, kk = behind V.k x := ⟨_, rfl⟩
    have HBh0 : ∀ w', Calls Tryz.prog 52 #[V.k.val, x.val] w' fun r w'' => r = .returned kk.val ∧ Below w'.heap.size w' w'' := fun w' => by rw [hkk]; exact behind_q w' V.k x hmay.c0 hmay.c1
    have HBh := Lib.hid HBh0
    have HEnd := Lib.hid (fun w5 w6 hb l hl a cap ho ha hadm hm h6 => put_end_x w w5 w6 h hK hb x hmay kk hkk l hl a cap ho ha hadm hm h6)
    have HAd1 : Hid (¬ fullV G.nb G.N V x.b → Adm G.nb G.N V.e ([] ++ [(.lay x, kk)])) := Lib.hid (fun h1 => by rw [hkk]; exact put_adm1 ok hmay h1)
    have HAd2 : Hid (∀ y, fullV G.nb G.N V x.b → lowest G.nb V.e = some y → Adm G.nb G.N V.e ([(.drop (lowI G.nb V.e), V.k)] ++ [(.lay x, kk)])) := Lib.hid (fun y h1 h2 => by rw [hkk]; exact put_adm2 ok hmay h1 h2)
    have HMid : Hid (∀ y, fullV G.nb G.N V x.b → lowest G.nb V.e = some y → P ⟨runV V.e (([(Deed.drop (lowI G.nb V.e), V.k)] ++ [(Deed.lay x, kk)]).take 1), lastK V.k (([((Deed.drop (lowI G.nb V.e)), V.k)] ++ [(Deed.lay x, kk)]).take 1)⟩) := Lib.hid (fun y h1 h2 => by
      have := hmid y h1 h2
      rw [lowI_is h2]
      exact this)
    clear hkk hmay hmid
    obtain ⟨xb, xp, xq, xd, xy, xc, xn⟩ := x
    unfold En.val Kp.val at HBh
    unfold En.val at HCh HEnd
    unfold En.val
    simp only at *
    have HB0 := Lib.hid hb0
    have H := Lib.hid h
    have hlook : ∃ lx : La, ∀ w', Below (w.heap.size + 1) (w.alloc (.cells #[.int .i64 xb, .int .i64 xp, .int .i64 xq, .string xd, .bool xy, .int .i64 xc, .int .i64 xn] 37)) w' → (Instr.lookup 90 (.map (some B.mE)) (.int .i64 xb) true).run Tryz.prog w' = .ok (.tuple #[lx.val, .bool (V.e xb).isSome]) w' ∧ ∀ ty, (Builtin.len_ #[90] ty #[.map (some B.mE)]).run Tryz.prog w' = .ok (.int .i64 (num G.nb V.e)) w' := by
      obtain ⟨s, d0, hcg, _, hv, _⟩ := h
      refine ⟨(s.E xb).getD zeroL, fun w' hb => ?_⟩
      have hc' := hcg.below (hb0.trans (hb.mono (by omega)))
      have h1 := (mapq_look hc'.mp hx0 hx1).1
      have h2 := fun ty => mapq_len hc'.mp hcg.hd.keys ty
      have e : (V.e xb).isSome = (s.E xb).isSome := by rw [← hv]; unfold vis; cases s.E xb <;> rfl
      rw [e]
      rw [hv] at h2
      exact ⟨h1, h2⟩
    obtain ⟨lx, hlook⟩ := hlook
    obtain ⟨⟨lb, lp, lq, ld, ly, lc, ln⟩, lpos⟩ := lx
    unfold La.val at hlook
    simp only at hlook
    have HLk := Lib.hid hlook
    have HA : Hid (∀ w', Below (w.heap.size + 1) (w.alloc (.cells #[.int .i64 xb, .int .i64 xp, .int .i64 xq, .string xd, .bool xy, .int .i64 xc, .int .i64 xn] 37)) w' → (w'.cell? ⟨w.heap.size, 0, none⟩ = some (.int .i64 xb) ∧ w'.cell? ⟨w.heap.size, 1, none⟩ = some (.int .i64 xp) ∧ w'.cell? ⟨w.heap.size, 2, none⟩ = some (.int .i64 xq) ∧ w'.cell? ⟨w.heap.size, 3, none⟩ = some (.string xd) ∧ w'.cell? ⟨w.heap.size, 4, none⟩ = some (.bool xy) ∧ w'.cell? ⟨w.heap.size, 5, none⟩ = some (.int .i64 xc) ∧ w'.cell? ⟨w.heap.size, 6, none⟩ = some (.int .i64 xn) ∧ w'.cell? ⟨B.qB, 4, none⟩ = some (.int .i64 V.k.ep) ∧ w'.cell? ⟨B.qB, 5, none⟩ = some (.int .i64 V.k.sq) ∧ w'.cell? ⟨B.qB, 6, none⟩ = some (.int .i64 V.k.t0) ∧ w'.cell? ⟨B.qB, 7, none⟩ = some (.int .i64 V.k.t1) ∧ w'.cell? ⟨B.qB, 8, none⟩ = some (.int .i64 V.k.t2) ∧ w'.cell? ⟨B.qB, 9, none⟩ = some (.int .i64 V.k.t3)) ∧ w'.cell? ⟨B.qB, 3, none⟩ = some (.map (some B.mE))) := Lib.hid (fun w' hb => by
      have g := (h.below (hb0.trans (hb.mono (by omega)))).qc
      have e : ∀ o, w'.cell? ⟨w.heap.size, o, none⟩ = (w.alloc (.cells #[.int .i64 xb, .int .i64 xp, .int .i64 xq, .string xd, .bool xy, .int .i64 xc, .int .i64 xn] 37)).cell? ⟨w.heap.size, o, none⟩ := fun o => hb.cell (p := ⟨w.heap.size, o, none⟩) (by simp)
      refine ⟨⟨?_, ?_, ?_, ?_, ?_, ?_, ?_, g.p4, g.p5, g.p6, g.p7, g.p8, g.p9⟩, g.p3⟩ <;> (rw [e, World.cell?_alloc_mark]; rfl))
    have HLow : Hid (∀ w', Below w.heap.size w w' → Calls Tryz.prog 50 #[.pointer (some ⟨B.qB, 0, none⟩)] w' fun e w'' => e = .returned (.tuple #[.int .i64 (lowI G.nb V.e), .bool (lowest G.nb V.e).isSome]) ∧ Below w'.heap.size w' w'') := Lib.hid (fun w' hb => lowest_ct w' (h.below hb).ct)
    have HRoom : Hid (∀ w', Below w.heap.size w w' → Calls Tryz.prog 24 #[.pointer (some ⟨B.qB, 0, none⟩)] w' fun e w'' => e = .returned (.int .i64 ((G.N - 6 : Nat) : Int)) ∧ w' = w'') := Lib.hid (fun w' hb => room_ct w' (h.below hb).ct)
    have HSame : Hid (∀ w', Below w.heap.size w w' → AfterX w B G P (K + 2002) w') := Lib.hid (fun w' hb => AfterX.same h hb (by omega))
    have HW : Hid (∀ w', Below (w.heap.size + 1) (w.alloc (.cells #[.int .i64 xb, .int .i64 xp, .int .i64 xq, .string xd, .bool xy, .int .i64 xc, .int .i64 xn] 37)) w' → Below w.heap.size w w') := Lib.hid (fun w' hb => hb0.trans (hb.mono (by omega)))
    have hroomI : ((G.N - 6 : Nat) : Int) = (G.N : Int) - 6 := by have := ok.n8; omega
    have hnI : (num G.nb V.e : Int) ≤ 32 := by omega
    have HFull : Hid (fullV G.nb G.N V xb ↔ V.e xb = none ∧ G.N - 6 ≤ num G.nb V.e) := Lib.hid Iff.rfl
    have hsz0 : (w.alloc (.cells #[.int .i64 xb, .int .i64 xp, .int .i64 xq, .string xd, .bool xy, .int .i64 xc, .int .i64 xn] 37)).heap.size = w.heap.size + 1 := by simp
    rw [hsz0] at HCh
    clear h hK hx0 hx1 ok hnum hN hc hb0 hlook
    go_enter Tryz.func23, Tryz.ntmps23
    go_wp2_with (go_at_call 48; with_reducible refine HCh.out.mono ?_; rintro e w1 ⟨rfl, hb1⟩
                 have HB1 : Hid (Below (w.heap.size + 1) (w.alloc (.cells #[.int .i64 xb, .int .i64 xp, .int .i64 xq, .string xd, .bool xy, .int .i64 xc, .int .i64 xn] 37)) w1) := Lib.hid hb1
                 clear hb1)
    have HS1 := Lib.hid (HA.out w1.drew HB1.out.drew).1
    have HS4 : Hid (w1.drew.cell? ⟨w.heap.size, 1, none⟩ = some (.int .i64 xp) ∧ w1.drew.cell? ⟨w.heap.size, 2, none⟩ = some (.int .i64 xq) ∧ w1.drew.cell? ⟨B.qB, 4, none⟩ = some (.int .i64 V.k.ep) ∧ w1.drew.cell? ⟨B.qB, 5, none⟩ = some (.int .i64 V.k.sq)) := Lib.hid ⟨HS1.out.2.1, HS1.out.2.2.1, HS1.out.2.2.2.2.2.2.2.1, HS1.out.2.2.2.2.2.2.2.2.1⟩
    go_region_held3 (fun w' => w'.cell? ⟨w.heap.size, 1, none⟩ = some (.int .i64 xp) ∧ w'.cell? ⟨w.heap.size, 2, none⟩ = some (.int .i64 xq) ∧ w'.cell? ⟨B.qB, 4, none⟩ = some (.int .i64 V.k.ep) ∧ w'.cell? ⟨B.qB, 5, none⟩ = some (.int .i64 V.k.sq))
      (first
        | exact HS4.out
        | exact HS5.out)
      (first
        | (go_at_call 49; with_reducible refine (order_q _ _ _ _ _).mono ?_; rintro e w2 ⟨rfl, hb2⟩
           have HB2 : Hid (Below (w.heap.size + 1) (w.alloc (.cells #[.int .i64 xb, .int .i64 xp, .int .i64 xq, .string xd, .bool xy, .int .i64 xc, .int .i64 xn] 37)) w2) := Lib.hid ((HB1.out.drew).trans (hb2.mono (by have := HB1.out.size; simp at this; exact this)))
           have HS2 := Lib.hid (HA.out w2 HB2.out).1
           have HS5 : Hid (w2.cell? ⟨w.heap.size, 1, none⟩ = some (.int .i64 xp) ∧ w2.cell? ⟨w.heap.size, 2, none⟩ = some (.int .i64 xq) ∧ w2.cell? ⟨B.qB, 4, none⟩ = some (.int .i64 V.k.ep) ∧ w2.cell? ⟨B.qB, 5, none⟩ = some (.int .i64 V.k.sq)) := Lib.hid ⟨HS2.out.2.1, HS2.out.2.2.1, HS2.out.2.2.2.2.2.2.2.1, HS2.out.2.2.2.2.2.2.2.2.1⟩
           clear hb2))
    clear HS1 HS4 HS2 HS5
    by_cases ho : ord xp xq V.k.ep V.k.sq ≤ 0
    · have ho1 := ho
      go_wp2_with fail
      go_ret
      exact ⟨_, rfl, HSame.out _ (HW.out _ HB2.out)⟩
    · have HO : Hid (0 < ord xp xq V.k.ep V.k.sq) := Lib.hid (by omega)
      have ho1 := ho
      have hx2 := HA.out w2.drew HB2.out.drew
      have hx3 := HA.out (w2.alloc (.cells #[.int .i64 0, .int .i64 0, .int .i64 0, .string ⟨#[]⟩, .bool false, .int .i64 0, .int .i64 0, .int .i64 0] 108)).drew ((HB2.out.alloc (by have := HB2.out.size; simp at this; exact this) _).drew)
      have hx4 := HA.out (w2.alloc (.cells #[.int .i64 lb, .int .i64 lp, .int .i64 lq, .string ld, .bool ly, .int .i64 lc, .int .i64 ln, .int .i64 lpos] 108)).drew ((HB2.out.alloc (by have := HB2.out.size; simp at this; exact this) _).drew)
      have hl2 := (HLk.out w2.drew HB2.out.drew).1
      have hl3 := (HLk.out (w2.alloc (.cells #[.int .i64 0, .int .i64 0, .int .i64 0, .string ⟨#[]⟩, .bool false, .int .i64 0, .int .i64 0, .int .i64 0] 108)).drew ((HB2.out.alloc (by have := HB2.out.size; simp at this; exact this) _).drew)).1
      have hl4 := (HLk.out (w2.alloc (.cells #[.int .i64 lb, .int .i64 lp, .int .i64 lq, .string ld, .bool ly, .int .i64 lc, .int .i64 ln, .int .i64 lpos] 108)).drew ((HB2.out.alloc (by have := HB2.out.size; simp at this; exact this) _).drew)).1
      have HS2 := Lib.hid (And.intro hx2.2 (And.intro hx2.1.1 hl2))
      have HS3 := Lib.hid (And.intro hx3.2 (And.intro hx3.1.1 hl3))
      have HS4 := Lib.hid (And.intro hx4.2 (And.intro hx4.1.1 hl4))
      have HB3 : Hid (Below (w.heap.size + 1) (w.alloc (.cells #[.int .i64 xb, .int .i64 xp, .int .i64 xq, .string xd, .bool xy, .int .i64 xc, .int .i64 xn] 37)) (w2.alloc (.cells #[.int .i64 lb, .int .i64 lp, .int .i64 lq, .string ld, .bool ly, .int .i64 lc, .int .i64 ln, .int .i64 lpos] 108)).drew) := Lib.hid ((HB2.out.alloc (by have := HB2.out.size; simp at this; exact this) _).drew)
      clear hx2 hx3 hx4 hl2 hl3 hl4 ho
      go_wp2_with fail
      go_cut [6, 7, 8] (fun s6 _ hs wx => hs = .bool (V.e xb).isSome ∧ (∃ aN cN, s6 = .slice aN 0 cN ∧ Hid (aN = none ∧ cN = 0)) ∧ Below (w.heap.size + 1) (w.alloc (.cells #[.int .i64 xb, .int .i64 xp, .int .i64 xq, .string xd, .bool xy, .int .i64 xc, .int .i64 xn] 37)) wx)
      case first =>
        go_region_held3 (fun w' => w'.cell? ⟨B.qB, 3, none⟩ = some (.map (some B.mE)) ∧ w'.cell? ⟨w.heap.size, 0, none⟩ = some (.int .i64 xb) ∧ (Instr.lookup 90 (.map (some B.mE)) (.int .i64 xb) true).run Tryz.prog w' = .ok (.tuple #[.agg #[.int .i64 lb, .int .i64 lp, .int .i64 lq, .string ld, .bool ly, .int .i64 lc, .int .i64 ln, .int .i64 lpos], .bool (V.e xb).isSome]) w')
          (first
            | exact HS2.out
            | exact HS3.out
            | exact HS4.out)
          (first | fail)
        all_goals
          go_wp2_with fail
          go_meet
          exact ⟨rfl, ⟨none, 0, rfl, Lib.hid ⟨rfl, rfl⟩⟩, HB3.out⟩
      case rest wx =>
        obtain ⟨rfl, ⟨aN, cN, rfl, HNN⟩, hbx⟩ := hcut
        have HOn : Hid (∀ w', OwnD w' aN cN [] ∧ ab aN = [] ∧ ∀ g, aN ≠ some ⟨g, 0, none⟩) := Lib.hid (fun w' => by obtain ⟨rfl, rfl⟩ := HNN.out; exact ⟨OwnD.nil _, rfl, fun g h => by cases h⟩)
        have HBx := Lib.hid hbx
        clear hbx HS2 HS3 HS4 HB3 HB2 HB1
        have hx5 := HA.out wc HBx.out
        have q3 := hx5.2
        have hl5 := (HLk.out wc HBx.out).2
        clear hx5
        by_cases hfull : fullV G.nb G.N V xb
        · have hn : (V.e xb).isSome = false := by rw [hfull.1]; rfl
          have hge : ((G.N - 6 : Nat) : Int) ≤ (num G.nb V.e : Int) := by have := hfull.2; omega
          rw [hn]
          have HFu := Lib.hid hfull
          clear hfull
          cases hlo : lowest G.nb V.e with
          | none =>
            rw [hlo] at HLow
            simp only [Option.isSome_none] at HLow
            clear hlo
            go_wp2_with (first
              | (go_at_call 24; with_reducible refine (HRoom.out _ (HW.out _ HBx.out)).mono ?_; rintro e w' ⟨rfl, rfl⟩)
              | (go_at_call 50; with_reducible refine (HLow.out _ (HW.out _ HBx.out)).mono ?_; rintro e w4 ⟨rfl, hb4⟩; have HB4 := Lib.hid hb4; clear hb4))
            go_ret
            exact ⟨_, rfl, HSame.out _ ((HW.out _ HBx.out).trans (HB4.out.mono (HW.out _ HBx.out).size))⟩
          | some y =>
            have HMd := Lib.hid (HMid.out y HFu.out hlo)
            have HMd2 : Hid (∀ i, 0 < i → i < [((Deed.drop (lowI G.nb V.e)), V.k)].length + 1 → P ⟨runV V.e (([(Deed.drop (lowI G.nb V.e), V.k)] ++ [(Deed.lay ⟨xb, xp, xq, xd, xy, xc, xn⟩, kk)]).take i), lastK V.k (([((Deed.drop (lowI G.nb V.e)), V.k)] ++ [(Deed.lay ⟨xb, xp, xq, xd, xy, xc, xn⟩, kk)]).take i)⟩) := Lib.hid (fun i q1 q2 => by
              simp only [List.length_singleton] at q2
              obtain rfl : i = 1 := by omega
              exact HMd.out)
            have HAd := Lib.hid (HAd2.out y HFu.out hlo)
            rw [hlo] at HLow
            simp only [Option.isSome_some] at HLow
            clear hlo
            go_wp2_with (first
              | (go_at_call 24; with_reducible refine (HRoom.out _ (HW.out _ HBx.out)).mono ?_; rintro e w' ⟨rfl, rfl⟩)
              | (go_at_call 50; with_reducible refine (HLow.out _ (HW.out _ HBx.out)).mono ?_; rintro e w4 ⟨rfl, hb4⟩
                 have HB4 : Hid (Below (w.heap.size + 1) (w.alloc (.cells #[.int .i64 xb, .int .i64 xp, .int .i64 xq, .string xd, .bool xy, .int .i64 xc, .int .i64 xn] 37)) w4) := Lib.hid (HBx.out.trans (hb4.mono (by have := HBx.out.size; simp at this; exact this)))
                 have hx6 := HA.out w4 HB4.out
                 obtain ⟨a0, a1, a2, a3, a4, a5, a6, k4, k5, k6, k7, k8, k9⟩ := hx6.1
                 have HRd := Lib.hid (rowD_one w4 (.drop (lowI G.nb V.e)) V.k rfl)
                 have HNl := Lib.hid (HOn.out (w4.alloc (.cells #[.iface 115 (.agg #[.int .i64 (lowI G.nb V.e)]), .int .i64 V.k.ep, .int .i64 V.k.sq, .int .i64 V.k.t0, .int .i64 V.k.t1, .int .i64 V.k.t2, .int .i64 V.k.t3] 98))).1
                 have HB4a : Hid (Below (w.heap.size + 1) (w.alloc (.cells #[.int .i64 xb, .int .i64 xp, .int .i64 xq, .string xd, .bool xy, .int .i64 xc, .int .i64 xn] 37)) (w4.alloc (.cells #[.iface 115 (.agg #[.int .i64 (lowI G.nb V.e)]), .int .i64 V.k.ep, .int .i64 V.k.sq, .int .i64 V.k.t0, .int .i64 V.k.t1, .int .i64 V.k.t2, .int .i64 V.k.t3] 98))) := Lib.hid (HB4.out.alloc (by have := HB4.out.size; simp at this; exact this) _)
                 clear hb4 hx6)
              | (at_builtin
                 refine wpList_append_rec7 _ rfl (.tmp 55) (.tmp 64) rfl aN 0 cN [] rfl rfl HNl.out _ 1 (.drop (lowI G.nb V.e)) V.k rfl HRd.out (by decide) ?_
                 intro b5 cap5 w5 ho5 hb5 hbu5
                 have HO5 := Lib.hid ho5
                 have HB5 : Hid (Below (w.heap.size + 1) (w.alloc (.cells #[.int .i64 xb, .int .i64 xp, .int .i64 xq, .string xd, .bool xy, .int .i64 xc, .int .i64 xn] 37)) w5) := Lib.hid (HB4a.out.trans (hbu5.to_below (by rw [(HOn.out w5).2.1]; simp) (by have := HB4a.out.size; simp at this ⊢; omega)))
                 have hb5w : w.heap.size ≤ b5 := by
                   rcases hb5 with z | z
                   · exact absurd z ((HOn.out w5).2.2 b5)
                   · have := HB4a.out.size; simp at this z; omega
                 have Hb5w := Lib.hid hb5w
                 clear ho5 hb5 hbu5 a0 a1 a2 a3 a4 a5 a6 k4 k5 k6 k7 k8 k9 hb5w))
            have HT := Lib.hid (fun (w6 : World) (h6 : Below w5.heap.size w5 w6) => HEnd.out w5 w6 (HW.out _ HB5.out) [(.drop (lowI G.nb V.e), V.k)] (by simp) (some ⟨b5, 0, none⟩) cap5 HO5.out (fun g hg => by injection hg with hg; injection hg with hg; rw [← hg]; exact Hb5w.out) HAd.out HMd2.out h6)
            have HA2 : Hid (∀ w6, Below w5.heap.size w5 w6 → w6.cell? ⟨w.heap.size, 0, none⟩ = some (.int .i64 xb) ∧ w6.cell? ⟨w.heap.size, 1, none⟩ = some (.int .i64 xp) ∧ w6.cell? ⟨w.heap.size, 2, none⟩ = some (.int .i64 xq) ∧ w6.cell? ⟨w.heap.size, 3, none⟩ = some (.string xd) ∧ w6.cell? ⟨w.heap.size, 4, none⟩ = some (.bool xy) ∧ w6.cell? ⟨w.heap.size, 5, none⟩ = some (.int .i64 xc) ∧ w6.cell? ⟨w.heap.size, 6, none⟩ = some (.int .i64 xn)) := Lib.hid (fun w6 h6 => by
              obtain ⟨a0, a1, a2, a3, a4, a5, a6, _⟩ := (HA.out w6 (HB5.out.trans (h6.mono (by have := HB5.out.size; simp at this; exact this)))).1
              exact ⟨a0, a1, a2, a3, a4, a5, a6⟩)
            have HS5 := HA.out w5 HB5.out
            obtain ⟨a0, a1, a2, a3, a4, a5, a6, k4, k5, k6, k7, k8, k9⟩ := HS5.1
            clear HS5
            go_region_law ((first
              | (refine step_append_rec7 _ rfl (.tmp 67) (.tmp 77) rfl _ 1 _ [(.drop (lowI G.nb V.e), V.k)] rfl rfl HOD7.out _ 1 (.lay ⟨xb, xp, xq, xd, xy, xc, xn⟩) kk rfl HRD7.out (by simp) ?_
                 intro b9 cap9 w9 ho9 hb9 hbu9
                 have HC9 : Hid (Calls Tryz.prog 51 #[.pointer (some ⟨B.qB, 0, none⟩), .slice (some ⟨b9, 0, none⟩) 2 cap9] w9 fun e w' => ∃ x : Int, e = .returned (.int .i64 x) ∧ AfterX w B G P (K + 2002) w') := Lib.hid (HBr.out b9 cap9 w9 ho9 hb9 hbu9)
                 clear ho9 hb9 hbu9)
              | (go_simp
                 go_at_call 52
                 with_reducible refine (HBh.out _).mono ?_
                 rintro e w6 ⟨rfl, hb6⟩
                 have hB6 : Below w5.heap.size w5 w6 := ((Below.refl _ _).drew).trans hb6
                 have HOD7 := Lib.hid (HT.out w6 hB6).1
                 have HRD7 := Lib.hid (HT.out w6 hB6).2.1
                 have HBr := Lib.hid (HT.out w6 hB6).2.2
                 obtain ⟨a0, a1, a2, a3, a4, a5, a6⟩ := HA2.out w6 hB6
                 clear hb6 hB6)
              | (go_simp
                 go_at_call 51
                 with_reducible refine HC9.out.mono ?_
                 rintro e w10 ⟨x10, rfl, h10⟩
                 have H10 := Lib.hid h10
                 clear h10)))
            all_goals
              go_wp2_with fail
              go_ret
              exact ⟨_, rfl, H10.out⟩
        · have HAd := Lib.hid (HAd1.out hfull)
          have HT := Lib.hid (fun (w6 : World) (h6 : Below wc.heap.size wc w6) => HEnd.out wc w6 (HW.out _ HBx.out) [] (by simp) aN cN (HOn.out wc).1 (fun g hg => absurd hg ((HOn.out wc).2.2 g)) HAd.out (fun i q1 q2 => absurd q2 (by simp; omega)) h6)
          have HA2 : Hid (∀ w6, Below wc.heap.size wc w6 → w6.cell? ⟨w.heap.size, 0, none⟩ = some (.int .i64 xb) ∧ w6.cell? ⟨w.heap.size, 1, none⟩ = some (.int .i64 xp) ∧ w6.cell? ⟨w.heap.size, 2, none⟩ = some (.int .i64 xq) ∧ w6.cell? ⟨w.heap.size, 3, none⟩ = some (.string xd) ∧ w6.cell? ⟨w.heap.size, 4, none⟩ = some (.bool xy) ∧ w6.cell? ⟨w.heap.size, 5, none⟩ = some (.int .i64 xc) ∧ w6.cell? ⟨w.heap.size, 6, none⟩ = some (.int .i64 xn)) := Lib.hid (fun w6 h6 => by
            obtain ⟨a0, a1, a2, a3, a4, a5, a6, _⟩ := (HA.out w6 (HBx.out.trans (h6.mono (by have := HBx.out.size; simp at this; exact this)))).1
            exact ⟨a0, a1, a2, a3, a4, a5, a6⟩)
          cases hs : (V.e xb).isSome with
          | true =>
            clear hfull
            go_wp2_with fail
            have HS5 := HA.out wc HBx.out
            obtain ⟨a0, a1, a2, a3, a4, a5, a6, k4, k5, k6, k7, k8, k9⟩ := HS5.1
            clear HS5
            go_region_law ((first
              | (refine step_append_rec7 _ rfl (.tmp 67) (.tmp 77) rfl _ 0 _ [] rfl rfl HOD7.out _ 1 (.lay ⟨xb, xp, xq, xd, xy, xc, xn⟩) kk rfl HRD7.out (by simp) ?_
                 intro b9 cap9 w9 ho9 hb9 hbu9
                 have HC9 : Hid (Calls Tryz.prog 51 #[.pointer (some ⟨B.qB, 0, none⟩), .slice (some ⟨b9, 0, none⟩) 1 cap9] w9 fun e w' => ∃ x : Int, e = .returned (.int .i64 x) ∧ AfterX w B G P (K + 2002) w') := Lib.hid (HBr.out b9 cap9 w9 ho9 hb9 hbu9)
                 clear ho9 hb9 hbu9)
              | (go_simp
                 go_at_call 52
                 with_reducible refine (HBh.out _).mono ?_
                 rintro e w6 ⟨rfl, hb6⟩
                 have hB6 : Below wc.heap.size wc w6 := ((Below.refl _ _).drew).trans hb6
                 have HOD7 := Lib.hid (HT.out w6 hB6).1
                 have HRD7 := Lib.hid (HT.out w6 hB6).2.1
                 have HBr := Lib.hid (HT.out w6 hB6).2.2
                 obtain ⟨a0, a1, a2, a3, a4, a5, a6⟩ := HA2.out w6 hB6
                 clear hb6 hB6)
              | (go_simp
                 go_at_call 51
                 with_reducible refine HC9.out.mono ?_
                 rintro e w10 ⟨x10, rfl, h10⟩
                 have H10 := Lib.hid h10
                 clear h10)))
            all_goals
              go_wp2_with fail
              go_ret
              exact ⟨_, rfl, H10.out⟩
          | false =>
            have hnone : V.e xb = none := by cases hz : V.e xb with
              | none => rfl
              | some z => rw [hz] at hs; cases hs
            have hlt : ¬ (((G.N - 6 : Nat) : Int) ≤ (num G.nb V.e : Int)) := fun z => hfull ⟨hnone, by omega⟩
            clear hfull hnone
            go_wp2_with (go_at_call 24; with_reducible refine (HRoom.out _ (HW.out _ HBx.out)).mono ?_; rintro e w' ⟨rfl, rfl⟩)
            have HS5 := HA.out wc HBx.out
            obtain ⟨a0, a1, a2, a3, a4, a5, a6, k4, k5, k6, k7, k8, k9⟩ := HS5.1
            clear HS5
            go_region_law ((first
              | (refine step_append_rec7 _ rfl (.tmp 67) (.tmp 77) rfl _ 0 _ [] rfl rfl HOD7.out _ 1 (.lay ⟨xb, xp, xq, xd, xy, xc, xn⟩) kk rfl HRD7.out (by simp) ?_
                 intro b9 cap9 w9 ho9 hb9 hbu9
                 have HC9 : Hid (Calls Tryz.prog 51 #[.pointer (some ⟨B.qB, 0, none⟩), .slice (some ⟨b9, 0, none⟩) 1 cap9] w9 fun e w' => ∃ x : Int, e = .returned (.int .i64 x) ∧ AfterX w B G P (K + 2002) w') := Lib.hid (HBr.out b9 cap9 w9 ho9 hb9 hbu9)
                 clear ho9 hb9 hbu9)
              | (go_simp
                 go_at_call 52
                 with_reducible refine (HBh.out _).mono ?_
                 rintro e w6 ⟨rfl, hb6⟩
                 have hB6 : Below wc.heap.size wc w6 := ((Below.refl _ _).drew).trans hb6
                 have HOD7 := Lib.hid (HT.out w6 hB6).1
                 have HRD7 := Lib.hid (HT.out w6 hB6).2.1
                 have HBr := Lib.hid (HT.out w6 hB6).2.2
                 obtain ⟨a0, a1, a2, a3, a4, a5, a6⟩ := HA2.out w6 hB6
                 clear hb6 hB6)
              | (go_simp
                 go_at_call 51
                 with_reducible refine HC9.out.mono ?_
                 rintro e w10 ⟨x10, rfl, h10⟩
                 have H10 := Lib.hid h10
                 clear h10)))
            all_goals
              go_wp2_with fail
              go_ret
              exact ⟨_, rfl, H10.out⟩
  · have hne : (checkE G.nb x != 0) = true := by simpa using hc
    have HB0 := Lib.hid hb0
    have H := Lib.hid h
    have HKk := Lib.hid hK
    generalize checkE G.nb x = ce at *
    obtain ⟨xb, xp, xq, xd, xy, xc, xn⟩ := x
    unfold En.val at HCh
    unfold En.val
    simp only at *
    clear h hK hx0 hx1 ok hnum hN hb0 hc hmid
    go_enter Tryz.func23, Tryz.ntmps23
    go_wp2_with (go_at_call 48; with_reducible refine HCh.out.mono ?_; rintro e w1 ⟨rfl, hb1⟩; have HB1 : Hid (Below w.heap.size w w1) := Lib.hid (HB0.out.trans (hb1.mono HB0.out.size)); clear hb1)
    go_ret
    exact ⟨_, rfl, AfterX.same H.out HB1.out (by omega)⟩
end Q
end Go.Proofs.YtmcalgnpinolmaaGreat
namespace Go.Proofs.YtmcalgnpinolmaaGreat
open Go.RowKit Go.Maps
set_option linter.unusedVariables false
set_option linter.unusedSimpArgs false
set_option maxRecDepth 20000
namespace Q
variable {B : Bk} {G : Gm} {V : Vi} {K : Int} {P P' : Vi → Prop}

theorem sync_v (w : World) (h : CV w B G P V K) : Calls Tryz.prog 36 #[.pointer (some ⟨B.qB, 0, none⟩)] w fun e w' => ∃ x : Int, e = .returned (.int .i64 x) ∧ But [B.dB, B.sB, B.mB] w w' ∧ ((x = 0 ∧ CV w' B G (fun v => v = V) V K) ∨ (x ≠ 0 ∧ CV w' B G P V K)) := by
  have p0 := h.qc.p0
  obtain ⟨s, d, h1, h2, h3, h4, h5, h6⟩ := h
  have HS := Lib.hid (sync_x (P' := fun v => v = V) w h1 ⟨s.E, s.k, h1.hd, h2, by rw [h3, h4]⟩)
  have HH := Lib.hid (And.intro h2 (And.intro h3 (And.intro h4 (And.intro h5 h6))))
  clear h1 h2 h3 h4 h5 h6
  go_enter Tryz.func36, Tryz.ntmps36
  go_wp2_with (go_at_call 54; refine HS.out.mono ?_; rintro e w1 ⟨x1, d1, rfl, hb1, hor⟩
               have H1 := Lib.hid (And.intro hb1 hor)
               clear hb1 hor)
  go_ret
  obtain ⟨hb1, hor⟩ := H1.out
  obtain ⟨h2, h3, h4, h5, h6⟩ := HH.out
  refine ⟨x1, rfl, hb1, ?_⟩
  rcases hor with ⟨hx, hg⟩ | ⟨hx, hdd, hg⟩
  · exact .inl ⟨hx, _, d1, hg, h2, h3, h4, h5, rfl⟩
  · exact .inr ⟨hx, _, d1, hg, h2, h3, h4, h5, h6⟩

set_option maxHeartbeats 1000000 in
theorem fuse_v (w : World) (h : CV w B G P V K) (k : Int) (hk1 : -9223372036854775808 ≤ k) (hk2 : k ≤ 9223372036854775807) : Calls Tryz.prog 15 #[.pointer (some ⟨B.dB, 0, none⟩), .int .i64 k] w fun e w' => e = .returned (.tuple #[]) ∧ CV w' B G P V K ∧ But [B.dB] w w' := by
  obtain ⟨s, d, h1, h2, h3, h4, h5, h6⟩ := h
  refine (fuse_any w h1.dv k hk1 hk2).mono ?_
  rintro e w' ⟨rfl, hd, hb⟩
  have c1 := h1.lg.sp.c1
  have c2 := h1.lg.sp.l1
  have c3 := h1.lg.sp.r1
  have s1 := h1.sp.q
  have s2 := h1.sp.m
  have hlg := h1.lg.but hb (by simp; omega) (by simp; omega) (by simp; omega)
  have hqc := h1.qc.but hb (by simp; omega)
  have hmp := h1.mp.but hb (by simp; omega)
  refine ⟨rfl, ?_, hb⟩
  rcases h1.st with ⟨e, hal⟩ | ⟨e, hcr⟩
  · rw [e] at hd
    have hal2 : Al G P (M.fuseD s.d k) s.L := ⟨hal.dead, hal.cl, hal.tip⟩
    have hlg2 : LG w' B.dB B.sB B.mB G.n (M.fuseD s.d k) B.lB B.rb B.cB G.first G.N G.a G.b s.c s.L s.K := hlg.dev (fun j _ => rfl)
    exact ⟨⟨M.fuseD s.d k, s.c, s.L, s.E, s.k, s.K⟩, _, ⟨hd, hlg2, hqc, hmp, h1.sp, h1.hd, .inl ⟨rfl, hal2⟩⟩, h2, h3, h4, h5, h6⟩
  · exact ⟨s, _, ⟨hd, hlg, hqc, hmp, h1.sp, h1.hd, .inr ⟨e, hcr.dev rfl rfl⟩⟩, h2, h3, h4, h5, h6⟩

/-- a device as a crash left it -/
def Lf (w : World) (dB sB mB : Nat) (G : Gm) (P : Vi → Prop) (K : Int) : Prop := ∃ d, DevAt w dB sB mB G.n d ∧ Free d ∧ Geo G.n G.first G.N G.a G.b ∧ ∃ c L, Left G P K (M.seen d) c L
set_option maxHeartbeats 1000000 in
theorem crash_v (w : World) (h : CV w B G P V K) (aK : Option Addr) (mK cK : Nat) (ks : List (Int × Int)) (hk : KRow w aK mK cK ks) (hnb : ks = [] ∨ ∀ b off, aK = some ⟨b, off, none⟩ → b ∉ [B.dB, B.sB, B.mB]) (hl : ∀ x ∈ ks, x.1 = 0 ∨ x.1 = 1) :
    Calls Tryz.prog 16 #[.pointer (some ⟨B.dB, 0, none⟩), .slice aK mK cK] w fun e w' => e = .returned (.tuple #[]) ∧ Lf w' B.dB B.sB B.mB G P K ∧ But [B.dB, B.sB, B.mB] w w' := by
  obtain ⟨s, d, h1, h2, h3, h4, h5, h6⟩ := h
  refine (crash_any w h1.dv aK mK cK ks hk hnb).mono ?_
  rintro e w' ⟨rfl, hd, hb⟩
  refine ⟨rfl, ⟨_, hd, Free.crash _ _ _, h1.lg.geo, ?_⟩, hb⟩
  obtain ⟨c, L, g⟩ := (h1.cr.mono h5 (fun v hv => hv)) (M.crashD G.n d ks).S (M.Two.crash h1.dv.wf hl)
  have e : M.seen (M.crashD G.n d ks) = (M.crashD G.n d ks).S := funext (M.crash_seen _ _ _)
  exact ⟨c, L, by rw [e]; exact g⟩

theorem cg_cv {w : World} {s : St} (h : CG w B G s) (hP : ∀ k, s.d.P k = none) (hl : LenOk G.N s.L s.E) : CV w B G (fun v => v = ⟨vis s.E, s.k⟩) ⟨vis s.E, s.k⟩ s.K :=
  ⟨s, s.d, ⟨h.dv, h.lg, h.qc, h.mp, h.sp, h.hd, .inl ⟨rfl, Al.sure (d := s.d) h.fr.2 (fun j => (seen_none hP j).symm) hP h.lg.gd.ring ⟨s.E, s.k, h.hd, hl, rfl⟩⟩⟩, hl, rfl, rfl, Int.le_refl _, rfl⟩

set_option maxHeartbeats 1000000 in
theorem open_v (w : World) {dB sB mB : Nat} (h : Lf w dB sB mB G P K) (hK : K ≤ 900000000) (hnb1 : 1 ≤ G.nb) {x1 x2 x3 x4 x5 : Int} (e1 : x1 = (G.first : Int)) (e2 : x2 = (G.N : Int)) (e3 : x3 = (G.a : Int)) (e4 : x4 = (G.b : Int)) (e5 : x5 = (G.nb : Int)) :
    Calls Tryz.prog 17 #[.pointer (some ⟨dB, 0, none⟩), .int .i64 x1, .int .i64 x2, .int .i64 x3, .int .i64 x4, .int .i64 x5] w fun e w' => ∃ (B2 : Bk) (V2 : Vi), e = .returned (.tuple #[.pointer (some ⟨B2.qB, 0, none⟩), .int .i64 0]) ∧ B2.dB = dB ∧ B2.sB = sB ∧ B2.mB = mB ∧ CV w' B2 G (fun v => v = V2) V2 (K + 1) ∧ P V2 ∧ (w.heap.size ≤ B2.lB ∧ w.heap.size ≤ B2.cB ∧ w.heap.size ≤ B2.rb ∧ w.heap.size ≤ B2.qB ∧ w.heap.size ≤ B2.mE) ∧ But [dB, sB, mB] w w' := by
  subst e1 e2 e3 e4 e5
  obtain ⟨d, hd, hf, hgeo, c, L, g⟩ := h
  obtain ⟨E, k, hh, hl, hp⟩ := g.pre
  obtain ⟨ds, q1, q2, q3, q4⟩ := hh.says
  subst q3 q4
  have hlo := open_lg (K := K) (L := L) (c := c) w hd hf hgeo (by omega) g.ring g.cell (.inl g.text) g.gen g.tail g.time
  have ho := open_any (D := fun d' => ∀ k, d'.P k = none) (L := L.anew) (K := K + 1) (G := G) (dB := dB) (sB := sB) (mB := mB) w ds (by omega) hnb1 hh.nb hh.n8 (by have := hgeo.fn; have := hgeo.n5; omega) q1 q2 hh.cn (hlo.mono (by
    rintro e w' ⟨lB, cB, rb, d', c', z1, z2, z3, z4, z5, z6, z7, z8⟩
    exact ⟨lB, cB, rb, d', c', z1, z2, z3, z4, z5, z6, z8⟩))
  refine ho.mono ?_
  rintro e w' ⟨B2, d', c', rfl, z1, z2, z3, z4, z5, z6, z7⟩
  exact ⟨B2, _, rfl, z1, z2, z3, cg_cv z4 z7 hl, hp, z5, z6⟩

/-- the law's own Open -/
theorem law_open_x (w0 w : World) (hb : Below w0.heap.size w0 w) (x : Int) (wf : (Lit.int .u8 x).wf = true) :
    Calls Tryz.prog 12 #[.int .u8 x] w fun e w' => ∃ (B : Bk) (N : Nat), 8 ≤ N ∧ N ≤ 37 ∧ x.tmod 30 + 8 = (N : Int) ∧ e = .returned (.tuple #[.pointer (some ⟨B.dB, 0, none⟩), .pointer (some ⟨B.qB, 0, none⟩), .int .i64 (N : Int)]) ∧ CV w' B ⟨N + 2, 2, N, 0, 1, 32⟩ (fun v => v = ⟨vis none0, kp0⟩) ⟨vis none0, kp0⟩ 2 ∧ (∀ y ∈ B.l, w.heap.size ≤ y) ∧ Below w.heap.size w w' := by
  obtain ⟨r, hr, hrm⟩ := u8_mod x 30 (by decide) wf (kI := 30) rfl
  have hrI : (r : Int) < 30 := by omega
  have hr0 : (0 : Int) ≤ (r : Int) := by omega
  have Hr := Lib.hid hr
  have HB := Lib.hid hb
  have HN := Lib.hid (new_yes (r + 10) (by omega) w)
  have hx : (((r + 10 : Nat) : Int)) = (r : Int) + 8 + 2 := by omega
  rw [hx] at HN
  clear wf hr hb hx
  go_enter Tryz.func12, Tryz.ntmps12
  go_wp2_with (first
    | (go_at_call 34; with_reducible refine HN.out.mono ?_; rintro e w1 ⟨dB, sB, mB, rfl, hD, hb1, l1, l2, l3⟩
       have HO := Lib.hid (fresh_open (G := ⟨r + 10, 2, r + 8, 0, 1, 32⟩) w w1 hb1 hD ⟨l1, l2, l3⟩ ⟨by simp, by simp, by simp, by simp; omega, by simp, by simp, by simp, by have := Hr.out; simp; omega⟩ (by simp) (by simp) (by simp) (x1 := 2) (x2 := (r : Int) + 8) (x3 := 0) (x4 := 1) (x5 := 32) rfl (by simp) rfl rfl rfl)
       clear hD hb1 l1 l2 l3)
    | (go_at_call 17; with_reducible refine HO.out.mono ?_; rintro e w2 ⟨B, d', c', rfl, h1, h2, h3, hc, hP, ho, hb2⟩
       have HC := Lib.hid (And.intro h1 (And.intro hc (And.intro ho (And.intro hb2 hP))))
       clear h1 h2 h3 hc hP ho hb2))
  obtain ⟨rfl, hc, ho, hb2, hP⟩ := HC.out
  have hs0 := HB.out.size
  refine bodyPost_ret_by ?_ rfl ⟨B, r + 8, by omega, by have := Hr.out; omega, by rw [hrm]; simp, rfl, cg_cv hc hP (.inl (by simp)), ho, hb2⟩
  simp [results, Tryz.results12, go_sem]

set_option maxHeartbeats 4000000 in
theorem do_x (w : World) (h : CV w B G P V K) (hK : K ≤ 600000000) (kind n : Int) (e : En) (aT : Option Addr) (nT cT : Nat) (s : ByteArray) (aL : Option Addr) (nL cL : Nat) (t : List Int) (hr : C.Row w aT nT cT (C.i64s t)) (hb0 : -9223372036854775808 ≤ e.b) (hb1 : e.b ≤ 9223372036854775807) (hmid : kind = 0 → ∀ y, fullV G.nb G.N V e.b → lowest G.nb V.e = some y → P (dropV V y.b)) :
    Calls Tryz.prog 22 #[.pointer (some ⟨B.qB, 0, none⟩), actV kind n e aT nT cT s aL nL cL] w fun r w' => ∃ x : Int, r = .returned (.int .i64 x) ∧ AfterX w B G (fun v => ¬ (kind = 4 ∧ x = 0) ∧ P v) (K + 2002) w' := by
  obtain ⟨b, ep, sq, data, dirty, cl, en⟩ := e
  have hbw := (Below.refl w.heap.size w).alloc (Nat.le_refl _) (.cells #[.int .i64 kind, .int .i64 n, .int .i64 b, .int .i64 ep, .int .i64 sq, .string data, .bool dirty, .int .i64 cl, .int .i64 en, .slice aT nT cT, .string s, .slice aL nL cL] 41)
  have HB := Lib.hid hbw
  have H := Lib.hid (h.below hbw)
  have H0 := Lib.hid h
  have HRow := Lib.hid (C.row_below hr hbw (Nat.le_refl _))
  have HA : Hid (∀ (x : Int) w', kind ≠ 4 → AfterX (w.alloc (.cells #[.int .i64 kind, .int .i64 n, .int .i64 b, .int .i64 ep, .int .i64 sq, .string data, .bool dirty, .int .i64 cl, .int .i64 en, .slice aT nT cT, .string s, .slice aL nL cL] 41)) B G P (K + 2002) w' → AfterX w B G (fun v => ¬ (kind = 4 ∧ x = 0) ∧ P v) (K + 2002) w') := Lib.hid (fun x w' hk ⟨V', r, h1, h2, h3⟩ => AfterX.from HB.out (h1.mono (Int.le_refl _) (fun v hv => hv.imp (fun z => ⟨fun q => hk q.1, z⟩) id)) h2 h3)
  unfold actV
  simp only at hb0 hb1 hmid ⊢
  clear h hr hbw
  by_cases k0 : kind = 0
  · subst k0
    have hp := put_x _ H.out hK ⟨b, ep, sq, data, dirty, cl, en⟩ hb0 hb1 (hmid rfl)
    simp only [En.val] at hp
    have HP := Lib.hid hp
    clear hp
    go_enter Tryz.func22, Tryz.ntmps22
    go_wp2_with (go_at_call 23; with_reducible refine HP.out.mono ?_; rintro e w1 ⟨x1, rfl, h1⟩; have H1 := Lib.hid (HA.out x1 _ (by decide) h1); clear h1)
    go_ret
    exact ⟨x1, rfl, H1.out⟩
  by_cases k1 : kind = 1
  · subst k1
    have HP := Lib.hid (clean_x _ H.out hK b ep sq hb0 hb1)
    go_enter Tryz.func22, Tryz.ntmps22
    go_wp2_with (go_at_call 26; with_reducible refine HP.out.mono ?_; rintro e w1 ⟨x1, rfl, h1⟩; have H1 := Lib.hid (HA.out x1 _ (by decide) h1); clear h1)
    go_ret
    exact ⟨x1, rfl, H1.out⟩
  by_cases k2 : kind = 2
  · subst k2
    have HP := Lib.hid (drop_x _ H.out hK b hb0 hb1)
    go_enter Tryz.func22, Tryz.ntmps22
    go_wp2_with (go_at_call 37; with_reducible refine HP.out.mono ?_; rintro e w1 ⟨x1, rfl, h1⟩; have H1 := Lib.hid (HA.out x1 _ (by decide) h1); clear h1)
    go_ret
    exact ⟨x1, rfl, H1.out⟩
  by_cases k3 : kind = 3
  · subst k3
    have HP := Lib.hid (note_x _ H.out hK ep sq aT nT cT t HRow.out)
    go_enter Tryz.func22, Tryz.ntmps22
    go_wp2_with (go_at_call 32; with_reducible refine HP.out.mono ?_; rintro e w1 ⟨x1, rfl, h1⟩; have H1 := Lib.hid (HA.out x1 _ (by decide) h1); clear h1)
    go_ret
    exact ⟨x1, rfl, H1.out⟩
  by_cases k8 : kind = 8
  · subst k8
    have HP := Lib.hid (reset_x _ H.out hK ep sq aT nT cT t HRow.out)
    go_enter Tryz.func22, Tryz.ntmps22
    go_wp2_with (go_at_call 30; with_reducible refine HP.out.mono ?_; rintro e w1 ⟨x1, rfl, h1⟩; have H1 := Lib.hid (HA.out x1 _ (by decide) h1); clear h1)
    go_ret
    exact ⟨x1, rfl, H1.out⟩
  by_cases k4 : kind = 4
  · subst k4
    have HP := Lib.hid (sync_v _ H.out)
    go_enter Tryz.func22, Tryz.ntmps22
    go_wp2_with (go_at_call 36; with_reducible refine HP.out.mono ?_; rintro e w1 ⟨x1, rfl, hb, hor⟩
                 have H1 := Lib.hid (And.intro hb hor)
                 clear hb hor)
    go_ret
    obtain ⟨hb, hor⟩ := H1.out
    refine ⟨x1, rfl, ?_⟩
    have hb2 := hb.mono (m := B.l) (by simp [Bk.l])
    rcases hor with ⟨hx, hg⟩ | ⟨hx, hg⟩
    · exact AfterX.from (r := B.rb) (V' := V) HB.out (hg.mono (by omega) (fun v hv => .inr hv)) (.inl rfl) hb2
    · exact AfterX.from (r := B.rb) (V' := V) HB.out (hg.mono (by omega) (fun v hv => .inl ⟨fun z => hx z.2, hv⟩)) (.inl rfl) hb2
  · go_enter Tryz.func22, Tryz.ntmps22
    go_wp2_with fail
    go_ret
    exact ⟨0, rfl, HA.out 0 _ k4 (AfterX.same H.out (Below.refl _ _) (by omega))⟩
end Q
end Go.Proofs.YtmcalgnpinolmaaGreat
