/-
  What a cache tells of its own memory alone, whatever becomes of the device.
  An act that is none of the device's.
  What a cache tells, in one value.
  What is told twice, and is the same.
  An act too large to be looked at.
  Acts as they lie in memory, and as a statement is handed them; rows of numbers.
  What every law of acts uses: the k-th act, a cache of the call's own, what an act makes.
-/
import Derived.Test.YtmcalgnpinolmaaGreatQD
import Derived.Test.YtmcalgnpinolmaaGreatQE
import Derived.Test.YtmcalgnpinolmaaGreatOB
import Derived.BigQuiet
namespace Go.Proofs.YtmcalgnpinolmaaGreat
open Go.RowKit Go.Maps Go.Sort Go.Shelf
set_option linter.unusedVariables false
set_option linter.unusedSimpArgs false
set_option maxRecDepth 20000
namespace Q
variable {B : Bk} {G : Gm} {V : Vi} {K : Int}

/-- a cache's own memory, as it is seen -/
structure Ct (w : World) (B : Bk) (G : Gm) (V : Vi) : Prop where
  qc : CacheC w B.qB B.lB G.N G.nb B.mE V.k
  mp : ∃ E, MapQ w B.mE E ∧ vis E = V.e
  ok : VOk G.nb G.N V
  n5 : G.N ≤ 512
theorem Cs.ct {w : World} (h : Cs w B G V K) : Ct w B G V := by
  have h1 := h.qc
  have h2 := h.ok
  obtain ⟨s, g1, g2, _⟩ := h
  exact ⟨h1, ⟨s.E, g1.mp, g2⟩, h2, by have := g1.lg.geo.fn; have := g1.lg.geo.n5; omega⟩
theorem Ct.but {w w' : World} (h : Ct w B G V) {q : List Nat} (hb : But q w w') (h1 : B.qB ∉ q) (h2 : B.mE ∉ q) : Ct w' B G V := by
  obtain ⟨g1, ⟨E, g2, g3⟩, g4, g5⟩ := h
  exact ⟨g1.but hb h1, ⟨E, g2.but hb h2, g3⟩, g4, g5⟩
theorem Ct.below {w w' : World} (h : Ct w B G V) (hb : Below w.heap.size w w') : Ct w' B G V := h.but (But.of_below hb) (by simp) (by simp)
theorem Ct.keys {w : World} (h : Ct w B G V) {E : Mp} (he : vis E = V.e) : ∀ b x, E b = some x → 0 ≤ b ∧ b < (G.nb : Int) := by
  intro b x hx
  refine h.ok.range (b := b) (x := x.e) ?_
  rw [← he]; unfold vis; rw [hx]; rfl

theorem room_ct (w : World) (h : Ct w B G V) : Calls Tryz.prog 24 #[.pointer (some ⟨B.qB, 0, none⟩)] w fun e w' => e = .returned (.int .i64 ((G.N - 6 : Nat) : Int)) ∧ w = w' := by
  have p1 := h.qc.p1
  have hn := h.ok.n8
  have hN : G.N ≤ 512 := h.n5
  have e1 : ((G.N - 6 : Nat) : Int) = (G.N : Int) - 6 := by omega
  have e2 : (G.N : Int) ≤ 512 := by omega
  rw [e1]
  clear h hn hN e1
  go_enter Tryz.func24, Tryz.ntmps24
  go_wp2
  go_ret
  exact ⟨by simp, rfl⟩

theorem last_ct (w : World) (h : Ct w B G V) : Calls Tryz.prog 28 #[.pointer (some ⟨B.qB, 0, none⟩)] w fun e w' => e = .returned (.agg #[.int .i64 V.k.ep, .int .i64 V.k.sq]) ∧ Below w.heap.size w w' := by
  have HB : Hid (Below w.heap.size w (w.alloc (.cells #[.int .i64 0, .int .i64 0] 30))) := Lib.hid ((Below.refl _ _).alloc (Nat.le_refl _) _)
  have g := (h.below HB.out).qc
  have p4 := g.p4
  have p5 := g.p5
  clear h g
  go_enter Tryz.func28, Tryz.ntmps28
  go_wp2
  refine bodyPost_ret_by ?_ rfl ⟨rfl, (Below.refl _ _).alloc (Nat.le_refl _) _⟩
  simp [results, Tryz.results28, go_sem]

theorem number_ct (w : World) (h : Ct w B G V) (i : Int) : Calls Tryz.prog 27 #[.pointer (some ⟨B.qB, 0, none⟩), .int .i64 i] w fun e w' => e = .returned (.int .i64 (V.k.get i)) ∧ w = w' := by
  have p6 := h.qc.p6
  have p7 := h.qc.p7
  have p8 := h.qc.p8
  have p9 := h.qc.p9
  clear h
  unfold Kp.get
  by_cases h0 : i < 0
  · rw [if_neg (by omega), if_neg (by omega), if_neg (by omega), if_neg (by omega)]
    go_enter Tryz.func27, Tryz.ntmps27
    go_wp2
    go_ret
    exact ⟨rfl, rfl⟩
  · by_cases h4 : 4 ≤ i
    · rw [if_neg (by omega), if_neg (by omega), if_neg (by omega), if_neg (by omega)]
      go_enter Tryz.func27, Tryz.ntmps27
      go_wp2
      go_ret
      exact ⟨rfl, rfl⟩
    · have hi : i = 0 ∨ i = 1 ∨ i = 2 ∨ i = 3 := by omega
      clear h0 h4
      rcases hi with rfl | rfl | rfl | rfl
      all_goals
        simp (config := { decide := true }) only [if_true, if_false]
        go_enter Tryz.func27, Tryz.ntmps27
        go_wp2
        go_ret
        exact ⟨rfl, rfl⟩

theorem get_ct (w : World) (h : Ct w B G V) (b : Int) (hb0 : -9223372036854775808 ≤ b) (hb1 : b ≤ 9223372036854775807) : Calls Tryz.prog 25 #[.pointer (some ⟨B.qB, 0, none⟩), .int .i64 b] w fun e w' => e = .returned (.tuple #[entV (V.e b), .bool (V.e b).isSome]) ∧ Below w.heap.size w w' := by
  have HB : Hid (Below w.heap.size w (w.alloc (.cells #[.int .i64 0, .int .i64 0, .int .i64 0, .string ⟨#[]⟩, .bool false, .int .i64 0, .int .i64 0] 37))) := Lib.hid ((Below.refl _ _).alloc (Nat.le_refl _) _)
  have hct := h.below HB.out
  obtain ⟨E, hm, hv⟩ := hct.mp
  have p3 := hct.qc.p3
  have hl := (mapq_look hm hb0 hb1).1
  have hE : vis E b = V.e b := by rw [hv]
  have hx : ∃ x : La, (E b).getD zeroL = x ∧ entV (V.e b) = x.e.val ∧ (V.e b).isSome = (E b).isSome := by
    rw [← hE]
    unfold vis entV
    cases E b with
    | none => exact ⟨_, rfl, rfl, rfl⟩
    | some y => exact ⟨_, rfl, rfl, rfl⟩
  obtain ⟨x, h1, h2, h3⟩ := hx
  rw [h1, ← h3] at hl
  rw [h2]
  generalize (V.e b).isSome = z at *
  obtain ⟨⟨xb, xp, xq, xd, xy, xc, xn⟩, xpos⟩ := x
  unfold La.val at hl
  unfold En.val
  simp only at hl ⊢
  clear h hct hm hv hE h1 h2 h3 hb0 hb1
  go_enter Tryz.func25, Tryz.ntmps25
  go_wp2
  refine bodyPost_ret_by ?_ rfl ⟨rfl, ?_⟩
  rotate_left
  · exact (((Below.refl w.heap.size w).alloc (Nat.le_refl _) _).alloc (by simp) _)
  · simp [results, Tryz.results25, go_sem]

set_option maxHeartbeats 2000000 in
/-- All: the entries, by block, in a row of the call's own -/
theorem all_ct (w : World) (h : Ct w B G V) : Calls Tryz.prog 20 #[.pointer (some ⟨B.qB, 0, none⟩)] w fun e w' => ∃ a cap, e = .returned (.slice a (num G.nb V.e) cap) ∧ OwnE w.heap.size w' a cap (allV G.nb V.e) ∧ Below w.heap.size w w' := by
  have hnum : num G.nb V.e ≤ 32 := Nat.le_trans (cnt_le _ _) h.ok.nb
  obtain ⟨E, hmp, hv⟩ := h.mp
  have hkeys := h.keys hv
  have hmp0 := hmp
  obtain ⟨N, D, hown, hr⟩ := hmp0
  have hsz := size_num hown hr hkeys
  have hlen := allV_len G.nb V.e
  have hall := keysQ_all G.nb E
  have hkl := keysQ_len G.nb E
  rw [hv] at hsz hall hkl
  have HS : Hid (Calls Tryz.prog 46 #[.func (.func 67) #[] #[.pointer (some ⟨w.heap.size, 0, none⟩)]] (w.alloc (.cells #[.map (some B.mE)] 90)) fun e w' => ∃ aK cK, e = .returned (.slice aK (num G.nb V.e) cK) ∧ C.Row w' aK (num G.nb V.e) cK (C.i64s (keysQ G.nb E)) ∧ (∀ g o z, aK = some ⟨g, o, z⟩ → w.heap.size ≤ g) ∧ Below w.heap.size w w') := Lib.hid (by
    refine (sortedB_q w B.mE N D hown (by omega)).mono ?_
    rintro e w' ⟨v, ss, rfl, hp, hrow, hb⟩
    have e2 : ss.mergeSort (fun x y => decide (x ≤ y)) = keysQ G.nb E := (mergeSort_of_perm_i hp).trans (keysQ_sorted hown hr hkeys)
    have e3 : ss.length = num G.nb V.e := by rw [← hkl, ← e2, List.length_mergeSort]
    rw [e2, e3] at hrow
    have hl : (C.i64s (keysQ G.nb E)).length = num G.nb V.e := by rw [C.i64s_length, hkl]
    rcases hrow.2 with ⟨rfl, h0⟩ | ⟨g, c, cur, rfl, hB, hh, hn, hm, hs, ht⟩
    · rw [h0]
      refine ⟨none, 0, rfl, ⟨by rw [hl, h0], Nat.le_refl _, by simp [maxLen], .inl (List.eq_nil_of_length_eq_zero (by rw [hl, h0]))⟩, fun g o z hz => (by cases hz), hb⟩
    · refine ⟨some ⟨g, 0, none⟩, c, rfl, (C.own_row (e := 3) (B := w.heap.size) ⟨⟨by rw [Nat.mul_one]; exact hl, .inr ⟨g, c, cur, rfl, hB, hh, hn, hm, hs, ht⟩⟩, hl, by omega⟩).1, fun g' o z hz => ?_, hb⟩
      injection hz with hz
      injection hz with e1
      omega)
  have HC : Hid (∀ wx, Below w.heap.size w wx → CacheC wx B.qB B.lB G.N G.nb B.mE V.k ∧ MapQ wx B.mE E) := Lib.hid (fun wx hb => ⟨h.qc.but (But.of_below hb) (by simp), hmp.but (But.of_below hb) (by simp)⟩)
  have HM : Hid (∀ i x, (keysQ G.nb E)[i]? = some x → ∃ y : La, E x = some y ∧ (allV G.nb V.e)[i]? = some y.e ∧ 0 ≤ x ∧ x ≤ 1000) := Lib.hid (fun i x hi => by
    have hx := (mem_keysQ hkeys x).1 (List.mem_of_getElem? hi)
    obtain ⟨y, hy⟩ := Option.isSome_iff_exists.1 hx
    have hb := hkeys x y hy
    have hnb := h.ok.nb
    refine ⟨y, hy, ?_, by omega, by omega⟩
    rw [← hall, List.getElem?_map, hi]
    simp [entOf, hy])
  have p3 := h.qc.p3
  have HLen := Lib.hid hlen
  have hnI : (num G.nb V.e : Int) ≤ 32 := by omega
  have hn0 : (0 : Int) ≤ (num G.nb V.e : Int) := by omega
  have Hkl := Lib.hid hkl
  have Hn := Lib.hid hnum
  generalize num G.nb V.e = m at *
  generalize allV G.nb V.e = all at *
  generalize keysQ G.nb E = ks at *
  clear h hmp hv hown hr hkeys hsz hall hlen hkl hnum
  go_enter Tryz.func20, Tryz.ntmps20
  go_wp2_with (first
    | (go_at_call 47; with_reducible refine (keysB_q _ _).mono ?_; rintro e w' ⟨rfl, rfl⟩)
    | (go_at_call 46; with_reducible refine HS.out.mono ?_; rintro e w1 ⟨aK, cK, rfl, hrow, hgK, hb1⟩
       have HR := Lib.hid (And.intro hrow hgK)
       have HB1 := Lib.hid hb1
       clear hrow hgK hb1))
  go_loopw [3, 13] (fun sl i wr => ∃ (k : Nat) (a : Option Addr) (cap : Nat), k ≤ m ∧ sl = .slice a k cap ∧ i = .int .i64 k ∧ OwnE w1.heap.size wr a cap (all.take k) ∧ Below w1.heap.size w1 wr) (fun _ i _ => m - (RowKit.intOf i).toNat)
  case atStart => exact ⟨0, none, 0, by omega, rfl, rfl, by simpa using OwnE.nil w1.heap.size w1, Below.refl _ _⟩
  case round =>
    obtain ⟨k, a, cap, hk, rfl, rfl, hown, hb⟩ := hrel
    have HO := Lib.hid hown
    have HB := Lib.hid hb
    have HBw : Hid (Below w.heap.size w wr) := Lib.hid (HB1.out.trans (hb.mono HB1.out.size))
    clear hown hb p3
    by_cases hlt : k < m
    · have hltI : (k : Int) < (m : Int) := by omega
      obtain ⟨gK, oK, x, hg1, hg2, hg3, hg4⟩ := C.row_i64 HR.out.1 k hlt
      subst hg1
      obtain ⟨y, hy1, hy2, hy3, hy4⟩ := HM.out k x hg3
      have hx : wr.cell? ⟨gK, oK + k, none⟩ = some (.int .i64 x) := by rw [HB.out.cell (p := ⟨gK, oK + k, none⟩) hg2]; exact hg4
      have hcr := HC.out _ HBw.out
      have q3 := hcr.1.p3
      have hl := (mapq_look hcr.2 (i := x) (by omega) (by omega)).2
      rw [hy1] at hl
      obtain ⟨⟨xb, xp, xq, xd, xy, xc, xn⟩, xpos⟩ := y
      simp only [Option.getD_some, La.val] at hl
      have hbn := (Below.refl wr.heap.size wr).alloc (Nat.le_refl _) (.cells #[.int .i64 xb, .int .i64 xp, .int .i64 xq, .string xd, .bool xy, .int .i64 xc, .int .i64 xn] 37)
      have HO2 : Hid (OwnE w1.heap.size (wr.alloc (.cells #[.int .i64 xb, .int .i64 xp, .int .i64 xq, .string xd, .bool xy, .int .i64 xc, .int .i64 xn] 37)) a cap (all.take k)) := Lib.hid (HO.out.but (But.of_below hbn) (by simp))
      have HE2 : Hid (EAt (wr.alloc (.cells #[.int .i64 xb, .int .i64 xp, .int .i64 xq, .string xd, .bool xy, .int .i64 xc, .int .i64 xn] 37)) wr.heap.size 0 ⟨xb, xp, xq, xd, xy, xc, xn⟩) := Lib.hid (by
        refine ⟨?_, ?_, ?_, ?_, ?_, ?_, ?_⟩ <;> (rw [World.cell?_alloc_mark]; rfl))
      have HBa : Hid (Below w1.heap.size w1 (wr.alloc (.cells #[.int .i64 xb, .int .i64 xp, .int .i64 xq, .string xd, .bool xy, .int .i64 xc, .int .i64 xn] 37))) := Lib.hid (HB.out.alloc HB.out.size _)
      have HTk : Hid (all.take (k + 1) = all.take k ++ [⟨xb, xp, xq, xd, xy, xc, xn⟩]) := Lib.hid (by rw [List.take_add_one, hy2]; rfl)
      have HLk : Hid ((all.take k).length = k ∧ k < m) := Lib.hid ⟨by rw [List.length_take, HLen.out]; omega, hlt⟩
      clear hg2 hg3 hg4 hy1 hy2 hy3 hy4 hcr hbn hlt hk
      go_wp2_with (first
        | (refine wpList_field_laid _ rfl (.tmp 23) rfl ⟨⟨xb, xp, xq, xd, xy, xc, xn⟩, xpos⟩ rfl (.agg #[.int .i64 xb, .int .i64 xp, .int .i64 xq, .string xd, .bool xy, .int .i64 xc, .int .i64 xn]) rfl ?_)
        | (at_builtin
           refine wpList_append_ent _ rfl (.tmp 17) (.tmp 25) rfl w1.heap.size a k cap _ rfl HLk.out.1 HO2.out HBa.out.size _ 1 _ rfl HE2.out (by have := HLk.out.2; have := Hn.out; omega) ?_
           intro a2 cap2 w2 hown2 hb2
           have HO3 := Lib.hid hown2
           have HB3 : Hid (Below w1.heap.size w1 w2) := Lib.hid (HBa.out.trans hb2)
           clear hown2 hb2))
      go_roundw
      case rel => exact ⟨k + 1, a2, cap2, by have := HLk.out.2; omega, rfl, by go_num, by rw [HTk.out]; exact HO3.out, HB3.out⟩
      case measure => have := HLk.out.2; simp [RowKit.intOf]; omega
    · obtain rfl : k = m := by omega
      have hltI : ¬ (k : Int) < (k : Int) := by omega
      have hta : all.take k = all := List.take_of_length_le (by rw [HLen.out]; exact Nat.le_refl _)
      rw [hta] at HO
      have HF : Hid (OwnE w.heap.size wr a cap all) := Lib.hid (by
        have h1 := HO.out
        have h2 := HB1.out.size
        rcases h1.ways with ⟨rfl, rfl, h3⟩ | ⟨g, cur, rfl, hB, r1, r2, r3, r4, r5⟩
        · rw [h3]; exact OwnE.nil _ _
        · exact OwnE.mk' (by omega) r1 r2 r3 r4 r5 h1.2)
      clear hlt hk hta
      go_wp2_with fail
      go_ret
      exact ⟨a, cap, rfl, HF.out, HBw.out⟩
end Q
end Go.Proofs.YtmcalgnpinolmaaGreat
namespace Go.Proofs.YtmcalgnpinolmaaGreat
open Go.RowKit Go.Maps
set_option linter.unusedVariables false
set_option linter.unusedSimpArgs false
set_option maxRecDepth 20000
namespace Q
variable {w0 : World} {B : Bk} {G : Gm} {V V' : Vi} {K K' : Int}

noncomputable def doE (nb N : Nat) (V : Vi) (kind : Int) (e : En) (t : List Int) : Int :=
  if kind = 0 then putE nb N V e else if kind = 1 then cleanE V e.b e.ep e.sq else if kind = 2 then dropE V e.b else if kind = 3 then keepE e.ep e.sq t else if kind = 8 then keepE e.ep e.sq t else 0
noncomputable def doVi (nb N : Nat) (V : Vi) (kind : Int) (e : En) (t : List Int) : Vi :=
  if kind = 0 then putVi nb N V e else if kind = 1 then cleanVi V e.b e.ep e.sq else if kind = 2 then dropVi V e.b else if kind = 3 then noteVi V e.ep e.sq t else if kind = 8 then resetVi V e.ep e.sq t else V

def actV (kind n : Int) (e : En) (aT : Option Addr) (nT cT : Nat) (s : ByteArray) (aL : Option Addr) (nL cL : Nat) : Value :=
  .agg #[.int .i64 kind, .int .i64 n, .int .i64 e.b, .int .i64 e.ep, .int .i64 e.sq, .string e.data, .bool e.dirty, .int .i64 e.cl, .int .i64 e.n, .slice aT nT cT, .string s, .slice aL nL cL]

set_option maxHeartbeats 4000000 in
theorem do_cs (w : World) (h : Cs w B G V K) (hK : K ≤ 600000000) (kind n : Int) (e : En) (aT : Option Addr) (nT cT : Nat) (s : ByteArray) (aL : Option Addr) (nL cL : Nat) (t : List Int) (hr : C.Row w aT nT cT (C.i64s t)) (hb0 : -9223372036854775808 ≤ e.b) (hb1 : e.b ≤ 9223372036854775807) :
    Calls Tryz.prog 22 #[.pointer (some ⟨B.qB, 0, none⟩), actV kind n e aT nT cT s aL nL cL] w fun r w' => r = .returned (.int .i64 (doE G.nb G.N V kind e t)) ∧ After w B G (doVi G.nb G.N V kind e t) (K + 2002) w' := by
  obtain ⟨b, ep, sq, data, dirty, cl, en⟩ := e
  have hbw := (Below.refl w.heap.size w).alloc (Nat.le_refl _) (.cells #[.int .i64 kind, .int .i64 n, .int .i64 b, .int .i64 ep, .int .i64 sq, .string data, .bool dirty, .int .i64 cl, .int .i64 en, .slice aT nT cT, .string s, .slice aL nL cL] 41)
  have HB := Lib.hid hbw
  have H := Lib.hid (h.below hbw)
  have H0 := Lib.hid h
  have HRow := Lib.hid (C.row_below hr hbw (Nat.le_refl _))
  have HA : Hid (∀ (V' : Vi) w', After (w.alloc (.cells #[.int .i64 kind, .int .i64 n, .int .i64 b, .int .i64 ep, .int .i64 sq, .string data, .bool dirty, .int .i64 cl, .int .i64 en, .slice aT nT cT, .string s, .slice aL nL cL] 41)) B G V' (K + 2002) w' → After w B G V' (K + 2002) w') := Lib.hid (fun V' w' ⟨r, h1, h2, h3⟩ => After.from HB.out h1 h2 h3)
  unfold actV
  simp only at hb0 hb1 ⊢
  clear h hr hbw
  by_cases k0 : kind = 0
  · subst k0
    have hp := put_cs _ H.out hK ⟨b, ep, sq, data, dirty, cl, en⟩ hb0 hb1
    simp only [En.val] at hp
    have HP := Lib.hid hp
    clear hp
    go_enter Tryz.func22, Tryz.ntmps22
    go_wp2_with (go_at_call 23; with_reducible refine HP.out.mono ?_; rintro e w1 ⟨rfl, h1⟩; have H1 := Lib.hid (HA.out _ _ h1); clear h1)
    go_ret
    exact ⟨by simp [doE], by have := H1.out; simpa [doVi] using this⟩
  by_cases k1 : kind = 1
  · subst k1
    have HP := Lib.hid (clean_cs _ H.out hK b ep sq hb0 hb1)
    go_enter Tryz.func22, Tryz.ntmps22
    go_wp2_with (go_at_call 26; with_reducible refine HP.out.mono ?_; rintro e w1 ⟨rfl, h1⟩; have H1 := Lib.hid (HA.out _ _ h1); clear h1)
    go_ret
    exact ⟨by simp [doE], by have := H1.out; simpa [doVi] using this⟩
  by_cases k2 : kind = 2
  · subst k2
    have HP := Lib.hid (drop_cs _ H.out hK b hb0 hb1)
    go_enter Tryz.func22, Tryz.ntmps22
    go_wp2_with (go_at_call 37; with_reducible refine HP.out.mono ?_; rintro e w1 ⟨rfl, h1⟩; have H1 := Lib.hid (HA.out _ _ h1); clear h1)
    go_ret
    exact ⟨by simp [doE], by have := H1.out; simpa [doVi] using this⟩
  by_cases k3 : kind = 3
  · subst k3
    have HP := Lib.hid (note_cs _ H.out hK ep sq aT nT cT t HRow.out)
    go_enter Tryz.func22, Tryz.ntmps22
    go_wp2_with (go_at_call 32; with_reducible refine HP.out.mono ?_; rintro e w1 ⟨rfl, h1⟩; have H1 := Lib.hid (HA.out _ _ h1); clear h1)
    go_ret
    exact ⟨by simp [doE], by have := H1.out; simpa [doVi] using this⟩
  by_cases k8 : kind = 8
  · subst k8
    have HP := Lib.hid (reset_cs _ H.out hK ep sq aT nT cT t HRow.out)
    go_enter Tryz.func22, Tryz.ntmps22
    go_wp2_with (go_at_call 30; with_reducible refine HP.out.mono ?_; rintro e w1 ⟨rfl, h1⟩; have H1 := Lib.hid (HA.out _ _ h1); clear h1)
    go_ret
    exact ⟨by simp [doE], by have := H1.out; simpa [doVi] using this⟩
  have e1 : doE G.nb G.N V kind ⟨b, ep, sq, data, dirty, cl, en⟩ t = 0 := by unfold doE; rw [if_neg k0, if_neg k1, if_neg k2, if_neg k3, if_neg k8]
  have e2 : doVi G.nb G.N V kind ⟨b, ep, sq, data, dirty, cl, en⟩ t = V := by unfold doVi; rw [if_neg k0, if_neg k1, if_neg k2, if_neg k3, if_neg k8]
  rw [e1, e2]
  by_cases k4 : kind = 4
  · subst k4
    have HP := Lib.hid (Cs.sync _ H.out)
    clear e1 e2
    go_enter Tryz.func22, Tryz.ntmps22
    go_wp2_with (go_at_call 36; with_reducible refine HP.out.mono ?_; rintro e w1 ⟨rfl, ⟨z, g1, g2, g3, g4, g5, _⟩, g6⟩
                 have H1 := Lib.hid (HA.out V w1 ⟨B.rb, ⟨z, g1, g2, g3, by omega, g5⟩, .inl rfl, g6.mono (by simp [Bk.l])⟩)
                 clear g1 g2 g3 g4 g5 g6)
    go_ret
    exact ⟨rfl, H1.out⟩
  · clear e1 e2
    go_enter Tryz.func22, Tryz.ntmps22
    go_wp2_with fail
    go_ret
    exact ⟨rfl, HA.out V _ (After.same H.out (Below.refl _ _) (by omega))⟩
end Q
end Go.Proofs.YtmcalgnpinolmaaGreat
namespace Go.Proofs.YtmcalgnpinolmaaGreat
open Go.RowKit Go.Maps
set_option linter.unusedVariables false
set_option linter.unusedSimpArgs false
set_option maxRecDepth 20000
namespace Q
variable {w0 : World} {B : Bk} {G : Gm} {V V' : Vi} {K K' : Int}

structure TAt (w : World) (P : Nat) (sl : Value) (ep sq t0 t1 t2 t3 : Int) : Prop where
  c0 : w.cell? ⟨P, 0, none⟩ = some sl
  c1 : w.cell? ⟨P, 1, none⟩ = some (.int .i64 ep)
  c2 : w.cell? ⟨P, 2, none⟩ = some (.int .i64 sq)
  c3 : w.cell? ⟨P, 3, none⟩ = some (.int .i64 t0)
  c4 : w.cell? ⟨P, 4, none⟩ = some (.int .i64 t1)
  c5 : w.cell? ⟨P, 5, none⟩ = some (.int .i64 t2)
  c6 : w.cell? ⟨P, 6, none⟩ = some (.int .i64 t3)
  fz : ∀ o, w.frozen? ⟨P, o, none⟩ = false
theorem TAt.of {w : World} {P : Nat} {T : TypeId} {sl : Value} {ep sq t0 t1 t2 t3 : Int} (h : w.heap[P]? = some (.cells #[sl, .int .i64 ep, .int .i64 sq, .int .i64 t0, .int .i64 t1, .int .i64 t2, .int .i64 t3] T (0, 0))) : TAt w P sl ep sq t0 t1 t2 t3 := by
  obtain ⟨m0, m1, m2, m3, m4, m5, m6, fz, _⟩ := seven h
  exact ⟨m0, m1, m2, m3, m4, m5, m6, fz⟩
variable {w : World} {P : Nat} {sl : Value} {ep sq t0 t1 t2 t3 : Int}
theorem TAt.set3 (h : TAt w P sl ep sq t0 t1 t2 t3) (v : Int) : TAt (w.setCell ⟨P, 3, none⟩ (.int .i64 v)) P sl ep sq v t1 t2 t3 :=
  ⟨by rw [World.cell?_setCell_other _ _ _ _ (by simp)]; exact h.c0, by rw [World.cell?_setCell_other _ _ _ _ (by simp)]; exact h.c1, by rw [World.cell?_setCell_other _ _ _ _ (by simp)]; exact h.c2, World.cell?_setCell_same _ _ _ h.c3, by rw [World.cell?_setCell_other _ _ _ _ (by simp)]; exact h.c4, by rw [World.cell?_setCell_other _ _ _ _ (by simp)]; exact h.c5, by rw [World.cell?_setCell_other _ _ _ _ (by simp)]; exact h.c6, fun o => by rw [World.frozen?_setCell]; exact h.fz o⟩
theorem TAt.set4 (h : TAt w P sl ep sq t0 t1 t2 t3) (v : Int) : TAt (w.setCell ⟨P, 4, none⟩ (.int .i64 v)) P sl ep sq t0 v t2 t3 :=
  ⟨by rw [World.cell?_setCell_other _ _ _ _ (by simp)]; exact h.c0, by rw [World.cell?_setCell_other _ _ _ _ (by simp)]; exact h.c1, by rw [World.cell?_setCell_other _ _ _ _ (by simp)]; exact h.c2, by rw [World.cell?_setCell_other _ _ _ _ (by simp)]; exact h.c3, World.cell?_setCell_same _ _ _ h.c4, by rw [World.cell?_setCell_other _ _ _ _ (by simp)]; exact h.c5, by rw [World.cell?_setCell_other _ _ _ _ (by simp)]; exact h.c6, fun o => by rw [World.frozen?_setCell]; exact h.fz o⟩
theorem TAt.set5 (h : TAt w P sl ep sq t0 t1 t2 t3) (v : Int) : TAt (w.setCell ⟨P, 5, none⟩ (.int .i64 v)) P sl ep sq t0 t1 v t3 :=
  ⟨by rw [World.cell?_setCell_other _ _ _ _ (by simp)]; exact h.c0, by rw [World.cell?_setCell_other _ _ _ _ (by simp)]; exact h.c1, by rw [World.cell?_setCell_other _ _ _ _ (by simp)]; exact h.c2, by rw [World.cell?_setCell_other _ _ _ _ (by simp)]; exact h.c3, by rw [World.cell?_setCell_other _ _ _ _ (by simp)]; exact h.c4, World.cell?_setCell_same _ _ _ h.c5, by rw [World.cell?_setCell_other _ _ _ _ (by simp)]; exact h.c6, fun o => by rw [World.frozen?_setCell]; exact h.fz o⟩
theorem TAt.set6 (h : TAt w P sl ep sq t0 t1 t2 t3) (v : Int) : TAt (w.setCell ⟨P, 6, none⟩ (.int .i64 v)) P sl ep sq t0 t1 t2 v :=
  ⟨by rw [World.cell?_setCell_other _ _ _ _ (by simp)]; exact h.c0, by rw [World.cell?_setCell_other _ _ _ _ (by simp)]; exact h.c1, by rw [World.cell?_setCell_other _ _ _ _ (by simp)]; exact h.c2, by rw [World.cell?_setCell_other _ _ _ _ (by simp)]; exact h.c3, by rw [World.cell?_setCell_other _ _ _ _ (by simp)]; exact h.c4, by rw [World.cell?_setCell_other _ _ _ _ (by simp)]; exact h.c5, World.cell?_setCell_same _ _ _ h.c6, fun o => by rw [World.frozen?_setCell]; exact h.fz o⟩

def toldV (a : Option Addr) (n cap : Nat) (k : Kp) : Value := .agg #[.slice a n cap, .int .i64 k.ep, .int .i64 k.sq, .int .i64 k.t0, .int .i64 k.t1, .int .i64 k.t2, .int .i64 k.t3]
def upto (k i : Nat) (x : Int) : Int := if i < k then x else 0

theorem OwnE.base {B0 B1 : Nat} {w : World} {a : Option Addr} {cap : Nat} {l : List En} (h : OwnE B0 w a cap l) (hb : B1 ≤ B0) : OwnE B1 w a cap l := by
  have h2 := h.2
  rcases h.ways with ⟨rfl, rfl, rfl⟩ | ⟨g, cur, rfl, h1, h3, h4, h5, h6, h7⟩
  · exact OwnE.nil _ _
  · exact OwnE.mk' (by omega) h3 h4 h5 h6 h7 h2
theorem ret_told {fn : Func} (hres : fn.results = #[.cell 2 33]) {R : Ending → World → Prop} {a : Act} {w : World} {b : Nat} {v0 v1 v2 v3 v4 v5 v6 : Value} (h2 : a.tmps.getD 2 undef = .pointer (some ⟨b, 0, none⟩)) (hd : a.defers = []) (hrow : w.rangeAt b 0 [v0, v1, v2, v3, v4, v5, v6])
    (hR : R (.returned (.agg #[v0, v1, v2, v3, v4, v5, v6])) w) : bodyPost Tryz.prog fn R .ret a w := by
  have k0 : w.cell? ⟨b, 0, none⟩ = _ := hrow 0 _ rfl
  have k1 : w.cell? ⟨b, 1, none⟩ = _ := hrow 1 _ rfl
  have k2 : w.cell? ⟨b, 2, none⟩ = _ := hrow 2 _ rfl
  have k3 : w.cell? ⟨b, 3, none⟩ = _ := hrow 3 _ rfl
  have k4 : w.cell? ⟨b, 4, none⟩ = _ := hrow 4 _ rfl
  have k5 : w.cell? ⟨b, 5, none⟩ = _ := hrow 5 _ rfl
  have k6 : w.cell? ⟨b, 6, none⟩ = _ := hrow 6 _ rfl
  simp only [Array.getD_eq_getD_getElem?] at h2
  refine bodyPost_ret_by ?_ hd hR
  simp [results, hres, h2, go_sem, k0, k1, k2, k3, k4, k5, k6]

set_option maxHeartbeats 2000000 in
theorem told_ct (w : World) (h : Ct w B G V) : Calls Tryz.prog 13 #[.pointer (some ⟨B.qB, 0, none⟩)] w fun e w' => ∃ a cap, e = .returned (toldV a (num G.nb V.e) cap V.k) ∧ OwnE w.heap.size w' a cap (allV G.nb V.e) ∧ Below w.heap.size w w' := by
  have hbz := (Below.refl w.heap.size w).alloc (Nat.le_refl _) (.cells #[.slice none 0 0, .int .i64 0, .int .i64 0, .int .i64 0, .int .i64 0, .int .i64 0, .int .i64 0] 33)
  have HBz := Lib.hid hbz
  have hz := heap_alloc_new w (.cells #[.slice none 0 0, .int .i64 0, .int .i64 0, .int .i64 0, .int .i64 0, .int .i64 0, .int .i64 0] 33)
  have HZ := Lib.hid hz
  have HC := Lib.hid (fun w' (hb : Below w.heap.size w w') => h.below hb)
  have HAll := Lib.hid (all_ct _ (h.below hbz))
  clear h hbz hz
  go_enter Tryz.func13, Tryz.ntmps13
  go_wp2_with (first
    | (go_at_call 20; with_reducible refine HAll.out.mono ?_; rintro e w1 ⟨a, cap, rfl, ho, hb1⟩
       have HB1 : Hid (Below w.heap.size w w1) := Lib.hid (HBz.out.trans (hb1.mono HBz.out.size))
       have HO1 := Lib.hid (And.intro ho hb1)
       have HLa := Lib.hid (last_ct w1 (HC.out w1 HB1.out))
       clear ho hb1)
    | (go_at_call 28; with_reducible refine HLa.out.mono ?_; rintro e w2 ⟨rfl, hb2⟩
       have HB2 := Lib.hid hb2
       clear hb2))
  have HT0 : Hid (TAt (w2.alloc (.cells #[.slice a (num G.nb V.e) cap, .int .i64 V.k.ep, .int .i64 V.k.sq, .int .i64 0, .int .i64 0, .int .i64 0, .int .i64 0] 33)) w2.heap.size (.slice a (num G.nb V.e) cap) V.k.ep V.k.sq 0 0 0 0) := Lib.hid (TAt.of (heap_alloc_new w2 _))
  have HB12 : Hid (Below w1.heap.size w1 (w2.alloc (.cells #[.slice a (num G.nb V.e) cap, .int .i64 V.k.ep, .int .i64 V.k.sq, .int .i64 0, .int .i64 0, .int .i64 0, .int .i64 0] 33))) := Lib.hid (HB2.out.alloc HB2.out.size _)
  have HBw : Hid (Below w.heap.size w (w2.alloc (.cells #[.slice a (num G.nb V.e) cap, .int .i64 V.k.ep, .int .i64 V.k.sq, .int .i64 0, .int .i64 0, .int .i64 0, .int .i64 0] 33))) := Lib.hid (HB1.out.trans (HB12.out.mono HB1.out.size))
  have HP : Hid (w.heap.size < w1.heap.size ∧ w1.heap.size ≤ w2.heap.size) := Lib.hid ⟨by have := HO1.out.2.size; simp at this; omega, HB2.out.size⟩
  clear HAll HLa
  go_loopw [10] (fun i wr => ∃ k : Nat, k ≤ 4 ∧ i = .int .i64 k ∧ TAt wr w2.heap.size (.slice a (num G.nb V.e) cap) V.k.ep V.k.sq (upto k 0 V.k.t0) (upto k 1 V.k.t1) (upto k 2 V.k.t2) (upto k 3 V.k.t3) ∧ But [w2.heap.size] (w2.alloc (.cells #[.slice a (num G.nb V.e) cap, .int .i64 V.k.ep, .int .i64 V.k.sq, .int .i64 0, .int .i64 0, .int .i64 0, .int .i64 0] 33)) wr) (fun i _ => 4 - (RowKit.intOf i).toNat)
  case atStart => exact ⟨0, by omega, rfl, HT0.out, But.refl _ _⟩
  case round =>
    obtain ⟨k, hk, rfl, hT, hB⟩ := hrel
    have HT := Lib.hid hT
    have HB := Lib.hid hB
    have HBr : Hid (Below w.heap.size w wr) := Lib.hid (HBw.out.trans (hB.to_below (by intro x hx; simp at hx; subst hx; have := HP.out; omega) HBw.out.size))
    have hcs := HC.out wr HBr.out
    clear hT hB
    by_cases hkl : k < 4
    · rcases (by omega : k = 0 ∨ k = 1 ∨ k = 2 ∨ k = 3) with rfl | rfl | rfl | rfl
      · have hnu := number_ct wr hcs 0
        rw [show V.k.get 0 = V.k.t0 from rfl] at hnu
        have HN := Lib.hid hnu
        obtain ⟨c0, c1, c2, c3, c4, c5, c6, fz⟩ := HT.out
        clear hnu hcs hkl hk
        go_wp2_with (go_at_call 27; with_reducible refine HN.out.mono ?_; rintro e w4 ⟨rfl, rfl⟩)
        go_roundw
        case rel => exact ⟨1, by omega, by first | rfl | go_num, HT.out.set3 _, HB.out.set _ (.inl (by simp))⟩
        case measure => simp [RowKit.intOf]
      · have hnu := number_ct wr hcs 1
        rw [show V.k.get 1 = V.k.t1 from rfl] at hnu
        have HN := Lib.hid hnu
        obtain ⟨c0, c1, c2, c3, c4, c5, c6, fz⟩ := HT.out
        clear hnu hcs hkl hk
        go_wp2_with (go_at_call 27; with_reducible refine HN.out.mono ?_; rintro e w4 ⟨rfl, rfl⟩)
        go_roundw
        case rel => exact ⟨2, by omega, by first | rfl | go_num, HT.out.set4 _, HB.out.set _ (.inl (by simp))⟩
        case measure => simp [RowKit.intOf]
      · have hnu := number_ct wr hcs 2
        rw [show V.k.get 2 = V.k.t2 from rfl] at hnu
        have HN := Lib.hid hnu
        obtain ⟨c0, c1, c2, c3, c4, c5, c6, fz⟩ := HT.out
        clear hnu hcs hkl hk
        go_wp2_with (go_at_call 27; with_reducible refine HN.out.mono ?_; rintro e w4 ⟨rfl, rfl⟩)
        go_roundw
        case rel => exact ⟨3, by omega, by first | rfl | go_num, HT.out.set5 _, HB.out.set _ (.inl (by simp))⟩
        case measure => simp [RowKit.intOf]
      · have hnu := number_ct wr hcs 3
        rw [show V.k.get 3 = V.k.t3 from rfl] at hnu
        have HN := Lib.hid hnu
        obtain ⟨c0, c1, c2, c3, c4, c5, c6, fz⟩ := HT.out
        clear hnu hcs hkl hk
        go_wp2_with (go_at_call 27; with_reducible refine HN.out.mono ?_; rintro e w4 ⟨rfl, rfl⟩)
        go_roundw
        case rel => exact ⟨4, by omega, by first | rfl | go_num, HT.out.set6 _, HB.out.set _ (.inl (by simp))⟩
        case measure => simp [RowKit.intOf]
    · obtain rfl : k = 4 := by omega
      have hT := HT.out
      rw [show upto 4 0 V.k.t0 = V.k.t0 from rfl, show upto 4 1 V.k.t1 = V.k.t1 from rfl, show upto 4 2 V.k.t2 = V.k.t2 from rfl, show upto 4 3 V.k.t3 = V.k.t3 from rfl] at hT
      obtain ⟨c0, c1, c2, c3, c4, c5, c6, fz⟩ := hT
      have hz : wr.heap[w.heap.size]? = some (.cells #[.slice none 0 0, .int .i64 0, .int .i64 0, .int .i64 0, .int .i64 0, .int .i64 0, .int .i64 0] 33 (0, 0)) := by
        rw [HB.out.block w.heap.size (by have := HP.out; simp; omega) (by have := HP.out; simp; omega), HB12.out.block w.heap.size HP.out.1, HO1.out.2.block w.heap.size (by simp)]
        exact HZ.out
      obtain ⟨m0, m1, m2, m3, m4, m5, m6, fz2, ht⟩ := seven hz
      have HT7 := Lib.hid ht
      have HOw : Hid (OwnE w.heap.size (wr.setCells w.heap.size 0 [.slice a (num G.nb V.e) cap, .int .i64 V.k.ep, .int .i64 V.k.sq, .int .i64 V.k.t0, .int .i64 V.k.t1, .int .i64 V.k.t2, .int .i64 V.k.t3]) a cap (allV G.nb V.e)) := Lib.hid (by
        have o1 := HO1.out.1
        have o2 := o1.but ((((But.of_below HB12.out).mono (by simp)).trans (HB.out.mono (by simp))).trans ((But.refl [w.heap.size, w2.heap.size] wr).sets w.heap.size 0 [.slice a (num G.nb V.e) cap, .int .i64 V.k.ep, .int .i64 V.k.sq, .int .i64 V.k.t0, .int .i64 V.k.t1, .int .i64 V.k.t2, .int .i64 V.k.t3] (.inl (by simp)))) (fun g hg => by
          have := o1.lt hg
          have := HP.out
          simp at *
          omega)
        exact o2.base (by simp))
      clear ht hz hcs hkl hk
      go_wp2_with fail
      refine ret_told rfl rfl rfl (World.rangeAt_setCells_same wr w.heap.size 0 [.slice a (num G.nb V.e) cap, .int .i64 V.k.ep, .int .i64 V.k.sq, .int .i64 V.k.t0, .int .i64 V.k.t1, .int .i64 V.k.t2, .int .i64 V.k.t3] HT7.out) ⟨a, cap, rfl, HOw.out, ?_⟩
      exact HBr.out.trans (((But.refl [w.heap.size] wr).sets w.heap.size 0 [.slice a (num G.nb V.e) cap, .int .i64 V.k.ep, .int .i64 V.k.sq, .int .i64 V.k.t0, .int .i64 V.k.t1, .int .i64 V.k.t2, .int .i64 V.k.t3] (.inl (by simp))).to_below (by simp) HBr.out.size)

theorem told_cs (w : World) (h : Cs w B G V K) : Calls Tryz.prog 13 #[.pointer (some ⟨B.qB, 0, none⟩)] w fun e w' => ∃ a cap, e = .returned (toldV a (num G.nb V.e) cap V.k) ∧ OwnE w.heap.size w' a cap (allV G.nb V.e) ∧ Below w.heap.size w w' := told_ct w h.ct
end Q
end Go.Proofs.YtmcalgnpinolmaaGreat
namespace Go.Proofs.YtmcalgnpinolmaaGreat
open Go.RowKit Go.Maps
set_option linter.unusedVariables false
set_option linter.unusedSimpArgs false
set_option maxRecDepth 20000
namespace Q
variable {w0 : World} {B : Bk} {G : Gm} {V V' : Vi} {K K' : Int}

set_option maxHeartbeats 2000000 in
theorem same_q (w : World) (a a' : Option Addr) (n c c' B0 B1 : Nat) (l : List En) (hl : l.length = n) (h : OwnE B0 w a c l) (h' : OwnE B1 w a' c' l) :
    Calls Tryz.prog 31 #[.slice a n c, .slice a' n c'] w fun e w' => e = .returned (.bool true) ∧ ∃ j, w' = w.drewN j := by
  subst hl
  have H := Lib.hid h
  have H' := Lib.hid h'
  have hl6 := h.2
  have hnI : (l.length : Int) ≤ 1000 := by omega
  have hn0 : (0 : Int) ≤ (l.length : Int) := by omega
  clear h h' hl6
  go_enter Tryz.func31, Tryz.ntmps31
  go_wp2_with fail
  go_loopw [13] (fun i wr => ∃ (k q : Nat), k ≤ l.length ∧ i = .int .i64 k ∧ wr = w.drewN q) (fun i _ => l.length - (RowKit.intOf i).toNat)
  case atStart => exact ⟨0, 0, by omega, rfl, rfl⟩
  case round =>
    obtain ⟨k, q, hk, rfl, rfl⟩ := hrel
    by_cases hlt : k < l.length
    · have hltI : (k : Int) < (l.length : Int) := by omega
      obtain ⟨x, hx⟩ : ∃ x, l[k]? = some x := ⟨_, List.getElem?_eq_getElem hlt⟩
      obtain ⟨g, rfl, _, _, hc⟩ := H.out.cell hx
      obtain ⟨g', rfl, _, _, hc'⟩ := H'.out.cell hx
      have hb := below_drewN w.heap.size w q
      obtain ⟨c0, c1, c2, c3, c4, c5, c6⟩ := hc.but (But.of_below hb) (by simp)
      obtain ⟨d0, d1, d2, d3, d4, d5, d6⟩ := hc'.but (But.of_below hb) (by simp)
      obtain ⟨xb, xp, xq, xd, xy, xc, xn⟩ := x
      simp only at c0 c1 c2 c3 c4 c5 c6 d0 d1 d2 d3 d4 d5 d6
      have Hlt := Lib.hid hlt
      have HD : Hid (∀ j, (w.drewN q).drewN j = w.drewN (q + j)) := Lib.hid fun j => by simp [World.drewN, Nat.add_assoc]
      clear hlt hc hc' hb hx
      generalize w.drewN q = w1 at *
      go_wp2_with fail
      go_quiet (fail)
      go_wp2_with fail
      go_roundw
      case rel => exact ⟨k + 1, q + nq, by have := Hlt.out; omega, by go_num, HD.out _⟩
      case measure => have := Hlt.out; simp [RowKit.intOf]; omega
    · have hltI : ¬ (k : Int) < (l.length : Int) := by omega
      clear hlt
      go_wp2_with fail
      go_ret
      exact ⟨rfl, q, rfl⟩

/-- rows of four numbers, compared -/
theorem eq4 (a b c d a' b' c' d' : Int) (w : World) : (Op.equalIn 10000 31 (.agg #[.int .i64 a, .int .i64 b, .int .i64 c, .int .i64 d]) (.agg #[.int .i64 a', .int .i64 b', .int .i64 c', .int .i64 d'])).run Tryz.prog w = .ok (a == a' && b == b' && c == c' && d == d') w := by
  have u3 := Tryz.underlying2
  have a3 := Tryz.isAgg2
  have z3 := Tryz.sizeOf2
  rw [show (10000 : Nat) = 9999 + 1 from rfl, Op.equalIn]
  simp only [Sem.run_bind, run_underlying Tryz.underlying31, Result.andThen_ok]
  simp only [Std.Legacy.Range.forIn_eq_forIn_range', Std.Legacy.Range.size, Nat.sub_zero, Nat.add_sub_cancel, Nat.div_one, List.range'_succ, List.range'_zero, List.forIn_cons, List.forIn_nil]
  go_simp
  by_cases h1 : a = a' <;> by_cases h2 : b = b' <;> by_cases h3 : c = c' <;> by_cases h4 : d = d' <;> simp [h1, h2, h3, h4]

set_option maxHeartbeats 2000000 in
theorem alike_q (w : World) (a a' : Option Addr) (n c c' B0 B1 : Nat) (l : List En) (k : Kp) (hl : l.length = n) (h : OwnE B0 w a c l) (h' : OwnE B1 w a' c' l) :
    Calls Tryz.prog 18 #[toldV a n c k, toldV a' n c' k] w fun e w' => e = .returned (.bool true) ∧ Below w.heap.size w w' := by
  have hbw : Below w.heap.size w ((w.alloc (.cells #[.slice a n c, .int .i64 k.ep, .int .i64 k.sq, .int .i64 k.t0, .int .i64 k.t1, .int .i64 k.t2, .int .i64 k.t3] 33)).alloc (.cells #[.slice a' n c', .int .i64 k.ep, .int .i64 k.sq, .int .i64 k.t0, .int .i64 k.t1, .int .i64 k.t2, .int .i64 k.t3] 33)) := ((Below.refl _ _).alloc (Nat.le_refl _) _).alloc (by simp) _
  have HB := Lib.hid hbw
  have HS := Lib.hid (same_q ((w.alloc (.cells #[.slice a n c, .int .i64 k.ep, .int .i64 k.sq, .int .i64 k.t0, .int .i64 k.t1, .int .i64 k.t2, .int .i64 k.t3] 33)).alloc (.cells #[.slice a' n c', .int .i64 k.ep, .int .i64 k.sq, .int .i64 k.t0, .int .i64 k.t1, .int .i64 k.t2, .int .i64 k.t3] 33)) a a' n c c' B0 B1 l hl (h.but (But.of_below hbw) (by simp)) (h'.but (But.of_below hbw) (by simp)))
  have HX : Hid (∀ q, TAt (((w.alloc (.cells #[.slice a n c, .int .i64 k.ep, .int .i64 k.sq, .int .i64 k.t0, .int .i64 k.t1, .int .i64 k.t2, .int .i64 k.t3] 33)).alloc (.cells #[.slice a' n c', .int .i64 k.ep, .int .i64 k.sq, .int .i64 k.t0, .int .i64 k.t1, .int .i64 k.t2, .int .i64 k.t3] 33)).drewN q) w.heap.size (.slice a n c) k.ep k.sq k.t0 k.t1 k.t2 k.t3 ∧ TAt (((w.alloc (.cells #[.slice a n c, .int .i64 k.ep, .int .i64 k.sq, .int .i64 k.t0, .int .i64 k.t1, .int .i64 k.t2, .int .i64 k.t3] 33)).alloc (.cells #[.slice a' n c', .int .i64 k.ep, .int .i64 k.sq, .int .i64 k.t0, .int .i64 k.t1, .int .i64 k.t2, .int .i64 k.t3] 33)).drewN q) (w.heap.size + 1) (.slice a' n c') k.ep k.sq k.t0 k.t1 k.t2 k.t3) := Lib.hid (fun q => by
    have h1 := heap_alloc_new w (.cells #[.slice a n c, .int .i64 k.ep, .int .i64 k.sq, .int .i64 k.t0, .int .i64 k.t1, .int .i64 k.t2, .int .i64 k.t3] 33)
    have h2 := heap_alloc_new (w.alloc (.cells #[.slice a n c, .int .i64 k.ep, .int .i64 k.sq, .int .i64 k.t0, .int .i64 k.t1, .int .i64 k.t2, .int .i64 k.t3] 33)) (.cells #[.slice a' n c', .int .i64 k.ep, .int .i64 k.sq, .int .i64 k.t0, .int .i64 k.t1, .int .i64 k.t2, .int .i64 k.t3] 33)
    rw [show (w.alloc (.cells #[.slice a n c, .int .i64 k.ep, .int .i64 k.sq, .int .i64 k.t0, .int .i64 k.t1, .int .i64 k.t2, .int .i64 k.t3] 33)).heap.size = w.heap.size + 1 by simp] at h2
    have h3 : ((w.alloc (.cells #[.slice a n c, .int .i64 k.ep, .int .i64 k.sq, .int .i64 k.t0, .int .i64 k.t1, .int .i64 k.t2, .int .i64 k.t3] 33)).alloc (.cells #[.slice a' n c', .int .i64 k.ep, .int .i64 k.sq, .int .i64 k.t0, .int .i64 k.t1, .int .i64 k.t2, .int .i64 k.t3] 33)).heap[w.heap.size]? = _ := (Below.heap_alloc _ _ _ (lt_of_heap h1)).trans h1
    exact ⟨TAt.of h3, TAt.of h2⟩)
  have he := eq4 k.t0 k.t1 k.t2 k.t3 k.t0 k.t1 k.t2 k.t3
  simp only [beq_self_eq_true, Bool.and_self] at he
  unfold toldV
  clear h h' hl hbw
  go_enter Tryz.func18, Tryz.ntmps18
  go_wp2_with (go_at_call 31; with_reducible refine HS.out.mono ?_; rintro e w1 ⟨rfl, q, rfl⟩
               obtain ⟨⟨c0, c1, c2, c3, c4, c5, c6, f1⟩, ⟨d0, d1, d2, d3, d4, d5, d6, f2⟩⟩ := HX.out q
               have HB1 := Lib.hid (HB.out.trans ((below_drewN w.heap.size ((w.alloc (.cells #[.slice a n c, .int .i64 k.ep, .int .i64 k.sq, .int .i64 k.t0, .int .i64 k.t1, .int .i64 k.t2, .int .i64 k.t3] 33)).alloc (.cells #[.slice a' n c', .int .i64 k.ep, .int .i64 k.sq, .int .i64 k.t0, .int .i64 k.t1, .int .i64 k.t2, .int .i64 k.t3] 33)) q)))
               generalize ((w.alloc (.cells #[.slice a n c, .int .i64 k.ep, .int .i64 k.sq, .int .i64 k.t0, .int .i64 k.t1, .int .i64 k.t2, .int .i64 k.t3] 33)).alloc (.cells #[.slice a' n c', .int .i64 k.ep, .int .i64 k.sq, .int .i64 k.t0, .int .i64 k.t1, .int .i64 k.t2, .int .i64 k.t3] 33)).drewN q = w1 at *)
  go_ret
  exact ⟨rfl, HB1.out⟩
end Q
end Go.Proofs.YtmcalgnpinolmaaGreat
namespace Go.Proofs.YtmcalgnpinolmaaGreat
open Go.RowKit Go.Maps
set_option linter.unusedVariables false
set_option linter.unusedSimpArgs false
set_option maxRecDepth 20000
namespace Q

def Lrg (e : En) (nT : Nat) (s : ByteArray) (nL : Nat) : Prop := 1000 < s.size ∨ 600 < nL ∨ 1000 < e.data.size ∨ 100 < nT
instance (e : En) (nT : Nat) (s : ByteArray) (nL : Nat) : Decidable (Lrg e nT s nL) := by unfold Lrg; infer_instance

set_option maxHeartbeats 4000000 in
theorem large_q (w : World) (kind n : Int) (e : En) (aT : Option Addr) (nT cT : Nat) (s : ByteArray) (aL : Option Addr) (nL cL : Nat) :
    Calls Tryz.prog 14 #[actV kind n e aT nT cT s aL nL cL] w fun r w' => r = .returned (.bool (decide (Lrg e nT s nL))) ∧ Below w.heap.size w w' := by
  obtain ⟨b, ep, sq, data, dirty, cl, en⟩ := e
  have HB := Lib.hid ((Below.refl w.heap.size w).alloc (Nat.le_refl _) (.cells #[.int .i64 kind, .int .i64 n, .int .i64 b, .int .i64 ep, .int .i64 sq, .string data, .bool dirty, .int .i64 cl, .int .i64 en, .slice aT nT cT, .string s, .slice aL nL cL] 41))
  unfold actV
  simp only
  by_cases h1 : 1000 < s.size
  · have e1 : decide (Lrg ⟨b, ep, sq, data, dirty, cl, en⟩ nT s nL) = true := decide_eq_true (.inl h1)
    rw [e1]
    have i1 : (1000 : Int) < (s.size : Int) := by omega
    clear e1
    go_enter Tryz.func14, Tryz.ntmps14
    go_wp2_with fail
    go_ret
    exact ⟨rfl, HB.out⟩
  have i1 : ¬ (1000 : Int) < (s.size : Int) := by omega
  by_cases h2 : 600 < nL
  · have e1 : decide (Lrg ⟨b, ep, sq, data, dirty, cl, en⟩ nT s nL) = true := decide_eq_true (.inr (.inl h2))
    rw [e1]
    have i2 : (600 : Int) < (nL : Int) := by omega
    clear e1
    go_enter Tryz.func14, Tryz.ntmps14
    go_wp2_with fail
    go_ret
    exact ⟨rfl, HB.out⟩
  have i2 : ¬ (600 : Int) < (nL : Int) := by omega
  by_cases h3 : 1000 < data.size
  · have e1 : decide (Lrg ⟨b, ep, sq, data, dirty, cl, en⟩ nT s nL) = true := decide_eq_true (.inr (.inr (.inl h3)))
    rw [e1]
    have i3 : (1000 : Int) < (data.size : Int) := by omega
    clear e1
    go_enter Tryz.func14, Tryz.ntmps14
    go_wp2_with fail
    go_ret
    exact ⟨rfl, HB.out⟩
  have i3 : ¬ (1000 : Int) < (data.size : Int) := by omega
  by_cases h4 : 100 < nT
  · have e1 : decide (Lrg ⟨b, ep, sq, data, dirty, cl, en⟩ nT s nL) = true := decide_eq_true (.inr (.inr (.inr h4)))
    rw [e1]
    have i4 : (100 : Int) < (nT : Int) := by omega
    clear e1
    go_enter Tryz.func14, Tryz.ntmps14
    go_wp2_with fail
    go_ret
    exact ⟨rfl, HB.out⟩
  · have e1 : decide (Lrg ⟨b, ep, sq, data, dirty, cl, en⟩ nT s nL) = false := decide_eq_false (fun h => by unfold Lrg at h; simp only at h; omega)
    rw [e1]
    have i4 : ¬ (100 : Int) < (nT : Int) := by omega
    clear e1
    go_enter Tryz.func14, Tryz.ntmps14
    go_wp2_with fail
    go_ret
    exact ⟨rfl, HB.out⟩
end Q
end Go.Proofs.YtmcalgnpinolmaaGreat
namespace Go.Proofs.YtmcalgnpinolmaaGreat
open Go.ChangeShapes Go.WideShapes Go.ChangeAt Go.RowKit Go.Joins Go.Deep
set_option linter.unusedVariables false
set_option linter.unusedSimpArgs false
set_option maxRecDepth 20000
namespace Q

/-- an act, with where its parts lie -/
structure Ac where
  kind : Int
  n : Int
  e : En
  aT : Option Addr
  nT : Nat
  cT : Nat
  t : List Int
  s : ByteArray
  aL : Option Addr
  nL : Nat
  cL : Nat
  l : List (Int × Int)

instance : Inhabited Ac := ⟨⟨0, 0, zeroE, none, 0, 0, [], ⟨#[]⟩, none, 0, 0, []⟩⟩
def Ac.val (x : Ac) : Value := actV x.kind x.n x.e x.aT x.nT x.cT x.s x.aL x.nL x.cL
def Ac.cells (x : Ac) : List Value := [.int .i64 x.kind, .int .i64 x.n, .int .i64 x.e.b, .int .i64 x.e.ep, .int .i64 x.e.sq, .string x.e.data, .bool x.e.dirty, .int .i64 x.e.cl, .int .i64 x.e.n, .slice x.aT x.nT x.cT, .string x.s, .slice x.aL x.nL x.cL]

structure Ac.Ok (w : World) (x : Ac) : Prop where
  tt : C.Row w x.aT x.nT x.cT (C.i64s x.t)
  ll : KRow w x.aL x.nL x.cL x.l
  b1 : -9223372036854775808 ≤ x.e.b
  b2 : x.e.b ≤ 9223372036854775807

section
variable {H : Type} {enc : TypeId × Value → H} {W : World}

theorem open_i64s {fuel : Nat} {v : Value} {x : DataW H × List MemPlace} (h : DataW.trod enc Tryz.prog W 0 (fun _ => true) true fuel 38 [v] = some x) :
    ∃ a n cap l, v = .slice a n cap ∧ C.Row W a n cap (C.i64s l) := by
  rcases open_ints Tryz.underlying38 Tryz.underlying2 (by kernel_rfl) h with ⟨hcs, _⟩ | ⟨a, l, c, zs, hcs, _, hl, hm, hz, _, hcell, hwz⟩
  · injection hcs with hcs
    exact ⟨none, 0, 0, [], hcs, ⟨rfl, by omega, by simp [maxLen], .inl rfl⟩⟩
  · injection hcs with hcs
    have hz' : zs.length = c := by simpa using hz
    have e : C.i64s (zs.take l) = (List.range l).map fun i => .int .i64 (zs.getD i 0) := by
      apply List.ext_getElem?
      intro i
      unfold C.i64s
      rw [List.getElem?_map, List.getElem?_map, List.getElem?_take]
      by_cases hi : i < l
      · rw [if_pos hi, List.getElem?_range hi]
        have hil : i < zs.length := by omega
        simp [List.getD_eq_getElem?_getD, hil]
      · rw [if_neg hi, List.getElem?_eq_none (by simp; omega)]
        rfl
    refine ⟨some a, l, c, zs.take l, hcs, ?_⟩
    rw [e]
    exact row_in hl hm (by omega) hcell

theorem open_keeps9 {fuel : Nat} {v : Value} {x : DataW H × List MemPlace} (h : DataW.trod enc Tryz.prog W 0 (fun _ => true) true fuel 39 [v] = some x) :
    ∃ a n cap l, v = .slice a n cap ∧ KRow W a n cap l := by
  rcases open_slice_pairs Tryz.underlying39 Tryz.underlying45 (by kernel_rfl) rfl rfl (by kernel_rfl) (by kernel_rfl) h with ⟨hcs, _⟩ | ⟨a, l, c, m, n, V0, V1, D0, D1, P0, P1, hcs, _, hl, hm, hmm, _, hi⟩
  · injection hcs with hcs
    exact ⟨none, 0, 0, [], hcs, krow_nil W⟩
  · injection hcs with hcs
    simp only [if_true] at hmm
    have each : ∀ i, i < l → ∃ q : Int × Int, W.cell? (a.add (i * 2)) = some (.int .i64 q.1) ∧ W.cell? (a.add (i * 2 + 1)) = some (.int .i64 q.2) := by
      intro i hil
      obtain ⟨h1, h2, h3, h4⟩ := hi i (by omega)
      obtain ⟨n0, e0, _, _⟩ := DataW.trod_int Tryz.underlying3 h3
      obtain ⟨n1, e1, _, _⟩ := DataW.trod_int Tryz.underlying3 h4
      injection e0 with e0
      injection e1 with e1
      exact ⟨(n0, n1), by rw [h1, e0], by rw [h2, e1]⟩
    obtain ⟨q, hq⟩ := choose_lt each
    refine ⟨some a, l, c, (List.range l).map q, hcs, by simp, hl, hm, ?_⟩
    by_cases h0 : l = 0
    · subst h0; exact .inl rfl
    · obtain ⟨b, off, spot⟩ := a
      have hc0 := (hq 0 (by omega)).1
      have hspot : spot = none := by simpa [Addr.add] using World.cell?_spot hc0
      subst hspot
      refine .inr ⟨b, off, rfl, by simpa [Addr.add] using World.block_lt_of_cell? W _ hc0, fun i x hx => ?_⟩
      have hil : i < l := by have := (List.getElem?_eq_some_iff.1 hx).1; simpa using this
      have hxq : x = q i := by simp [hil] at hx; exact hx.symm
      subst hxq
      have := hq i hil
      rw [addr_add, addr_add, ← Nat.add_assoc] at this
      exact this

theorem open_ent {fuel : Nat} {c0 c1 c2 c3 c4 c5 c6 : Value} {x : DataW H × List MemPlace} (h : DataW.trod enc Tryz.prog W 0 (fun _ => true) true fuel 37 [c0, c1, c2, c3, c4, c5, c6] = some x) :
    ∃ e : En, [c0, c1, c2, c3, c4, c5, c6] = [.int .i64 e.b, .int .i64 e.ep, .int .i64 e.sq, .string e.data, .bool e.dirty, .int .i64 e.cl, .int .i64 e.n] ∧ -9223372036854775808 ≤ e.b ∧ e.b ≤ 9223372036854775807 := by
  have k3 : Tryz.prog.cellsOf 3 = 1 := by kernel_rfl
  have k2 : Tryz.prog.cellsOf 2 = 1 := by kernel_rfl
  have k4 : Tryz.prog.cellsOf 4 = 1 := by kernel_rfl
  have k9 : Tryz.prog.cellsOf 9 = 1 := by kernel_rfl
  have kv : Tryz.prog.cellsOf 30 = 2 := by kernel_rfl
  obtain ⟨xs, k, _, _, _, hxl, hf⟩ := DataW.trod_struct Tryz.underlying37 h
  have g0 := hf 0 _ rfl
  have g1 := hf 1 _ rfl
  have g2 := hf 2 _ rfl
  have g3 := hf 3 _ rfl
  have g4 := hf 4 _ rfl
  have g5 := hf 5 _ rfl
  match xs, hxl with
  | [y0, y1, y2, y3, y4, y5], _ =>
    simp [k3] at g0 g4
    simp [kv] at g1
    simp [k9] at g2
    simp [k4] at g3
    simp [k2] at g5
    obtain ⟨xs', k', _, _, _, hxl', hf'⟩ := DataW.trod_struct Tryz.underlying30 g1
    have v0 := hf' 0 _ rfl
    have v1 := hf' 1 _ rfl
    match xs', hxl' with
    | [z0, z1], _ =>
      simp [k2] at v0 v1
      obtain ⟨n0, e0, _, w0⟩ := DataW.trod_int Tryz.underlying3 g0
      obtain ⟨n1, e1, _, w1⟩ := DataW.trod_int Tryz.underlying2 v0
      obtain ⟨n2, e2, _, w2⟩ := DataW.trod_int Tryz.underlying2 v1
      obtain ⟨zs, e3, _, w3⟩ := DataW.trod_string Tryz.underlying9 g2
      obtain ⟨bo, e4, _⟩ := DataW.trod_bool Tryz.underlying4 g3
      obtain ⟨n5, e5, _, w5⟩ := DataW.trod_int Tryz.underlying3 g4
      obtain ⟨n6, e6, _, w6⟩ := DataW.trod_int Tryz.underlying2 g5
      injection e0 with e0
      injection e1 with e1
      injection e2 with e2
      injection e3 with e3
      injection e4 with e4
      injection e5 with e5
      injection e6 with e6
      subst e0 e1 e2 e3 e4 e5 e6
      exact ⟨⟨n0, n1, n2, zs, bo, n5, n6⟩, rfl, (wf_i64 w0).1, (wf_i64 w0).2⟩

/-- acts that came in -/
def Acts9 (w : World) (a : Option Addr) (n c : Nat) (l : List Ac) : Prop :=
  l.length = n ∧ n ≤ c ∧ c ≤ maxLen ∧ (∀ x ∈ l, x.Ok w) ∧ (l = [] ∨ ∃ b off, a = some ⟨b, off, none⟩ ∧ b < w.heap.size ∧ ∀ k x, l[k]? = some x → ∀ i v, x.cells[i]? = some v → w.cell? ⟨b, off + (k * 12 + i), none⟩ = some v)

theorem open_acts9 {fuel : Nat} {v : Value} {x : DataW H × List MemPlace} (h : DataW.trod enc Tryz.prog W 0 (fun _ => true) true fuel 22 [v] = some x) :
    ∃ a n cap l, v = .slice a n cap ∧ Acts9 W a n cap l := by
  have c41 : Tryz.prog.cellsOf 41 = 12 := by kernel_rfl
  have k3 : Tryz.prog.cellsOf 3 = 1 := by kernel_rfl
  have k9 : Tryz.prog.cellsOf 9 = 1 := by kernel_rfl
  have ke : Tryz.prog.cellsOf 37 = 7 := by kernel_rfl
  have kt : Tryz.prog.cellsOf 38 = 1 := by kernel_rfl
  have kl : Tryz.prog.cellsOf 39 = 1 := by kernel_rfl
  rcases open_slice Tryz.underlying22 h with ⟨hcs, _⟩ | ⟨a, l, c, m, n, D, Pl, hcs, _, hl, hm, hmm, _, hi⟩
  · injection hcs with hcs
    exact ⟨none, 0, 0, [], hcs, rfl, Nat.le_refl _, by simp [maxLen], by simp, .inl rfl⟩
  · injection hcs with hcs
    simp only [if_true] at hmm
    have each : ∀ i, i < l → ∃ q : Ac, q.Ok W ∧ ∀ j v, q.cells[j]? = some v → W.cell? (a.add (i * 12 + j)) = some v := by
      intro i hil
      obtain ⟨cs', h1, h2⟩ := hi i (by omega)
      rw [c41] at h1
      obtain ⟨_, hlen, hcell⟩ := World.cells?_some h1
      obtain ⟨xs, k, _, _, _, hxl, hf⟩ := DataW.trod_struct Tryz.underlying41 h2
      match cs', hlen with
      | [v0, v1, v2, v3, v4, v5, v6, v7, v8, v9, v10, v11], _ =>
        have g0 := hf 0 _ rfl
        have g1 := hf 1 _ rfl
        have g2 := hf 2 _ rfl
        have g3 := hf 3 _ rfl
        have g4 := hf 4 _ rfl
        have g5 := hf 5 _ rfl
        match xs, hxl with
        | [y0, y1, y2, y3, y4, y5], _ =>
          simp [k3] at g0 g1
          simp [ke] at g2
          simp [kt] at g3
          simp [k9] at g4
          simp [kl] at g5
          obtain ⟨n0, e0, _, w0⟩ := DataW.trod_int Tryz.underlying3 g0
          obtain ⟨n1, e1, _, w1⟩ := DataW.trod_int Tryz.underlying3 g1
          obtain ⟨e, e2, hb1, hb2⟩ := open_ent g2
          obtain ⟨aT, nT, cT, lt, e3, hT⟩ := open_i64s g3
          obtain ⟨zs, e4, _, w4⟩ := DataW.trod_string Tryz.underlying9 g4
          obtain ⟨aL, nL, cL, ks, e5, hL⟩ := open_keeps9 g5
          injection e0 with e0
          injection e1 with e1
          injection e4 with e4
          simp at e2
          obtain ⟨rfl, rfl, rfl, rfl, rfl, rfl, rfl⟩ := e2
          subst e0 e1 e3 e4 e5
          refine ⟨⟨n0, n1, e, aT, nT, cT, lt, zs, aL, nL, cL, ks⟩, ⟨hT, hL, hb1, hb2⟩, fun j v hj => ?_⟩
          have hjl : j < 12 := by have := (List.getElem?_eq_some_iff.1 hj).1; simpa [Ac.cells] using this
          have := hcell j (by omega)
          rw [add_add] at this
          rw [this]
          exact hj
    obtain ⟨q, hq⟩ := choose_lt each
    refine ⟨some a, l, c, (List.range l).map q, hcs, by simp, hl, hm, ?_, ?_⟩
    · intro x hx
      obtain ⟨i, hi', rfl⟩ := List.mem_map.1 hx
      exact (hq i (List.mem_range.1 hi')).1
    · by_cases h0 : l = 0
      · subst h0; exact .inl rfl
      · obtain ⟨b, off, spot⟩ := a
        have hc0 := (hq 0 (by omega)).2 0 _ rfl
        have hspot : spot = none := by simpa [Addr.add] using World.cell?_spot hc0
        subst hspot
        refine .inr ⟨b, off, rfl, by simpa [Addr.add] using World.block_lt_of_cell? W _ hc0, fun i x hx j v hv => ?_⟩
        have hil : i < l := by have := (List.getElem?_eq_some_iff.1 hx).1; simpa using this
        have hxq : x = q i := by simp [hil] at hx; exact hx.symm
        subst hxq
        have := (hq i hil).2 j v hv
        rw [addr_add] at this
        exact this
end
end Q
end Go.Proofs.YtmcalgnpinolmaaGreat
namespace Go.Proofs.YtmcalgnpinolmaaGreat
open Go.RowKit Go.Maps
set_option linter.unusedVariables false
set_option linter.unusedSimpArgs false
set_option maxRecDepth 20000
namespace Q
variable {w0 : World} {B : Bk} {G : Gm} {V V' : Vi} {K K' : Int}

theorem Ac.Ok.below {w w' : World} {x : Ac} (h : x.Ok w) (hb : Below w.heap.size w w') : x.Ok w' :=
  ⟨C.row_below h.tt hb (Nat.le_refl _), krow_but h.ll (But.of_below hb) (krow_old h.ll (by simp)), h.b1, h.b2⟩

/-- an act's cells -/
structure XAt (w : World) (P o : Nat) (x : Ac) : Prop where
  c0 : w.cell? ⟨P, o, none⟩ = some (.int .i64 x.kind)
  c1 : w.cell? ⟨P, o + 1, none⟩ = some (.int .i64 x.n)
  c2 : w.cell? ⟨P, o + 2, none⟩ = some (.int .i64 x.e.b)
  c3 : w.cell? ⟨P, o + 3, none⟩ = some (.int .i64 x.e.ep)
  c4 : w.cell? ⟨P, o + 4, none⟩ = some (.int .i64 x.e.sq)
  c5 : w.cell? ⟨P, o + 5, none⟩ = some (.string x.e.data)
  c6 : w.cell? ⟨P, o + 6, none⟩ = some (.bool x.e.dirty)
  c7 : w.cell? ⟨P, o + 7, none⟩ = some (.int .i64 x.e.cl)
  c8 : w.cell? ⟨P, o + 8, none⟩ = some (.int .i64 x.e.n)
  c9 : w.cell? ⟨P, o + 9, none⟩ = some (.slice x.aT x.nT x.cT)
  c10 : w.cell? ⟨P, o + 10, none⟩ = some (.string x.s)
  c11 : w.cell? ⟨P, o + 11, none⟩ = some (.slice x.aL x.nL x.cL)
theorem XAt.but {w w' : World} {P o : Nat} {x : Ac} (h : XAt w P o x) {q : List Nat} (hb : But q w w') (hn : P ∉ q) : XAt w' P o x := by
  have hl := World.block_lt_of_cell? w _ h.c0
  refine ⟨?_, ?_, ?_, ?_, ?_, ?_, ?_, ?_, ?_, ?_, ?_, ?_⟩
  · rw [hb.cell hl hn]; exact h.c0
  · rw [hb.cell hl hn]; exact h.c1
  · rw [hb.cell hl hn]; exact h.c2
  · rw [hb.cell hl hn]; exact h.c3
  · rw [hb.cell hl hn]; exact h.c4
  · rw [hb.cell hl hn]; exact h.c5
  · rw [hb.cell hl hn]; exact h.c6
  · rw [hb.cell hl hn]; exact h.c7
  · rw [hb.cell hl hn]; exact h.c8
  · rw [hb.cell hl hn]; exact h.c9
  · rw [hb.cell hl hn]; exact h.c10
  · rw [hb.cell hl hn]; exact h.c11
theorem XAt.below {w w' : World} {P o : Nat} {x : Ac} (h : XAt w P o x) (hb : Below w.heap.size w w') : XAt w' P o x := h.but (But.of_below hb) (by simp)
theorem XAt.new (w : World) (x : Ac) : XAt (w.alloc (.cells #[.int .i64 x.kind, .int .i64 x.n, .int .i64 x.e.b, .int .i64 x.e.ep, .int .i64 x.e.sq, .string x.e.data, .bool x.e.dirty, .int .i64 x.e.cl, .int .i64 x.e.n, .slice x.aT x.nT x.cT, .string x.s, .slice x.aL x.nL x.cL] 41)) w.heap.size 0 x := by
  refine ⟨?_, ?_, ?_, ?_, ?_, ?_, ?_, ?_, ?_, ?_, ?_, ?_⟩ <;> (rw [World.cell?_alloc_mark]; rfl)

/-- the k-th of acts that came in, read later -/
theorem acts9_at {w w' : World} {a : Option Addr} {n c : Nat} {l : List Ac} (h : Acts9 w a n c l) (hb : Below w.heap.size w w') {k : Nat} (hk : k < n) :
    ∃ b off x, a = some ⟨b, off, none⟩ ∧ l[k]? = some x ∧ x.Ok w ∧ x.Ok w' ∧ XAt w' b (off + k * 12) x ∧ b < w.heap.size := by
  obtain ⟨h1, h2, h3, h4, h5⟩ := h
  rcases h5 with h5 | ⟨b, off, ha, hlt, hc⟩
  · subst h5; simp at h1; omega
  · obtain ⟨x, hx⟩ : ∃ x, l[k]? = some x := ⟨l[k]'(by omega), List.getElem?_eq_getElem _⟩
    have hok := h4 x (List.mem_of_getElem? hx)
    have g := hc k x hx
    have hX : XAt w b (off + k * 12) x := by
      refine ⟨?_, ?_, ?_, ?_, ?_, ?_, ?_, ?_, ?_, ?_, ?_, ?_⟩
      · exact g 0 _ rfl
      all_goals rw [Nat.add_assoc]
      · exact g 1 _ rfl
      · exact g 2 _ rfl
      · exact g 3 _ rfl
      · exact g 4 _ rfl
      · exact g 5 _ rfl
      · exact g 6 _ rfl
      · exact g 7 _ rfl
      · exact g 8 _ rfl
      · exact g 9 _ rfl
      · exact g 10 _ rfl
      · exact g 11 _ rfl
    exact ⟨b, off, x, ha, hx, hok, hok.below hb, hX.below hb, hlt⟩

/-! the methods, by the address of the cache -/
theorem Rq.told {w : World} (h : Rq w0 w B G V K) {q : Nat} (hq : B.qB = q) : Calls Tryz.prog 13 #[.pointer (some ⟨q, 0, none⟩)] w fun e w' => ∃ a cap, e = .returned (.agg #[.slice a (num G.nb V.e) cap, .int .i64 V.k.ep, .int .i64 V.k.sq, .int .i64 V.k.t0, .int .i64 V.k.t1, .int .i64 V.k.t2, .int .i64 V.k.t3]) ∧ OwnE w.heap.size w' a cap (allV G.nb V.e) ∧ Below w.heap.size w w' := by
  subst hq; exact told_cs w h.cs
theorem Rq.all {w : World} (h : Rq w0 w B G V K) {q : Nat} (hq : B.qB = q) : Calls Tryz.prog 20 #[.pointer (some ⟨q, 0, none⟩)] w fun e w' => ∃ a cap, e = .returned (.slice a (num G.nb V.e) cap) ∧ OwnE w.heap.size w' a cap (allV G.nb V.e) ∧ Below w.heap.size w w' := by
  subst hq; exact all_cs w h.cs
theorem Rq.room {w : World} (h : Rq w0 w B G V K) {q : Nat} (hq : B.qB = q) : Calls Tryz.prog 24 #[.pointer (some ⟨q, 0, none⟩)] w fun e w' => e = .returned (.int .i64 ((G.N - 6 : Nat) : Int)) ∧ w = w' := by
  subst hq; exact room_cs w h.cs
theorem Rq.get {w : World} (h : Rq w0 w B G V K) {q : Nat} (hq : B.qB = q) (b : Int) (hb0 : -9223372036854775808 ≤ b) (hb1 : b ≤ 9223372036854775807) : Calls Tryz.prog 25 #[.pointer (some ⟨q, 0, none⟩), .int .i64 b] w fun e w' => e = .returned (.tuple #[entV (V.e b), .bool (V.e b).isSome]) ∧ Below w.heap.size w w' := by
  subst hq; exact get_cs w h.cs b hb0 hb1
/-- an act is done -/
theorem Rq.act {w : World} (h : Rq w0 w B G V K) {q : Nat} (hq : B.qB = q) (hK : K ≤ 600000000) (x : Ac) (hx : x.Ok w) :
    Calls Tryz.prog 22 #[.pointer (some ⟨q, 0, none⟩), .agg #[.int .i64 x.kind, .int .i64 x.n, .int .i64 x.e.b, .int .i64 x.e.ep, .int .i64 x.e.sq, .string x.e.data, .bool x.e.dirty, .int .i64 x.e.cl, .int .i64 x.e.n, .slice x.aT x.nT x.cT, .string x.s, .slice x.aL x.nL x.cL]] w fun r w' => r = .returned (.int .i64 (doE G.nb G.N V x.kind x.e x.t)) ∧ ∃ r, Rq w0 w' (B.row r) G (doVi G.nb G.N V x.kind x.e x.t) (K + 2002) ∧ But B.l w w' ∧ (r = B.rb ∨ w.heap.size ≤ r) := by
  subst hq
  refine (do_cs w h.cs hK x.kind x.n x.e x.aT x.nT x.cT x.s x.aL x.nL x.cL x.t hx.tt hx.b1 hx.b2).mono ?_
  rintro e w' ⟨rfl, ha⟩
  obtain ⟨r, h1, h2, h3⟩ := h.after ha
  exact ⟨rfl, r, h1, h3, h2⟩
theorem Rq.but {w w' : World} (h : Rq w0 w B G V K) {q : List Nat} (hb : But q w w') (h1 : ∀ x ∈ B.l, x ∉ q) (h2 : ∀ x ∈ q, w0.heap.size ≤ x) : Rq w0 w' B G V K := ⟨h.cs.but hb h1, h.be.trans (hb.to_below h2 h.be.size), h.od⟩
/-- a block that is none of the cache's stays so -/
theorem row_out {w : World} {r P : Nat} (h : P ∉ B.l) (hr : r = B.rb ∨ w.heap.size ≤ r) (hP : P < w.heap.size) : P ∉ (B.row r).l := fun hm => by
  rcases row_l hr P hm with h1 | h1
  · exact h h1
  · omega
/-- what was told, in a block -/
def Told (w : World) (P : Nat) (a : Option Addr) (n c : Nat) (k : Kp) : Prop := w.heap[P]? = some (.cells #[.slice a n c, .int .i64 k.ep, .int .i64 k.sq, .int .i64 k.t0, .int .i64 k.t1, .int .i64 k.t2, .int .i64 k.t3] 33 (0, 0))
theorem Told.new (w : World) (a : Option Addr) (n c : Nat) (k : Kp) : Told (w.alloc (.cells #[.slice a n c, .int .i64 k.ep, .int .i64 k.sq, .int .i64 k.t0, .int .i64 k.t1, .int .i64 k.t2, .int .i64 k.t3] 33)) w.heap.size a n c k := heap_alloc_new w _
theorem Told.lt {w : World} {P : Nat} {a : Option Addr} {n c : Nat} {k : Kp} (h : Told w P a n c k) : P < w.heap.size := lt_of_heap h
theorem Told.but {w w' : World} {P : Nat} {a : Option Addr} {n c : Nat} {k : Kp} (h : Told w P a n c k) {q : List Nat} (hb : But q w w') (hn : P ∉ q) : Told w' P a n c k := by
  unfold Told; rw [hb.block P h.lt hn]; exact h
theorem Told.below {w w' : World} {P : Nat} {a : Option Addr} {n c : Nat} {k : Kp} (h : Told w P a n c k) (hb : Below w.heap.size w w') : Told w' P a n c k := h.but (But.of_below hb) (by simp)
theorem Told.at {w : World} {P : Nat} {a : Option Addr} {n c : Nat} {k : Kp} (h : Told w P a n c k) : TAt w P (.slice a n c) k.ep k.sq k.t0 k.t1 k.t2 k.t3 := TAt.of h
theorem set7 {w : World} {P : Nat} {T : TypeId} {m : Nat × Nat} {a0 a1 a2 a3 a4 a5 a6 : Value} (h : w.heap[P]? = some (.cells #[a0, a1, a2, a3, a4, a5, a6] T m)) (v0 v1 v2 v3 v4 v5 v6 : Value) : (w.setCells P 0 [v0, v1, v2, v3, v4, v5, v6]).heap[P]? = some (.cells #[v0, v1, v2, v3, v4, v5, v6] T m) := by
  simp [World.setCells, World.setCell, Array.getElem?_modify, h, Array.setIfInBounds]
theorem Told.set {w : World} {P : Nat} {a : Option Addr} {n c : Nat} {k : Kp} (h : Told w P a n c k) (a' : Option Addr) (n' c' : Nat) (k' : Kp) : Told (w.setCells P 0 [.slice a' n' c', .int .i64 k'.ep, .int .i64 k'.sq, .int .i64 k'.t0, .int .i64 k'.t1, .int .i64 k'.t2, .int .i64 k'.t3]) P a' n' c' k' := set7 h _ _ _ _ _ _ _
theorem Rq.out {w : World} (h : Rq w0 w B G V K) {P : Nat} (hP : w.heap.size ≤ P) : P ∉ B.l := fun hm => by have := h.cs.lt _ hm; omega

theorem Ac.large (w : World) (x : Ac) : Calls Tryz.prog 14 #[.agg #[.int .i64 x.kind, .int .i64 x.n, .int .i64 x.e.b, .int .i64 x.e.ep, .int .i64 x.e.sq, .string x.e.data, .bool x.e.dirty, .int .i64 x.e.cl, .int .i64 x.e.n, .slice x.aT x.nT x.cT, .string x.s, .slice x.aL x.nL x.cL]] w fun r w' => r = .returned (.bool (decide (Lrg x.e x.nT x.s x.nL))) ∧ Below w.heap.size w w' :=
  large_q w x.kind x.n x.e x.aT x.nT x.cT x.s x.aL x.nL x.cL

section
open Go.ChangeShapes Go.WideShapes Go.ChangeAt Go.Joins Go.Deep
theorem open_ver {H : Type} {enc : TypeId × Value → H} {W : World} {v : Value} {d : DataW H} {p : List MemPlace} {base : Nat} (hv : Value.okWide Tryz.prog W .any base 30 v) (h : DataW.Trod enc Tryz.prog W 0 (fun _ => true) true 30 v d p) :
    ∃ ep sq, v = .agg #[.int .i64 ep, .int .i64 sq] := by
  obtain ⟨v0, v1, y0, y1, n, rfl, _, _, h0, h1⟩ := open_agg2 Tryz.underlying30 (by kernel_rfl) (by kernel_rfl) hv h
  obtain ⟨n0, e0, _, _⟩ := DataW.trod_int Tryz.underlying2 h0
  obtain ⟨n1, e1, _, _⟩ := DataW.trod_int Tryz.underlying2 h1
  injection e0 with e0
  injection e1 with e1
  exact ⟨n0, n1, by rw [e0, e1]⟩
end

/-! what an act tells, and what it leaves as it is -/
theorem clean_none {b ep sq : Int} (h : cleanE V b ep sq ≠ 0) : cleanVi V b ep sq = V := by
  unfold cleanVi
  unfold cleanE at h
  cases hb : V.e b with
  | none => simp [stepV, hb]
  | some x =>
    rw [hb] at h
    simp only at h
    split at h
    · exact absurd rfl h
    · rename_i hn; simp [stepV, hb, hn]
theorem drop_none {b : Int} (h : dropE V b ≠ 0) : dropVi V b = V := by
  unfold dropVi
  unfold dropE at h
  cases hb : V.e b with
  | none => simp [stepV, updV_none hb]
  | some x => rw [hb] at h; exact absurd rfl h
theorem doE_no {nb N : Nat} {kind : Int} {e : En} {t : List Int} (h : doE nb N V kind e t ≠ 0) : doVi nb N V kind e t = V := by
  unfold doE at h
  unfold doVi
  by_cases k0 : kind = 0
  · rw [if_pos k0] at h ⊢; exact putVi_0 h
  rw [if_neg k0] at h ⊢
  by_cases k1 : kind = 1
  · rw [if_pos k1] at h ⊢; exact clean_none h
  rw [if_neg k1] at h ⊢
  by_cases k2 : kind = 2
  · rw [if_pos k2] at h ⊢; exact drop_none h
  rw [if_neg k2] at h ⊢
  by_cases k3 : kind = 3
  · rw [if_pos k3] at h ⊢
    unfold keepE at h
    split at h
    · exact absurd rfl h
    · rename_i hn; exact if_neg hn
  rw [if_neg k3] at h ⊢
  by_cases k8 : kind = 8
  · rw [if_pos k8] at h ⊢
    unfold keepE at h
    split at h
    · exact absurd rfl h
    · rename_i hn; exact if_neg hn
  rw [if_neg k8] at h
  exact absurd rfl h
theorem keepE_in (ep sq : Int) (l : List Int) : keepE ep sq l = 0 ∨ keepE ep sq l = 1 := by
  unfold keepE; split
  · exact .inl rfl
  · exact .inr rfl
theorem doE_in (nb N : Nat) (V : Vi) (kind : Int) (e : En) (t : List Int) : doE nb N V kind e t = 0 ∨ doE nb N V kind e t = 1 ∨ doE nb N V kind e t = 2 ∨ doE nb N V kind e t = 3 ∨ doE nb N V kind e t = 10 ∨ doE nb N V kind e t = 12 := by
  unfold doE
  split
  · unfold putE checkE
    repeat' split
    all_goals simp
  split
  · unfold cleanE
    repeat' split
    all_goals simp
  split
  · unfold dropE
    split <;> simp
  split
  · rcases keepE_in e.ep e.sq t with h | h <;> rw [h] <;> simp
  split
  · rcases keepE_in e.ep e.sq t with h | h <;> rw [h] <;> simp
  simp
end Q
end Go.Proofs.YtmcalgnpinolmaaGreat
