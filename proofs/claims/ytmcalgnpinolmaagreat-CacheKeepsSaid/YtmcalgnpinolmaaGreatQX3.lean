/-
  What is told, compared.
  Acts with their numbers; what is told, in a row.
  Is it full; without a block; what a crash keeps.
  What a crash keeps, in a row.
  A cache of the call's own, where the power may go.
  CacheKeeps: the walk.
-/
import Derived.Test.YtmcalgnpinolmaaGreatQH
import Derived.Test.YtmcalgnpinolmaaGreatQX2
import Derived.Deep.DeepCutAuto
import Derived.BigRegion
namespace Go.Proofs.YtmcalgnpinolmaaGreat
open Go.RowKit Go.Maps
set_option linter.unusedVariables false
set_option linter.unusedSimpArgs false
set_option maxRecDepth 20000
namespace Q
variable {B : Bk} {G : Gm} {V : Vi} {K : Int} {P P' : Vi → Prop}

theorem toList_inj {a b : ByteArray} (h : a.toList = b.toList) : a = b := by
  rw [ByteArray.toList_eq, ByteArray.toList_eq] at h
  obtain ⟨⟨x⟩⟩ := a
  obtain ⟨⟨y⟩⟩ := b
  simp at h
  rw [h]
/-- a truth that is told: it is true where p holds -/
def BoolV (p : Prop) (v : Value) : Prop := ∃ b, v = .bool b ∧ (p → b = true)

set_option maxHeartbeats 2000000 in
theorem same_b (w : World) (a a' : Option Addr) (n n' c c' B0 B1 : Nat) (l l' : List En) (hl : l.length = n) (hl' : l'.length = n') (h : OwnE B0 w a c l) (h' : OwnE B1 w a' c' l') :
    Calls Tryz.prog 31 #[.slice a n c, .slice a' n' c'] w fun e w' => ∃ v : Value, e = .returned v ∧ BoolV (l = l') v ∧ ∃ j, w' = w.drewN j := by
  subst hl
  subst hl'
  have H := Lib.hid h
  have H' := Lib.hid h'
  have hl6 := h.2
  have hl6' := h'.2
  have hnI : (l.length : Int) ≤ 1000 := by omega
  have hn0 : (0 : Int) ≤ (l.length : Int) := by omega
  have hnI' : (l'.length : Int) ≤ 1000 := by omega
  clear h h' hl6 hl6'
  by_cases hne : l.length = l'.length
  case neg =>
    have hneI : ¬ (l.length : Int) = (l'.length : Int) := by omega
    have HNe : Hid (l = l' → False) := Lib.hid (fun z => hne (by rw [z]))
    clear hne
    go_enter Tryz.func31, Tryz.ntmps31
    go_wp2_with fail
    go_ret
    exact ⟨_, rfl, ⟨false, rfl, fun z => (HNe.out z).elim⟩, 0, rfl⟩
  have hneI : (l.length : Int) = (l'.length : Int) := by omega
  have HNe := Lib.hid hne
  clear hne
  go_enter Tryz.func31, Tryz.ntmps31
  go_wp2_with fail
  go_loopw [13] (fun i wr => ∃ (k q : Nat), k ≤ l.length ∧ i = .int .i64 k ∧ wr = w.drewN q ∧ Hid (l.take k = l'.take k)) (fun i _ => l.length - (RowKit.intOf i).toNat)
  case atStart => exact ⟨0, 0, by omega, rfl, rfl, Lib.hid rfl⟩
  case round =>
    obtain ⟨k, q, hk, rfl, rfl, HTk⟩ := hrel
    by_cases hlt : k < l.length
    · have hltI : (k : Int) < (l.length : Int) := by omega
      obtain ⟨x, hx⟩ : ∃ x, l[k]? = some x := ⟨_, List.getElem?_eq_getElem hlt⟩
      obtain ⟨y, hy⟩ : ∃ y, l'[k]? = some y := ⟨_, List.getElem?_eq_getElem (by have := HNe.out; omega)⟩
      have hltI' : (k : Int) < (l'.length : Int) := by omega
      have HXY : Hid (l = l' → x = y) := Lib.hid (fun z => by rw [z, hy] at hx; injection hx with hx; exact hx.symm)
      obtain ⟨g, rfl, _, _, hc⟩ := H.out.cell hx
      obtain ⟨g', rfl, _, _, hc'⟩ := H'.out.cell hy
      have hb := below_drewN w.heap.size w q
      obtain ⟨c0, c1, c2, c3, c4, c5, c6⟩ := hc.but (But.of_below hb) (by simp)
      obtain ⟨d0, d1, d2, d3, d4, d5, d6⟩ := hc'.but (But.of_below hb) (by simp)
      obtain ⟨xb, xp, xq, xd, xy, xc, xn⟩ := x
      obtain ⟨yb, yp, yq, yd, yy, yc, yn⟩ := y
      simp only at c0 c1 c2 c3 c4 c5 c6 d0 d1 d2 d3 d4 d5 d6
      have Hlt := Lib.hid hlt
      have HD : Hid (∀ j, (w.drewN q).drewN j = w.drewN (q + j)) := Lib.hid fun j => by simp [World.drewN, Nat.add_assoc]
      have HTk1 : Hid (∀ z : (⟨xb, xp, xq, xd, xy, xc, xn⟩ : En) = ⟨yb, yp, yq, yd, yy, yc, yn⟩, l.take (k + 1) = l'.take (k + 1)) := Lib.hid (fun z => by rw [List.take_add_one, List.take_add_one, hx, hy, HTk.out, z])
      clear hlt hc hc' hb hx hy
      generalize w.drewN q = w1 at *
      by_cases hb : xb = yb
      case neg =>
        have heq0 : (xb == yb) = false := by simpa using hb
        have HNq := Lib.hid hb
        clear hb
        go_wp2_with fail
        go_quiet (fail)
        go_wp2_with fail
        go_ret
        exact ⟨_, rfl, ⟨false, rfl, fun z => by have := HXY.out z; simp at this; exact absurd this (by simp [HNq.out])⟩, q + nq, HD.out _⟩
      subst hb
      by_cases hp : xp = yp
      case neg =>
        have heq0 : (xp == yp) = false := by simpa using hp
        have HNq := Lib.hid hp
        clear hp
        go_wp2_with fail
        go_quiet (fail)
        go_wp2_with fail
        go_ret
        exact ⟨_, rfl, ⟨false, rfl, fun z => by have := HXY.out z; simp at this; exact absurd this (by simp [HNq.out])⟩, q + nq, HD.out _⟩
      subst hp
      by_cases hq : xq = yq
      case neg =>
        have heq0 : (xq == yq) = false := by simpa using hq
        have HNq := Lib.hid hq
        clear hq
        go_wp2_with fail
        go_quiet (fail)
        go_wp2_with fail
        go_ret
        exact ⟨_, rfl, ⟨false, rfl, fun z => by have := HXY.out z; simp at this; exact absurd this (by simp [HNq.out])⟩, q + nq, HD.out _⟩
      subst hq
      by_cases hd : xd = yd
      case neg =>
        have heq0 : (xd.toList == yd.toList) = false := by simp only [beq_eq_false_iff_ne, ne_eq]; intro z; exact hd (toList_inj z)
        have HNq := Lib.hid hd
        clear hd
        go_wp2_with fail
        go_quiet (fail)
        go_wp2_with fail
        go_ret
        exact ⟨_, rfl, ⟨false, rfl, fun z => by have := HXY.out z; simp at this; exact absurd this (by simp [HNq.out])⟩, q + nq, HD.out _⟩
      subst hd
      by_cases hy : xy = yy
      case neg =>
        have heq0 : (xy == yy) = false := by simpa using hy
        have HNq := Lib.hid hy
        clear hy
        go_wp2_with fail
        go_quiet (fail)
        go_wp2_with fail
        go_ret
        exact ⟨_, rfl, ⟨false, rfl, fun z => by have := HXY.out z; simp at this; exact absurd this (by simp [HNq.out])⟩, q + nq, HD.out _⟩
      subst hy
      by_cases hc : xc = yc
      case neg =>
        have heq0 : (xc == yc) = false := by simpa using hc
        have HNq := Lib.hid hc
        clear hc
        go_wp2_with fail
        go_quiet (fail)
        go_wp2_with fail
        go_ret
        exact ⟨_, rfl, ⟨false, rfl, fun z => by have := HXY.out z; simp at this; exact absurd this (by simp [HNq.out])⟩, q + nq, HD.out _⟩
      subst hc
      by_cases hn : xn = yn
      case neg =>
        have heq0 : (xn == yn) = false := by simpa using hn
        have HNq := Lib.hid hn
        clear hn
        go_wp2_with fail
        go_quiet (fail)
        go_wp2_with fail
        go_ret
        exact ⟨_, rfl, ⟨false, rfl, fun z => by have := HXY.out z; simp at this; exact absurd this (by simp [HNq.out])⟩, q + nq, HD.out _⟩
      subst hn
      have HE1 := Lib.hid (HTk1.out rfl)
      go_wp2_with fail
      go_quiet (fail)
      go_wp2_with fail
      go_roundw
      case rel => exact ⟨k + 1, q + nq, by have := Hlt.out; omega, by go_num, HD.out _, HE1.out⟩
      case measure => have := Hlt.out; simp [RowKit.intOf]; omega
    · have hltI : ¬ (k : Int) < (l.length : Int) := by omega
      clear hlt
      go_wp2_with fail
      go_ret
      exact ⟨_, rfl, ⟨true, rfl, fun _ => rfl⟩, q, rfl⟩


set_option maxHeartbeats 2000000 in
theorem alike_b (w : World) (a a' : Option Addr) (n n' c c' B0 B1 : Nat) (l l' : List En) (k k' : Kp) (hl : l.length = n) (hl' : l'.length = n') (h : OwnE B0 w a c l) (h' : OwnE B1 w a' c' l') :
    Calls Tryz.prog 18 #[toldV a n c k, toldV a' n' c' k'] w fun e w' => ∃ v : Value, e = .returned v ∧ BoolV (l = l' ∧ k = k') v ∧ Below w.heap.size w w' := by
  have hbw : Below w.heap.size w ((w.alloc (.cells #[.slice a n c, .int .i64 k.ep, .int .i64 k.sq, .int .i64 k.t0, .int .i64 k.t1, .int .i64 k.t2, .int .i64 k.t3] 33)).alloc (.cells #[.slice a' n' c', .int .i64 k'.ep, .int .i64 k'.sq, .int .i64 k'.t0, .int .i64 k'.t1, .int .i64 k'.t2, .int .i64 k'.t3] 33)) := ((Below.refl _ _).alloc (Nat.le_refl _) _).alloc (by simp) _
  have HB := Lib.hid hbw
  have HS := Lib.hid (same_b ((w.alloc (.cells #[.slice a n c, .int .i64 k.ep, .int .i64 k.sq, .int .i64 k.t0, .int .i64 k.t1, .int .i64 k.t2, .int .i64 k.t3] 33)).alloc (.cells #[.slice a' n' c', .int .i64 k'.ep, .int .i64 k'.sq, .int .i64 k'.t0, .int .i64 k'.t1, .int .i64 k'.t2, .int .i64 k'.t3] 33)) a a' n n' c c' B0 B1 l l' hl hl' (h.but (But.of_below hbw) (by simp)) (h'.but (But.of_below hbw) (by simp)))
  have HX : Hid (∀ q, TAt (((w.alloc (.cells #[.slice a n c, .int .i64 k.ep, .int .i64 k.sq, .int .i64 k.t0, .int .i64 k.t1, .int .i64 k.t2, .int .i64 k.t3] 33)).alloc (.cells #[.slice a' n' c', .int .i64 k'.ep, .int .i64 k'.sq, .int .i64 k'.t0, .int .i64 k'.t1, .int .i64 k'.t2, .int .i64 k'.t3] 33)).drewN q) w.heap.size (.slice a n c) k.ep k.sq k.t0 k.t1 k.t2 k.t3 ∧ TAt (((w.alloc (.cells #[.slice a n c, .int .i64 k.ep, .int .i64 k.sq, .int .i64 k.t0, .int .i64 k.t1, .int .i64 k.t2, .int .i64 k.t3] 33)).alloc (.cells #[.slice a' n' c', .int .i64 k'.ep, .int .i64 k'.sq, .int .i64 k'.t0, .int .i64 k'.t1, .int .i64 k'.t2, .int .i64 k'.t3] 33)).drewN q) (w.heap.size + 1) (.slice a' n' c') k'.ep k'.sq k'.t0 k'.t1 k'.t2 k'.t3) := Lib.hid (fun q => by
    have h1 := heap_alloc_new w (.cells #[.slice a n c, .int .i64 k.ep, .int .i64 k.sq, .int .i64 k.t0, .int .i64 k.t1, .int .i64 k.t2, .int .i64 k.t3] 33)
    have h2 := heap_alloc_new (w.alloc (.cells #[.slice a n c, .int .i64 k.ep, .int .i64 k.sq, .int .i64 k.t0, .int .i64 k.t1, .int .i64 k.t2, .int .i64 k.t3] 33)) (.cells #[.slice a' n' c', .int .i64 k'.ep, .int .i64 k'.sq, .int .i64 k'.t0, .int .i64 k'.t1, .int .i64 k'.t2, .int .i64 k'.t3] 33)
    rw [show (w.alloc (.cells #[.slice a n c, .int .i64 k.ep, .int .i64 k.sq, .int .i64 k.t0, .int .i64 k.t1, .int .i64 k.t2, .int .i64 k.t3] 33)).heap.size = w.heap.size + 1 by simp] at h2
    have h3 : ((w.alloc (.cells #[.slice a n c, .int .i64 k.ep, .int .i64 k.sq, .int .i64 k.t0, .int .i64 k.t1, .int .i64 k.t2, .int .i64 k.t3] 33)).alloc (.cells #[.slice a' n' c', .int .i64 k'.ep, .int .i64 k'.sq, .int .i64 k'.t0, .int .i64 k'.t1, .int .i64 k'.t2, .int .i64 k'.t3] 33)).heap[w.heap.size]? = _ := (Below.heap_alloc _ _ _ (lt_of_heap h1)).trans h1
    exact ⟨TAt.of h3, TAt.of h2⟩)
  have he := eq4 k.t0 k.t1 k.t2 k.t3 k'.t0 k'.t1 k'.t2 k'.t3
  obtain ⟨tb, htb⟩ : ∃ tb, (k.t0 == k'.t0 && k.t1 == k'.t1 && k.t2 == k'.t2 && k.t3 == k'.t3) = tb := ⟨_, rfl⟩
  rw [htb] at he
  have HTb : Hid (k = k' → tb = true) := Lib.hid (fun z => by rw [← htb, z]; simp)
  unfold toldV
  clear h h' hl hl' hbw htb
  go_enter Tryz.func18, Tryz.ntmps18
  by_cases hv1 : k.ep = k'.ep
  · by_cases hv2 : k.sq = k'.sq
    · have HV : Hid (k.ep = k'.ep ∧ k.sq = k'.sq) := Lib.hid ⟨hv1, hv2⟩
      have e1 : (k.ep == k'.ep) = true := by simpa using hv1
      have e2 : (k.sq == k'.sq) = true := by simpa using hv2
      clear hv1 hv2
      go_wp2_with fail
      refine HS.out.mono ?_
      rintro e w1 ⟨_, rfl, ⟨sb, rfl, hs2⟩, q, rfl⟩
      have HS2 := Lib.hid hs2
      clear hs2
      obtain ⟨⟨c0, c1, c2, c3, c4, c5, c6, f1⟩, ⟨d0, d1, d2, d3, d4, d5, d6, f2⟩⟩ := HX.out q
      have HB1 := Lib.hid (HB.out.trans (below_drewN w.heap.size ((w.alloc (.cells #[.slice a n c, .int .i64 k.ep, .int .i64 k.sq, .int .i64 k.t0, .int .i64 k.t1, .int .i64 k.t2, .int .i64 k.t3] 33)).alloc (.cells #[.slice a' n' c', .int .i64 k'.ep, .int .i64 k'.sq, .int .i64 k'.t0, .int .i64 k'.t1, .int .i64 k'.t2, .int .i64 k'.t3] 33)) q))
      generalize ((w.alloc (.cells #[.slice a n c, .int .i64 k.ep, .int .i64 k.sq, .int .i64 k.t0, .int .i64 k.t1, .int .i64 k.t2, .int .i64 k.t3] 33)).alloc (.cells #[.slice a' n' c', .int .i64 k'.ep, .int .i64 k'.sq, .int .i64 k'.t0, .int .i64 k'.t1, .int .i64 k'.t2, .int .i64 k'.t3] 33)).drewN q = w1 at *
      cases sb
      all_goals
        go_wp2_with fail
        go_ret
        refine ⟨_, rfl, ⟨_, rfl, fun z => ?_⟩, HB1.out⟩
        have z1 := HS2.out z.1
        have z2 := HTb.out z.2
        simp_all
    · have HV := Lib.hid hv2
      have e1 : (k.ep == k'.ep) = true := by simpa using hv1
      have e2 : (k.sq == k'.sq) = false := by simpa using hv2
      clear hv1 hv2
      go_wp2_with fail
      refine HS.out.mono ?_
      rintro e w1 ⟨_, rfl, ⟨sb, rfl, hs2⟩, q, rfl⟩
      have HS2 := Lib.hid hs2
      clear hs2
      obtain ⟨⟨c0, c1, c2, c3, c4, c5, c6, f1⟩, ⟨d0, d1, d2, d3, d4, d5, d6, f2⟩⟩ := HX.out q
      have HB1 := Lib.hid (HB.out.trans (below_drewN w.heap.size ((w.alloc (.cells #[.slice a n c, .int .i64 k.ep, .int .i64 k.sq, .int .i64 k.t0, .int .i64 k.t1, .int .i64 k.t2, .int .i64 k.t3] 33)).alloc (.cells #[.slice a' n' c', .int .i64 k'.ep, .int .i64 k'.sq, .int .i64 k'.t0, .int .i64 k'.t1, .int .i64 k'.t2, .int .i64 k'.t3] 33)) q))
      generalize ((w.alloc (.cells #[.slice a n c, .int .i64 k.ep, .int .i64 k.sq, .int .i64 k.t0, .int .i64 k.t1, .int .i64 k.t2, .int .i64 k.t3] 33)).alloc (.cells #[.slice a' n' c', .int .i64 k'.ep, .int .i64 k'.sq, .int .i64 k'.t0, .int .i64 k'.t1, .int .i64 k'.t2, .int .i64 k'.t3] 33)).drewN q = w1 at *
      cases sb
      all_goals
        go_wp2_with fail
        go_ret
        exact ⟨_, rfl, ⟨_, rfl, fun z => absurd (by rw [z.2]) HV.out⟩, HB1.out⟩
  · have HV := Lib.hid hv1
    have e1 : (k.ep == k'.ep) = false := by simpa using hv1
    clear hv1
    go_wp2_with fail
    refine HS.out.mono ?_
    rintro e w1 ⟨_, rfl, ⟨sb, rfl, hs2⟩, q, rfl⟩
    have HS2 := Lib.hid hs2
    clear hs2
    obtain ⟨⟨c0, c1, c2, c3, c4, c5, c6, f1⟩, ⟨d0, d1, d2, d3, d4, d5, d6, f2⟩⟩ := HX.out q
    have HB1 := Lib.hid (HB.out.trans (below_drewN w.heap.size ((w.alloc (.cells #[.slice a n c, .int .i64 k.ep, .int .i64 k.sq, .int .i64 k.t0, .int .i64 k.t1, .int .i64 k.t2, .int .i64 k.t3] 33)).alloc (.cells #[.slice a' n' c', .int .i64 k'.ep, .int .i64 k'.sq, .int .i64 k'.t0, .int .i64 k'.t1, .int .i64 k'.t2, .int .i64 k'.t3] 33)) q))
    generalize ((w.alloc (.cells #[.slice a n c, .int .i64 k.ep, .int .i64 k.sq, .int .i64 k.t0, .int .i64 k.t1, .int .i64 k.t2, .int .i64 k.t3] 33)).alloc (.cells #[.slice a' n' c', .int .i64 k'.ep, .int .i64 k'.sq, .int .i64 k'.t0, .int .i64 k'.t1, .int .i64 k'.t2, .int .i64 k'.t3] 33)).drewN q = w1 at *
    cases sb
    all_goals
      go_wp2_with fail
      go_ret
      exact ⟨_, rfl, ⟨_, rfl, fun z => absurd (by rw [z.2]) HV.out⟩, HB1.out⟩
end Q
end Go.Proofs.YtmcalgnpinolmaaGreat
namespace Go.Proofs.YtmcalgnpinolmaaGreat
open Go.ChangeShapes Go.WideShapes Go.ChangeAt Go.RowKit Go.Joins Go.Deep Go.Maps
set_option linter.unusedVariables false
set_option linter.unusedSimpArgs false
set_option maxRecDepth 20000
namespace Q
variable {B : Bk} {G : Gm} {V : Vi} {K : Int} {P P' : Vi → Prop}

/-- acts that came in, and the numbers in them are such -/
def Acts9n (w : World) (a : Option Addr) (n c : Nat) (l : List Ac) : Prop := Acts9 w a n c l ∧ ∀ x ∈ l, -9223372036854775808 ≤ x.n ∧ x.n ≤ 9223372036854775807
section
variable {H : Type} {enc : TypeId × Value → H} {W : World}
theorem open_acts9n {fuel : Nat} {v : Value} {x : DataW H × List MemPlace} (h : DataW.trod enc Tryz.prog W 0 (fun _ => true) true fuel 22 [v] = some x) :
    ∃ a n cap l, v = .slice a n cap ∧ Acts9n W a n cap l := by
  have c41 : Tryz.prog.cellsOf 41 = 12 := by kernel_rfl
  have k3 : Tryz.prog.cellsOf 3 = 1 := by kernel_rfl
  have k9 : Tryz.prog.cellsOf 9 = 1 := by kernel_rfl
  have ke : Tryz.prog.cellsOf 37 = 7 := by kernel_rfl
  have kt : Tryz.prog.cellsOf 38 = 1 := by kernel_rfl
  have kl : Tryz.prog.cellsOf 39 = 1 := by kernel_rfl
  rcases open_slice Tryz.underlying22 h with ⟨hcs, _⟩ | ⟨a, l, c, m, n, D, Pl, hcs, _, hl, hm, hmm, _, hi⟩
  · injection hcs with hcs
    exact ⟨none, 0, 0, [], hcs, ⟨rfl, Nat.le_refl _, by simp [maxLen], by simp, .inl rfl⟩, by simp⟩
  · injection hcs with hcs
    simp only [if_true] at hmm
    have each : ∀ i, i < l → ∃ q : Ac, (q.Ok W ∧ (-9223372036854775808 ≤ q.n ∧ q.n ≤ 9223372036854775807)) ∧ ∀ j v, q.cells[j]? = some v → W.cell? (a.add (i * 12 + j)) = some v := by
      intro i hil
      obtain ⟨cs', h1, h2⟩ := hi i (by omega)
      rw [c41] at h1
      obtain ⟨_, hlen, hcell⟩ := World.cells?_some h1
      obtain ⟨xs, k, _, _, _, hxl, hf⟩ := DataW.trod_struct Tryz.underlying41 h2
      match cs', hlen with
      | [v0, v1, v2, v3, v4, v5, v6, v7, v8, v9, v10, v11], _ =>
        have g0 := hf 0 _ rfl
        have g1 := hf 1 _ rfl
        have g2 := hf 2 _ rfl
        have g3 := hf 3 _ rfl
        have g4 := hf 4 _ rfl
        have g5 := hf 5 _ rfl
        match xs, hxl with
        | [y0, y1, y2, y3, y4, y5], _ =>
          simp [k3] at g0 g1
          simp [ke] at g2
          simp [kt] at g3
          simp [k9] at g4
          simp [kl] at g5
          obtain ⟨n0, e0, _, w0⟩ := DataW.trod_int Tryz.underlying3 g0
          obtain ⟨n1, e1, _, w1⟩ := DataW.trod_int Tryz.underlying3 g1
          obtain ⟨e, e2, hb1, hb2⟩ := open_ent g2
          obtain ⟨aT, nT, cT, lt, e3, hT⟩ := open_i64s g3
          obtain ⟨zs, e4, _, w4⟩ := DataW.trod_string Tryz.underlying9 g4
          obtain ⟨aL, nL, cL, ks, e5, hL⟩ := open_keeps9 g5
          injection e0 with e0
          injection e1 with e1
          injection e4 with e4
          simp at e2
          obtain ⟨rfl, rfl, rfl, rfl, rfl, rfl, rfl⟩ := e2
          subst e0 e1 e3 e4 e5
          refine ⟨⟨n0, n1, e, aT, nT, cT, lt, zs, aL, nL, cL, ks⟩, ⟨⟨hT, hL, hb1, hb2⟩, wf_i64 w1⟩, fun j v hj => ?_⟩
          have hjl : j < 12 := by have := (List.getElem?_eq_some_iff.1 hj).1; simpa [Ac.cells] using this
          have := hcell j (by omega)
          rw [add_add] at this
          rw [this]
          exact hj
    obtain ⟨q, hq⟩ := choose_lt each
    refine ⟨some a, l, c, (List.range l).map q, hcs, ⟨by simp, hl, hm, ?_, ?_⟩, ?_⟩
    · intro x hx
      obtain ⟨i, hi', rfl⟩ := List.mem_map.1 hx
      exact (hq i (List.mem_range.1 hi')).1.1
    · by_cases h0 : l = 0
      · subst h0; exact .inl rfl
      · obtain ⟨b, off, spot⟩ := a
        have hc0 := (hq 0 (by omega)).2 0 _ rfl
        have hspot : spot = none := by simpa [Addr.add] using World.cell?_spot hc0
        subst hspot
        refine .inr ⟨b, off, rfl, by simpa [Addr.add] using World.block_lt_of_cell? W _ hc0, fun i x hx j v hv => ?_⟩
        have hil : i < l := by have := (List.getElem?_eq_some_iff.1 hx).1; simpa using this
        have hxq : x = q i := by simp [hil] at hx; exact hx.symm
        subst hxq
        have := (hq i hil).2 j v hv
        rw [addr_add] at this
        exact this
    · intro x hx
      obtain ⟨i, hi', rfl⟩ := List.mem_map.1 hx
      exact (hq i (List.mem_range.1 hi')).1.2
end

theorem and1 (x : Int) : ∃ m : Int, (m = 0 ∨ m = 1) ∧ bits .and .i64 x 1 = m := by
  have h1 : bits .and .i64 x 1 = IntKind.i64.wrap (((BitVec.ofInt 64 x) &&& (BitVec.ofInt 64 1)).toNat : Int) := rfl
  have h2 : ((BitVec.ofInt 64 x) &&& (BitVec.ofInt 64 1)).toNat = (BitVec.ofInt 64 x).toNat % 2 := by
    rw [BitVec.toNat_and]
    have : (BitVec.ofInt 64 1).toNat = 2 ^ 1 - 1 := by decide
    rw [this, Nat.and_two_pow_sub_one_eq_mod]
  refine ⟨_, ?_, rfl⟩
  rw [h1, h2]
  have h3 : (BitVec.ofInt 64 x).toNat % 2 < 2 := Nat.mod_lt _ (by decide)
  generalize (BitVec.ofInt 64 x).toNat % 2 = m at *
  have : m = 0 ∨ m = 1 := by omega
  rcases this with rfl | rfl
  · left; rfl
  · right; rfl

/-! ## what is told, in a row of the call's own -/
structure Tl where
  a : Option Addr
  cap : Nat
  l : List En
  k : Kp
def Tl.cells (t : Tl) : List Value := [.slice t.a t.l.length t.cap, .int .i64 t.k.ep, .int .i64 t.k.sq, .int .i64 t.k.t0, .int .i64 t.k.t1, .int .i64 t.k.t2, .int .i64 t.k.t3]
def tls : List Tl → List Value
  | [] => []
  | t :: ts => t.cells ++ tls ts
theorem tls_length : ∀ ts : List Tl, (tls ts).length = ts.length * 7
  | [] => rfl
  | t :: ts => by simp [tls, tls_length ts, Tl.cells]; omega
theorem tls_append : ∀ ts us : List Tl, tls (ts ++ us) = tls ts ++ tls us
  | [], us => rfl
  | t :: ts, us => by simp [tls, tls_append ts us]
theorem tls_get : ∀ {ts : List Tl} {i : Nat} {t : Tl}, ts[i]? = some t → ∀ j v, t.cells[j]? = some v → (tls ts)[i * 7 + j]? = some v
  | [], i, t, h, _, _, _ => by simp at h
  | u :: ts, 0, t, h, j, v, hj => by
    simp at h
    subst h
    have : j < u.cells.length := (List.getElem?_eq_some_iff.1 hj).1
    simp only [tls, Nat.zero_mul, Nat.zero_add]
    rw [List.getElem?_append_left this]
    exact hj
  | u :: ts, i + 1, t, h, j, v, hj => by
    have h2 : ts[i]? = some t := by simpa using h
    have := tls_get h2 j v hj
    simp only [tls]
    rw [List.getElem?_append_right (by simp [Tl.cells]; omega)]
    simp only [Tl.cells, List.length_cons, List.length_nil]
    rw [show (i + 1) * 7 + j - (0 + 1 + 1 + 1 + 1 + 1 + 1 + 1) = i * 7 + j by omega]
    exact this

structure OwnT (base : Nat) (w : World) (g off cap : Nat) (ts : List Tl) : Prop where
  bs : base ≤ g
  le : ts.length ≤ cap
  mx : cap ≤ maxLen
  at' : ∃ cur, w.heap[g]? = some (.cells cur 33 (0, 0)) ∧ off + cap * 7 ≤ cur.size ∧ ∀ j v, (tls ts)[j]? = some v → cur[off + j]? = some v
theorem OwnT.lt {base : Nat} {w : World} {g off cap : Nat} {ts : List Tl} (h : OwnT base w g off cap ts) : g < w.heap.size := by
  obtain ⟨cur, h1, _⟩ := h.at'
  exact lt_of_heap h1
theorem OwnT.but {base : Nat} {w w' : World} {g off cap : Nat} {ts : List Tl} (h : OwnT base w g off cap ts) {q : List Nat} (hb : But q w w') (hn : g ∉ q) : OwnT base w' g off cap ts := by
  have hl := h.lt
  obtain ⟨h1, h2, h3, cur, h4, h5⟩ := h
  exact ⟨h1, h2, h3, cur, (hb.block g hl hn).trans h4, h5⟩
theorem OwnT.cell {base : Nat} {w : World} {g off cap : Nat} {ts : List Tl} (h : OwnT base w g off cap ts) {j : Nat} {v : Value} (hj : (tls ts)[j]? = some v) : w.cell? ⟨g, off + j, none⟩ = some v := by
  obtain ⟨cur, h1, h2, h3⟩ := h.at'
  simp only [World.cell?, h1]
  simpa using h3 j v hj
theorem OwnT.el {base : Nat} {w : World} {g off cap : Nat} {ts : List Tl} (h : OwnT base w g off cap ts) {i : Nat} {t : Tl} (hi : ts[i]? = some t) :
    w.cell? ⟨g, off + i * 7, none⟩ = some (.slice t.a t.l.length t.cap) ∧ w.cell? ⟨g, off + i * 7 + 1, none⟩ = some (.int .i64 t.k.ep) ∧ w.cell? ⟨g, off + i * 7 + 2, none⟩ = some (.int .i64 t.k.sq) ∧ w.cell? ⟨g, off + i * 7 + 3, none⟩ = some (.int .i64 t.k.t0) ∧ w.cell? ⟨g, off + i * 7 + 4, none⟩ = some (.int .i64 t.k.t1) ∧ w.cell? ⟨g, off + i * 7 + 5, none⟩ = some (.int .i64 t.k.t2) ∧ w.cell? ⟨g, off + i * 7 + 6, none⟩ = some (.int .i64 t.k.t3) := by
  have key : ∀ j v, t.cells[j]? = some v → w.cell? ⟨g, off + i * 7 + j, none⟩ = some v := fun j v hj => by
    have := h.cell (tls_get hi j v hj)
    rwa [← Nat.add_assoc] at this
  exact ⟨key 0 _ rfl, key 1 _ rfl, key 2 _ rfl, key 3 _ rfl, key 4 _ rfl, key 5 _ rfl, key 6 _ rfl⟩
/-- the last of them alone -/
theorem OwnT.last {base : Nat} {w : World} {g off cap : Nat} {ts : List Tl} {t : Tl} (h : OwnT base w g off cap (ts ++ [t])) : OwnT base w g (off + ts.length * 7) (cap - ts.length) [t] := by
  obtain ⟨h1, h2, h3, cur, h4, h5, h6⟩ := h
  simp at h2
  refine ⟨h1, by simp; omega, by omega, cur, h4, by rw [Nat.sub_mul]; omega, fun j v hj => ?_⟩
  have e : (tls (ts ++ [t]))[ts.length * 7 + j]? = some v := by
    rw [tls_append, List.getElem?_append_right (by rw [tls_length]; omega), tls_length, show ts.length * 7 + j - ts.length * 7 = j by omega]
    exact hj
  have := h6 _ _ e
  rwa [← Nat.add_assoc] at this

theorem state_info : (Tryz.prog.info? 33).map (fun i => (i.zero, i.size, i.bytes)) = some (some (.agg #[.slice none 0 0, .int .i64 0, .int .i64 0, .int .i64 0, .int .i64 0, .int .i64 0, .int .i64 0]), 7, 72) := by kernel_rfl
theorem run_append_told (w : World) (ty : TypeId) {base g off cap : Nat} {ts : List Tl} (h : OwnT base w g off cap ts) (b c : Nat) (t : Tl) (hr : ∀ j v, t.cells[j]? = some v → w.cell? ⟨b, j, none⟩ = some v) (hsum : ts.length + 1 ≤ 1000000) (hbase : base ≤ w.heap.size) :
    ∃ g' off' cap' w', (Builtin.append_ #[35, 35] ty #[.slice (some ⟨g, off, none⟩) ts.length cap, .slice (some ⟨b, 0, none⟩) 1 c]).run Tryz.prog w = .ok (.slice (some ⟨g', off', none⟩) (ts.length + 1) cap') w' ∧ OwnT base w' g' off' cap' (ts ++ [t]) ∧ But [g] w w' ∧ (g' = g ∨ w.heap.size ≤ g') := by
  obtain ⟨i0, hi0, hz0, hz1, hz2⟩ := info_parts state_info
  have hlt := h.lt
  obtain ⟨h1, h2, h3, cur, h4, h5, h6⟩ := h
  have hone : ∀ u ∈ t.cells, u.oneCell' = true := by intro u hu; simp [Tl.cells] at hu; rcases hu with rfl | rfl | rfl | rfl | rfl | rfl | rfl <;> rfl
  have hlen : t.cells.length = 7 := rfl
  have hnew : ∀ j v, t.cells[j]? = some v → w.cell? ((⟨b, 0, none⟩ : Addr).add j) = some v := fun j v hj => by rw [Addr.add_lit, Nat.zero_add]; exact hr j v hj
  have htl : (tls (ts ++ [t])) = tls ts ++ t.cells := by rw [tls_append]; simp [tls]
  by_cases hroom : ts.length + 1 ≤ cap
  · have hf := run_firstCells_some (P := Tryz.prog) w i0.size 1 ⟨b, 0, none⟩ 1 c t.cells (by rw [hlen, hz1]) hnew
    have hst := run_storeCells_at Tryz.prog g (off + ts.length * 7) 33 t.cells 0 cur w h4 (by rw [hlen]; omega) hone
    simp only [Nat.add_zero] at hst
    refine ⟨g, off, cap, w.setRow g (cur.toList.take (off + ts.length * 7) ++ t.cells ++ cur.toList.drop (off + ts.length * 7 + t.cells.length)).toArray, ?_, ⟨h1, by simp; omega, h3, _, setRow_heap w g cur _ _ _ h4, ?_, fun j v hj => ?_⟩, ?_, .inl rfl⟩
    · rw [hz1] at hf
      simp [Builtin.append_, run_underlying Tryz.underlying35, sizeOf, typeInfo, hi0, Builtin.lenOf, hroom, hf, hz1, Addr.add_lit, hst]
    · simp only [List.size_toArray, List.length_append, List.length_take, List.length_drop, Array.length_toList, hlen]
      omega
    · rw [htl] at hj
      have hlts : (tls ts).length = ts.length * 7 := tls_length ts
      by_cases hjl : j < ts.length * 7
      · rw [List.getElem?_append_left (by omega)] at hj
        have := h6 j v hj
        simp only [List.getElem?_toArray]
        rw [List.append_assoc, List.getElem?_append_left (by simp; omega), List.getElem?_take_of_lt (by omega), Array.getElem?_toList]
        exact this
      · rw [List.getElem?_append_right (by omega), hlts] at hj
        have hj7 : j - ts.length * 7 < 7 := by have := (List.getElem?_eq_some_iff.1 hj).1; rw [hlen] at this; exact this
        simp only [List.getElem?_toArray]
        have hl2 : (cur.toList.take (off + ts.length * 7)).length = off + ts.length * 7 := by simp; omega
        rw [List.append_assoc, List.getElem?_append_right (by omega), List.getElem?_append_left (by rw [hl2, hlen]; omega), hl2, show off + j - (off + ts.length * 7) = j - ts.length * 7 by omega]
        exact hj
    · exact ⟨rfl, rfl, rfl, by simp, fun k hk hn => setRow_other w g k _ (fun e => hn (by simp [e]))⟩
  · have hcapn : cap = ts.length := by omega
    have hold : ∀ j v, (tls ts)[j]? = some v → w.cell? ((⟨g, off, none⟩ : Addr).add j) = some v := fun j v hj => by
      have := h6 j v hj
      rw [Addr.add_lit]
      simp only [World.cell?, h4]
      simpa using this
    have hr2 := run_append_grow (P := Tryz.prog) w (ty := ty) 35 33 i0 _ Tryz.underlying35 hi0 hz0 ⟨g, off, none⟩ ts.length cap (tls ts) (by rw [tls_length, hz1]) hold ⟨b, 0, none⟩ 1 c t.cells (by rw [hlen, hz1]) hnew (by omega) (by omega) (by rw [hz2]; exact growslice_fits (by omega) (by omega))
    have hge := grownCap_ge w (ts.length + 1) cap 33
    have hle := grownCap_le_maxLen w (ts.length + 1) cap 33 (by simp only [maxLen]; omega)
    refine ⟨w.heap.size, 0, _, _, hr2, ⟨by omega, by simp; omega, hle, _, heap_alloc_new w.drew _, ?_, fun j v hj => ?_⟩, ⟨rfl, rfl, rfl, by simp, fun k hk _ => heap_alloc_old w.drew _ hk⟩, .inr (Nat.le_refl _)⟩
    · simp only [Array.size_append, List.size_toArray, size_zeroCells, tls_length, hlen]
      show 0 + grownCap w (ts.length + 1) cap _ * 7 ≤ ts.length * 7 + 7 + (grownCap w (ts.length + 1) cap _ - (ts.length + 1)) * 7
      omega
    · rw [htl] at hj
      have hjl : j < (tls ts).length + t.cells.length := by have := (List.getElem?_eq_some_iff.1 hj).1; simpa using this
      rw [Nat.zero_add, Array.getElem?_append_left (by simp; omega)]
      rw [← hj]
      simp

theorem wpList_append_told (w : World) {ops : Array Oper} {rest : List Oper} {o : Oper} {act : Act} {Q : Exit → Act → World → Prop} (hgd : o.guard = none) (s x : Operand)
    (ho : o.op = .call { callee := .builtin .append, args := #[s, x], argTypes := #[35, 35] })
    {base g off cap k : Nat} (ts : List Tl) (hs : act.eval s = .slice (some ⟨g, off, none⟩) k cap) (hk : ts.length = k) (hown : OwnT base w g off cap ts) (hB : base ≤ w.heap.size)
    (b c : Nat) (t : Tl) (hx : act.eval x = .slice (some ⟨b, 0, none⟩) 1 c) (hr : ∀ j v, t.cells[j]? = some v → w.cell? ⟨b, j, none⟩ = some v) (hsum : k + 1 ≤ 1000000)
    (h : ∀ g' off' cap' w', OwnT base w' g' off' cap' (ts ++ [t]) → But [g] w w' → (g' = g ∨ w.heap.size ≤ g') → wpList Tryz.prog ops Q rest (act.put o.dst (.slice (some ⟨g', off', none⟩) (k + 1) cap')) w') : wpList Tryz.prog ops Q (o :: rest) act w := by
  refine wpList_plain hgd fun K hK => ?_
  subst hk
  obtain ⟨g', off', cap', w', hrun, h5, h6, h7⟩ := run_append_told w o.type hown b c t hr hsum hB
  unfold Oper.wp execOp
  simp only [ho, resolve, invoke, builtin, Sem.run_bind, Sem.run_pure, Result.andThen_ok, List.map_toArray, List.map_cons, List.map_nil, hs, hx, hrun]
  exact hK _ _ (h g' off' cap' w' h5 h6 h7)

/-- what was told, with the rows of entries: none of them lies where the cache does -/
structure Ws (w : World) (base : Nat) (no : List Nat) (g off cap : Nat) (ts : List Tl) : Prop where
  own : OwnT base w g off cap ts
  each : ∀ t ∈ ts, OwnE base w t.a t.cap t.l ∧ (∀ b, t.a = some ⟨b, 0, none⟩ → b ∉ no ∧ b ≠ g ∧ b < w.heap.size)
  out : g ∉ no
theorem Ws.but {w w' : World} {base : Nat} {no : List Nat} {g off cap : Nat} {ts : List Tl} (h : Ws w base no g off cap ts) {q : List Nat} (hb : But q w w') (hq : ∀ x ∈ q, x ∈ no ∨ w.heap.size ≤ x) : Ws w' base no g off cap ts := by
  refine ⟨h.own.but hb (fun z => by rcases hq _ z with y | y; exact h.out y; have := h.own.lt; omega), fun t ht => ?_, h.out⟩
  obtain ⟨h1, h2⟩ := h.each t ht
  refine ⟨h1.but hb (fun b e z => ?_), fun b e => ⟨(h2 b e).1, (h2 b e).2.1, Nat.lt_of_lt_of_le (h2 b e).2.2 hb.size⟩⟩
  rcases hq _ z with y | y
  · exact (h2 b e).1 y
  · have := (h2 b e).2.2; omega
theorem Ws.no {w : World} {base : Nat} {no no' : List Nat} {g off cap : Nat} {ts : List Tl} (h : Ws w base no g off cap ts) (hn : ∀ x ∈ no', x ∈ no ∨ w.heap.size ≤ x) : Ws w base no' g off cap ts := by
  have key : ∀ b, b < w.heap.size → b ∉ no → b ∉ no' := fun b h1 h2 z => by rcases hn b z with y | y; exact h2 y; omega
  exact ⟨h.own, fun t ht => ⟨(h.each t ht).1, fun b e => ⟨key b ((h.each t ht).2 b e).2.2 ((h.each t ht).2 b e).1, ((h.each t ht).2 b e).2⟩⟩, key g h.own.lt h.out⟩
theorem Ws.below {w w' : World} {base : Nat} {no : List Nat} {g off cap : Nat} {ts : List Tl} (h : Ws w base no g off cap ts) (hb : Below w.heap.size w w') : Ws w' base no g off cap ts := h.but (But.of_below hb) (by simp)
/-- one more -/
theorem Ws.more {w w' : World} {base : Nat} {no : List Nat} {g off cap g' off' cap' : Nat} {ts : List Tl} {t : Tl} (h : Ws w base no g off cap ts) (ho : OwnT base w' g' off' cap' (ts ++ [t])) (hb : But [g] w w') (hg : g' = g ∨ w.heap.size ≤ g') (hno : ∀ x ∈ no, x < w.heap.size)
    (ht : OwnE base w t.a t.cap t.l) (ht2 : ∀ b, t.a = some ⟨b, 0, none⟩ → b ∉ no ∧ b ≠ g ∧ b < w.heap.size) : Ws w' base no g' off' cap' (ts ++ [t]) := by
  have key : ∀ t : Tl, OwnE base w t.a t.cap t.l → (∀ b, t.a = some ⟨b, 0, none⟩ → b ∉ no ∧ b ≠ g ∧ b < w.heap.size) → OwnE base w' t.a t.cap t.l ∧ (∀ b, t.a = some ⟨b, 0, none⟩ → b ∉ no ∧ b ≠ g' ∧ b < w'.heap.size) := fun t h1 h2 => by
    refine ⟨h1.but hb (fun b e z => (h2 b e).2.1 (by simpa using z)), fun b e => ⟨(h2 b e).1, ?_, Nat.lt_of_lt_of_le (h2 b e).2.2 hb.size⟩⟩
    have := h2 b e
    omega
  refine ⟨ho, fun u hu => ?_, fun z => ?_⟩
  · rcases List.mem_append.1 hu with hu | hu
    · exact key u (h.each u hu).1 (h.each u hu).2
    · obtain rfl : u = t := by simpa using hu
      exact key u ht ht2
  · rcases hg with e | e
    · rw [e] at z; exact h.out z
    · have := hno _ z; omega
theorem Ws.last {w : World} {base : Nat} {no : List Nat} {g off cap : Nat} {ts : List Tl} {t : Tl} (h : Ws w base no g off cap (ts ++ [t])) : Ws w base no g (off + ts.length * 7) (cap - ts.length) [t] :=
  ⟨h.own.last, fun u hu => h.each u (by simp at hu; subst hu; simp), h.out⟩

/-- how it was seen -/
def Pw (nb : Nat) (ts : List Tl) (v : Vi) : Prop := ∃ t ∈ ts, t.l = allV nb v.e ∧ t.k = v.k
theorem Pw.snoc {nb : Nat} {ts : List Tl} {t : Tl} {V : Vi} (h1 : t.l = allV nb V.e) (h2 : t.k = V.k) : ∀ v, (Pw nb ts v ∨ v = V) → Pw nb (ts ++ [t]) v := fun v hv => by
  rcases hv with ⟨u, hu, h⟩ | rfl
  · exact ⟨u, List.mem_append_left _ hu, h⟩
  · exact ⟨t, by simp, h1, h2⟩
theorem Pw.more {nb : Nat} {ts us : List Tl} : ∀ v, Pw nb ts v → Pw nb (ts ++ us) v := fun v ⟨u, hu, h⟩ => ⟨u, List.mem_append_left _ hu, h⟩
theorem Pw.one {nb : Nat} {t : Tl} {V : Vi} (h1 : t.l = allV nb V.e) (h2 : t.k = V.k) : ∀ v, v = V → Pw nb [t] v := fun v hv => by subst hv; exact ⟨t, by simp, h1, h2⟩

end Q
end Go.Proofs.YtmcalgnpinolmaaGreat
namespace Go.Proofs.YtmcalgnpinolmaaGreat
open Go.RowKit Go.Maps
set_option linter.unusedVariables false
set_option linter.unusedSimpArgs false
set_option maxRecDepth 20000
namespace Q
variable {B : Bk} {G : Gm} {V : Vi} {K : Int} {P P' : Vi → Prop}

theorem full_ct (w : World) (h : Ct w B G V) (b : Int) (hb0 : -9223372036854775808 ≤ b) (hb1 : b ≤ 9223372036854775807) : Calls Tryz.prog 19 #[.pointer (some ⟨B.qB, 0, none⟩), .int .i64 b] w fun e w' => ∃ v, e = .returned v ∧ BoolV (fullV G.nb G.N V b) v ∧ Below w.heap.size w w' := by
  have HG := Lib.hid (get_ct w h b hb0 hb1)
  have HA : Hid (∀ w', Below w.heap.size w w' → Calls Tryz.prog 20 #[.pointer (some ⟨B.qB, 0, none⟩)] w' fun e w'' => ∃ a cap, e = .returned (.slice a (num G.nb V.e) cap) ∧ Below w.heap.size w w'') := Lib.hid (fun w' hb => by
    refine (all_ct w' (h.below hb)).mono ?_
    rintro e w'' ⟨a, cap, rfl, _, hb2⟩
    exact ⟨a, cap, rfl, hb.trans (hb2.mono hb.size)⟩)
  have HR : Hid (∀ w', Below w.heap.size w w' → Calls Tryz.prog 24 #[.pointer (some ⟨B.qB, 0, none⟩)] w' fun e w'' => e = .returned (.int .i64 ((G.N - 6 : Nat) : Int)) ∧ w' = w'') := Lib.hid (fun w' hb => room_ct w' (h.below hb))
  have hnI : (num G.nb V.e : Int) ≤ 32 := by have : num G.nb V.e ≤ 32 := Nat.le_trans (cnt_le _ _) h.ok.nb; omega
  have hn0 : (0 : Int) ≤ (num G.nb V.e : Int) := by omega
  have hrI : ((G.N - 6 : Nat) : Int) ≤ 512 := by have := h.n5; omega
  have hr0 : (0 : Int) ≤ ((G.N - 6 : Nat) : Int) := by omega
  obtain ⟨z, hz⟩ : ∃ z, (V.e b).getD zeroE = z := ⟨_, rfl⟩
  obtain ⟨hd, hhd⟩ : ∃ hd, (V.e b).isSome = hd := ⟨_, rfl⟩
  have HF : Hid (fullV G.nb G.N V b → hd = false ∧ G.N - 6 ≤ num G.nb V.e) := Lib.hid (fun f => ⟨by rw [← hhd, f.1]; rfl, f.2⟩)
  unfold entV at HG
  rw [hz, hhd] at HG
  obtain ⟨xb, xp, xq, xd, xy, xc, xn⟩ := z
  simp only [En.val] at HG
  clear h hz hhd hb0 hb1
  cases hd with
  | true =>
    go_enter Tryz.func19, Tryz.ntmps19
    go_wp2_with (go_at_call 25; with_reducible refine HG.out.mono ?_; rintro e w1 ⟨rfl, hb1⟩; have HB1 := Lib.hid (hb1.alloc hb1.size (.cells #[.int .i64 xb, .int .i64 xp, .int .i64 xq, .string xd, .bool xy, .int .i64 xc, .int .i64 xn] 37)); clear hb1)
    go_ret
    exact ⟨_, rfl, ⟨false, rfl, fun f => by have := (HF.out f).1; cases this⟩, HB1.out⟩
  | false =>
    go_enter Tryz.func19, Tryz.ntmps19
    go_wp2_with (first
      | (go_at_call 25; with_reducible refine HG.out.mono ?_; rintro e w1 ⟨rfl, hb1⟩; have HB1 := Lib.hid (hb1.alloc hb1.size (.cells #[.int .i64 xb, .int .i64 xp, .int .i64 xq, .string xd, .bool xy, .int .i64 xc, .int .i64 xn] 37)); have HA1 := Lib.hid (HA.out _ HB1.out); clear hb1)
      | (go_at_call 20; with_reducible refine HA1.out.mono ?_; rintro e w2 ⟨a2, c2, rfl, hb2⟩; have HB2 := Lib.hid hb2; have HR2 := Lib.hid (HR.out _ hb2); clear hb2)
      | (go_at_call 24; with_reducible refine HR2.out.mono ?_; rintro e w3 ⟨rfl, rfl⟩))
    go_ret
    exact ⟨_, rfl, ⟨_, rfl, fun f => by have := (HF.out f).2; simp; omega⟩, HB2.out⟩

def notB (b : Int) (x : En) : Bool := decide (x.b ≠ b)
theorem allV_without {nb : Nat} {e : Vm} {b : Int} (hk : ∀ c x, e c = some x → x.b = c) : (allV nb e).filter (notB b) = allV nb (updV e b none) := by
  induction nb with
  | zero => rfl
  | succ n ih =>
    unfold allV
    rw [List.filter_append, ih]
    congr 1
    unfold updV
    cases he : e (n : Int) with
    | none => by_cases hb : (n : Int) = b <;> simp [hb]
    | some x =>
      have := hk _ x he
      by_cases hb : (n : Int) = b
      · rw [if_pos hb]; simp [notB, this, hb]
      · rw [if_neg hb]; simp [notB, this, hb]

set_option maxHeartbeats 2000000 in
theorem without_q (w : World) (B0 : Nat) (a : Option Addr) (cap : Nat) (l : List En) (n : Nat) (hn : l.length = n) (h : OwnE B0 w a cap l) (b : Int) :
    Calls Tryz.prog 21 #[.slice a n cap, .int .i64 b] w fun e w' => ∃ a' cap', e = .returned (.slice a' (l.filter (notB b)).length cap') ∧ OwnE w.heap.size w' a' cap' (l.filter (notB b)) ∧ Below w.heap.size w w' := by
  subst hn
  have HO := Lib.hid h
  have hl6 := h.2
  have hnI : (l.length : Int) ≤ 1000 := by omega
  have hn0 : (0 : Int) ≤ (l.length : Int) := by omega
  have HL := Lib.hid hl6
  clear h hl6
  go_enter Tryz.func21, Tryz.ntmps21
  go_wp2_with fail
  go_loopw [5, 10] (fun sl i wr => ∃ (k m : Nat) (fl : List En) (a' : Option Addr) (cap' : Nat), k ≤ l.length ∧ sl = .slice a' m cap' ∧ i = .int .i64 k ∧ Hid (fl = (l.take k).filter (notB b) ∧ fl.length = m ∧ m ≤ k) ∧ OwnE w.heap.size wr a' cap' fl ∧ Below w.heap.size w wr) (fun _ i _ => l.length - (RowKit.intOf i).toNat)
  case atStart =>
    refine ⟨0, 0, [], _, _, by omega, rfl, rfl, Lib.hid ⟨by simp, rfl, Nat.le_refl _⟩, ?_, (Below.refl _ _).alloc (Nat.le_refl _) _⟩
    exact OwnE.mk' (Nat.le_refl _) (heap_alloc_new w _) (by simp) (by simp [maxLen]) (by simp) (by simp [ents]) (by simp)
  case round =>
    obtain ⟨k, m, fl, a', cap', hk, rfl, rfl, HFl, hown, hb⟩ := hrel
    have HOw := Lib.hid hown
    have HB := Lib.hid hb
    clear hown hb
    by_cases hlt : k < l.length
    · have hltI : (k : Int) < (l.length : Int) := by omega
      obtain ⟨x, hx⟩ : ∃ x, l[k]? = some x := ⟨_, List.getElem?_eq_getElem hlt⟩
      obtain ⟨g, rfl, _, hg, hc⟩ := HO.out.cell hx
      obtain ⟨xb, xp, xq, xd, xy, xc, xn⟩ := x
      obtain ⟨c0, c1, c2, c3, c4, c5, c6⟩ := hc.but (But.of_below HB.out) (by simp)
      simp only at c0 c1 c2 c3 c4 c5 c6
      have hbn := (Below.refl wr.heap.size wr).alloc (Nat.le_refl _) (.cells #[.int .i64 xb, .int .i64 xp, .int .i64 xq, .string xd, .bool xy, .int .i64 xc, .int .i64 xn] 37)
      have HO2 : Hid (OwnE w.heap.size (wr.alloc (.cells #[.int .i64 xb, .int .i64 xp, .int .i64 xq, .string xd, .bool xy, .int .i64 xc, .int .i64 xn] 37)) a' cap' fl) := Lib.hid (HOw.out.but (But.of_below hbn) (by simp))
      have HE2 : Hid (EAt (wr.alloc (.cells #[.int .i64 xb, .int .i64 xp, .int .i64 xq, .string xd, .bool xy, .int .i64 xc, .int .i64 xn] 37)) wr.heap.size 0 ⟨xb, xp, xq, xd, xy, xc, xn⟩) := Lib.hid (by
        refine ⟨?_, ?_, ?_, ?_, ?_, ?_, ?_⟩ <;> (rw [World.cell?_alloc_mark]; rfl))
      have HBa : Hid (Below w.heap.size w (wr.alloc (.cells #[.int .i64 xb, .int .i64 xp, .int .i64 xq, .string xd, .bool xy, .int .i64 xc, .int .i64 xn] 37))) := Lib.hid (HB.out.alloc HB.out.size _)
      have HLk : Hid (m + 1 ≤ 1000) := Lib.hid (by have := HFl.out.2.2; have := HL.out; omega)
      have Hlt := Lib.hid hlt
      by_cases hbb : xb = b
      · have HTk : Hid (fl = (l.take (k + 1)).filter (notB b) ∧ fl.length = m ∧ m ≤ k + 1) := Lib.hid ⟨by rw [List.take_add_one, hx, List.filter_append, ← HFl.out.1]; simp [notB, hbb], HFl.out.2.1, by have := HFl.out.2.2; omega⟩
        clear hlt hk hx hc hbn hg
        go_wp2_with fail
        go_roundw
        case rel => exact ⟨k + 1, m, fl, a', cap', by have := Hlt.out; omega, rfl, by go_num, HTk, HOw.out, HB.out⟩
        case measure => have := Hlt.out; simp [RowKit.intOf]; omega
      · have HTk : Hid (fl ++ [⟨xb, xp, xq, xd, xy, xc, xn⟩] = (l.take (k + 1)).filter (notB b) ∧ (fl ++ [(⟨xb, xp, xq, xd, xy, xc, xn⟩ : En)]).length = m + 1 ∧ m + 1 ≤ k + 1) := Lib.hid ⟨by rw [List.take_add_one, hx, List.filter_append, ← HFl.out.1]; simp [notB, hbb], by simp [HFl.out.2.1], by have := HFl.out.2.2; omega⟩
        clear hlt hk hx hc hbn hg
        go_wp2_with (at_builtin
                     refine wpList_append_ent _ rfl (.tmp 20) (.tmp 25) rfl w.heap.size a' m cap' fl rfl HFl.out.2.1 HO2.out HBa.out.size _ 1 _ rfl HE2.out HLk.out ?_
                     intro a2 cap2 w2 hown2 hb2
                     have HO3 := Lib.hid hown2
                     have HB3 : Hid (Below w.heap.size w w2) := Lib.hid (HBa.out.trans hb2)
                     clear hown2 hb2)
        go_roundw
        case rel => exact ⟨k + 1, m + 1, _, a2, cap2, by have := Hlt.out; omega, rfl, by go_num, HTk, HO3.out, HB3.out⟩
        case measure => have := Hlt.out; simp [RowKit.intOf]; omega
    · obtain rfl : k = l.length := by omega
      have hltI : ¬ (l.length : Int) < (l.length : Int) := by omega
      clear hlt hk
      go_wp2_with fail
      go_ret
      obtain ⟨f1, f2, f3⟩ := HFl.out
      rw [List.take_length] at f1
      subst f1
      subst f2
      exact ⟨_, _, rfl, HOw.out, HB.out⟩

end Q
end Go.Proofs.YtmcalgnpinolmaaGreat
namespace Go.Proofs.YtmcalgnpinolmaaGreat
open Go.RowKit Go.Maps
set_option linter.unusedVariables false
set_option linter.unusedSimpArgs false
set_option maxRecDepth 20000
namespace Q
variable {B : Bk} {G : Gm} {V : Vi} {K : Int} {P P' : Vi → Prop}

/-! ## what a crash keeps, in a row of the call's own -/
def kls : List (Int × Int) → List Value
  | [] => []
  | x :: xs => .int .i64 x.1 :: .int .i64 x.2 :: kls xs
theorem kls_length : ∀ l : List (Int × Int), (kls l).length = l.length * 2
  | [] => rfl
  | x :: xs => by simp [kls, kls_length xs]; omega
theorem kls_get : ∀ {l : List (Int × Int)} {j : Nat} {v : Value}, (kls l)[j]? = some v → ∃ i x, l[i]? = some x ∧ ((j = i * 2 ∧ v = .int .i64 x.1) ∨ (j = i * 2 + 1 ∧ v = .int .i64 x.2))
  | [], j, v, h => by simp [kls] at h
  | x :: xs, 0, v, h => by simp [kls] at h; exact ⟨0, x, rfl, .inl ⟨rfl, h.symm⟩⟩
  | x :: xs, 1, v, h => by simp [kls] at h; exact ⟨0, x, rfl, .inr ⟨rfl, h.symm⟩⟩
  | x :: xs, j + 2, v, h => by
    obtain ⟨i, y, h1, h2⟩ := kls_get (l := xs) (j := j) (v := v) (by simpa [kls] using h)
    refine ⟨i + 1, y, by simpa using h1, ?_⟩
    rcases h2 with ⟨h2, h3⟩ | ⟨h2, h3⟩
    · exact .inl ⟨by omega, h3⟩
    · exact .inr ⟨by omega, h3⟩
theorem kls_at : ∀ {l : List (Int × Int)} {i : Nat} {x : Int × Int}, l[i]? = some x → (kls l)[i * 2]? = some (.int .i64 x.1) ∧ (kls l)[i * 2 + 1]? = some (.int .i64 x.2)
  | [], i, x, h => by simp at h
  | y :: ys, 0, x, h => by simp at h; subst h; exact ⟨rfl, rfl⟩
  | y :: ys, i + 1, x, h => by
    have := kls_at (l := ys) (i := i) (x := x) (by simpa using h)
    rw [show (i + 1) * 2 = i * 2 + 2 by omega, show i * 2 + 2 + 1 = (i * 2 + 1) + 2 by omega]
    simpa [kls] using this

structure KOwn (base : Nat) (w : World) (g n c : Nat) (l : List (Int × Int)) : Prop where
  bs : base ≤ g
  lt : g < w.heap.size
  ln : l.length = n
  le : n ≤ c
  mx : c ≤ maxLen
  cl : ∀ i x, l[i]? = some x → w.cell? ⟨g, i * 2, none⟩ = some (.int .i64 x.1) ∧ w.cell? ⟨g, i * 2 + 1, none⟩ = some (.int .i64 x.2)
  fz : ∀ o, w.frozen? ⟨g, o, none⟩ = false
theorem KOwn.row {base : Nat} {w : World} {g n c : Nat} {l : List (Int × Int)} (h : KOwn base w g n c l) : KRow w (some ⟨g, 0, none⟩) n c l :=
  ⟨h.ln, h.le, h.mx, .inr ⟨g, 0, rfl, h.lt, fun i x hx => by rw [Nat.zero_add]; exact h.cl i x hx⟩⟩
theorem KOwn.set {base : Nat} {w : World} {g n c : Nat} {l : List (Int × Int)} (h : KOwn base w g n c l) {i : Nat} {x : Int × Int} (hx : l[i]? = some x) (v : Int) : KOwn base (w.setCell ⟨g, i * 2, none⟩ (.int .i64 v)) g n c (l.set i (v, x.2)) := by
  have hi : i < l.length := (List.getElem?_eq_some_iff.1 hx).1
  refine ⟨h.bs, by simpa [World.setCell] using h.lt, by simpa using h.ln, h.le, h.mx, fun j y hy => ?_, fun o => by rw [World.frozen?_setCell]; exact h.fz o⟩
  by_cases e : j = i
  · subst e
    rw [List.getElem?_set_self hi] at hy
    injection hy with hy
    subst hy
    exact ⟨World.cell?_setCell_same _ _ _ (h.cl j x hx).1, by rw [World.cell?_setCell_other _ _ _ _ (by simp)]; exact (h.cl j x hx).2⟩
  · rw [List.getElem?_set_ne (by omega)] at hy
    exact ⟨by rw [World.cell?_setCell_other _ _ _ _ (by intro z; injection z with _ z; omega)]; exact (h.cl j y hy).1, by rw [World.cell?_setCell_other _ _ _ _ (by intro z; injection z with _ z; omega)]; exact (h.cl j y hy).2⟩

theorem keep_info : (Tryz.prog.info? 45).map (fun i => (i.zero, i.size, i.bytes)) = some (some (.agg #[.int .i64 0, .int .i64 0]), 2, 16) := by kernel_rfl
theorem run_append_keeps (w : World) (ty : TypeId) {base g0 : Nat} (hb : base ≤ g0) (hg : w.heap[g0]? = some (.cells #[] 45 (0, 0))) (aL : Option Addr) (nL cL : Nat) (ks : List (Int × Int)) (h : KRow w aL nL cL ks) (hn : nL ≤ 600) :
    ∃ g' c' w', (Builtin.append_ #[39, 39] ty #[.slice (some ⟨g0, 0, none⟩) 0 0, .slice aL nL cL]).run Tryz.prog w = .ok (.slice (some ⟨g', 0, none⟩) nL c') w' ∧ KOwn base w' g' nL c' ks ∧ But [] w w' := by
  obtain ⟨i0, hi0, hz0, hz1, hz2⟩ := info_parts keep_info
  have hlt := lt_of_heap hg
  obtain ⟨h1, h2, h3, h4⟩ := h
  have hfz : ∀ o, w.frozen? ⟨g0, o, none⟩ = false := fun o => by simp [World.frozen?, hg]
  by_cases h0 : nL = 0
  · subst h0
    have hks : ks = [] := List.eq_nil_of_length_eq_zero h1
    subst hks
    refine ⟨g0, 0, w, ?_, ⟨hb, hlt, rfl, Nat.le_refl _, by simp [maxLen], fun i x hx => by simp at hx, hfz⟩, But.refl _ _⟩
    cases aL with
    | none => simp [Builtin.append_, run_underlying Tryz.underlying39, sizeOf, typeInfo, hi0, Builtin.lenOf, Builtin.firstCells, storeCells]
    | some a => simp [Builtin.append_, run_underlying Tryz.underlying39, sizeOf, typeInfo, hi0, Builtin.lenOf, Builtin.firstCells, loadCells, loadCellsFrom, storeCells]
  · rcases h4 with h4 | ⟨b, off, rfl, hbl, hc⟩
    · subst h4; simp at h1; omega
    · have hnew : ∀ j v, (kls ks)[j]? = some v → w.cell? ((⟨b, off, none⟩ : Addr).add j) = some v := fun j v hj => by
        rw [Addr.add_lit]
        obtain ⟨i, x, e1, e2⟩ := kls_get hj
        rcases e2 with ⟨rfl, rfl⟩ | ⟨rfl, rfl⟩
        · exact (hc i x e1).1
        · rw [← Nat.add_assoc]; exact (hc i x e1).2
      have hr2 := run_append_grow (P := Tryz.prog) w (ty := ty) 39 45 i0 _ Tryz.underlying39 hi0 hz0 ⟨g0, 0, none⟩ 0 0 [] (by simp) (by simp) ⟨b, off, none⟩ nL cL (kls ks) (by rw [kls_length, hz1, h1]) hnew (by omega) (by omega) (by rw [hz2]; exact growslice_fits (by omega) (by omega))
      obtain ⟨cs, hr3, hcs⟩ : ∃ cs : Array Value, (Builtin.append_ #[39, 39] ty #[.slice (some ⟨g0, 0, none⟩) 0 0, .slice (some ⟨b, off, none⟩) nL cL]).run Tryz.prog w = .ok (.slice (some ⟨w.heap.size, 0, none⟩) nL (grownCap w nL 0 45)) (w.drew.alloc (.cells cs 45)) ∧ (∀ j v, (kls ks)[j]? = some v → cs[j]? = some v) := by
        rw [Nat.zero_add] at hr2
        refine ⟨_, hr2, fun j v hj => ?_⟩
        have hjl : j < (kls ks).length := (List.getElem?_eq_some_iff.1 hj).1
        rw [Array.getElem?_append_left (by rw [Array.size_append, List.size_toArray, List.size_toArray]; simp only [List.length_nil]; omega), Array.getElem?_append_right (by simp)]
        simpa using hj
      clear hr2
      have hge := grownCap_ge w nL 0 45
      have hle := grownCap_le_maxLen w nL 0 45 (by simp only [maxLen]; omega)
      generalize grownCap w nL 0 45 = gc at *
      have hh : (w.drew.alloc (.cells cs 45)).heap[w.heap.size]? = some (.cells cs 45 (0, 0)) := heap_alloc_new w.drew _
      refine ⟨w.heap.size, gc, _, hr3, ⟨by omega, by simp, h1, hge, hle, fun i x hx => ?_, fun o => ?_⟩, ⟨rfl, rfl, rfl, by simp, fun k hk _ => heap_alloc_old w.drew _ hk⟩⟩
      · have hk := kls_at hx
        have key : ∀ j v, (kls ks)[j]? = some v → (w.drew.alloc (.cells cs 45)).cell? ⟨w.heap.size, j, none⟩ = some v := fun j v hj => by
          simp only [World.cell?, hh]
          simpa using hcs j v hj
        exact ⟨key _ _ hk.1, key _ _ hk.2⟩
      · unfold World.frozen?
        simp only [hh]
        simp

theorem wpList_append_keeps (w : World) {ops : Array Oper} {rest : List Oper} {o : Oper} {act : Act} {Q : Exit → Act → World → Prop} (hgd : o.guard = none) (s x : Operand)
    (ho : o.op = .call { callee := .builtin .append, args := #[s, x], argTypes := #[39, 39] })
    {base g0 : Nat} (hs : act.eval s = .slice (some ⟨g0, 0, none⟩) 0 0) (hb : base ≤ g0) (hg : w.heap[g0]? = some (.cells #[] 45 (0, 0))) (aL : Option Addr) (nL cL : Nat) (ks : List (Int × Int)) (hx : act.eval x = .slice aL nL cL) (hk : KRow w aL nL cL ks) (hn : nL ≤ 600)
    (h : ∀ g' c' w', KOwn base w' g' nL c' ks → But [] w w' → wpList Tryz.prog ops Q rest (act.put o.dst (.slice (some ⟨g', 0, none⟩) nL c')) w') : wpList Tryz.prog ops Q (o :: rest) act w := by
  refine wpList_plain hgd fun K hK => ?_
  obtain ⟨g', c', w', hrun, h5, h6⟩ := run_append_keeps w o.type hb hg aL nL cL ks hk hn
  unfold Oper.wp execOp
  simp only [ho, resolve, invoke, builtin, Sem.run_bind, Sem.run_pure, Result.andThen_ok, List.map_toArray, List.map_cons, List.map_nil, hs, hx, hrun]
  exact hK _ _ (h g' c' w' h5 h6)
end Q
end Go.Proofs.YtmcalgnpinolmaaGreat
namespace Go.Proofs.YtmcalgnpinolmaaGreat
open Go.RowKit Go.Maps
set_option linter.unusedVariables false
set_option linter.unusedSimpArgs false
set_option maxRecDepth 20000
namespace Q
variable {B : Bk} {G : Gm} {V : Vi} {K : Int} {P P' : Vi → Prop}

variable {w0 : World}
/-- a cache of the call's own, where the power may go -/
structure RX (w0 w : World) (B : Bk) (G : Gm) (P : Vi → Prop) (V : Vi) (K : Int) : Prop where
  cs : CV w B G P V K
  be : Below w0.heap.size w0 w
  od : ∀ x ∈ B.l, w0.heap.size ≤ x
theorem RX.below {w w' : World} (h : RX w0 w B G P V K) (hb : Below w.heap.size w w') : RX w0 w' B G P V K := ⟨h.cs.below hb, h.be.trans (hb.mono h.be.size), h.od⟩
theorem RX.mono {w : World} {K' : Int} (h : RX w0 w B G P V K) (hk : K ≤ K') (hp : ∀ v, P v → P' v) : RX w0 w B G P' V K' := ⟨h.cs.mono hk hp, h.be, h.od⟩
theorem RX.but {w w' : World} (h : RX w0 w B G P V K) {q : List Nat} (hb : But q w w') (h1 : ∀ x ∈ B.l, x ∉ q) (h2 : ∀ x ∈ q, w0.heap.size ≤ x) : RX w0 w' B G P V K := ⟨h.cs.but hb h1, h.be.trans (hb.to_below h2 h.be.size), h.od⟩
theorem RX.out {w : World} (h : RX w0 w B G P V K) {q : Nat} (hP : w.heap.size ≤ q) : q ∉ B.l := fun hm => by have := h.cs.lt _ hm; omega
theorem RX.told {w : World} (h : RX w0 w B G P V K) : Calls Tryz.prog 13 #[.pointer (some ⟨B.qB, 0, none⟩)] w fun e w' => ∃ a cap, e = .returned (.agg #[.slice a (num G.nb V.e) cap, .int .i64 V.k.ep, .int .i64 V.k.sq, .int .i64 V.k.t0, .int .i64 V.k.t1, .int .i64 V.k.t2, .int .i64 V.k.t3]) ∧ OwnE w.heap.size w' a cap (allV G.nb V.e) ∧ Below w.heap.size w w' := told_ct w h.cs.ct
theorem RX.all {w : World} (h : RX w0 w B G P V K) : Calls Tryz.prog 20 #[.pointer (some ⟨B.qB, 0, none⟩)] w fun e w' => ∃ a cap, e = .returned (.slice a (num G.nb V.e) cap) ∧ OwnE w.heap.size w' a cap (allV G.nb V.e) ∧ Below w.heap.size w w' := all_ct w h.cs.ct
theorem RX.act {w : World} (h : RX w0 w B G P V K) (hK : K ≤ 600000000) (x : Ac) (hx : x.Ok w) (hmid : x.kind = 0 → ∀ y, fullV G.nb G.N V x.e.b → lowest G.nb V.e = some y → P (dropV V y.b)) :
    Calls Tryz.prog 22 #[.pointer (some ⟨B.qB, 0, none⟩), .agg #[.int .i64 x.kind, .int .i64 x.n, .int .i64 x.e.b, .int .i64 x.e.ep, .int .i64 x.e.sq, .string x.e.data, .bool x.e.dirty, .int .i64 x.e.cl, .int .i64 x.e.n, .slice x.aT x.nT x.cT, .string x.s, .slice x.aL x.nL x.cL]] w fun r w' => ∃ (y : Int) (V' : Vi) (r' : Nat), r = .returned (.int .i64 y) ∧ RX w0 w' (B.row r') G (fun v => (¬ (x.kind = 4 ∧ y = 0) ∧ P v) ∨ v = V') V' (K + 2002) ∧ But B.l w w' ∧ (r' = B.rb ∨ w.heap.size ≤ r') := by
  refine (do_x w h.cs hK x.kind x.n x.e x.aT x.nT x.cT x.s x.aL x.nL x.cL x.t hx.tt hx.b1 hx.b2 hmid).mono ?_
  rintro e w' ⟨y, rfl, V', r', h1, h2, h3⟩
  refine ⟨y, V', r', rfl, ⟨h1, h.be.trans (h3.to_below h.od h.be.size), fun x hx => ?_⟩, h3, h2⟩
  rcases row_l h2 x hx with g | g
  · exact h.od x g
  · exact Nat.le_trans h.be.size g
theorem RX.fuse {w : World} (h : RX w0 w B G P V K) {dB : Nat} (hd : B.dB = dB) (k : Int) (hk1 : -9223372036854775808 ≤ k) (hk2 : k ≤ 9223372036854775807) : Calls Tryz.prog 15 #[.pointer (some ⟨dB, 0, none⟩), .int .i64 k] w fun e w' => e = .returned (.tuple #[]) ∧ RX w0 w' B G P V K ∧ But B.l w w' := by
  subst hd
  refine (fuse_v w h.cs k hk1 hk2).mono ?_
  rintro e w' ⟨rfl, h1, h2⟩
  have h3 : But B.l w w' := h2.mono (by simp [Bk.l])
  exact ⟨rfl, ⟨h1, h.be.trans (h3.to_below h.od h.be.size), h.od⟩, h3⟩
theorem RX.crash {w : World} (h : RX w0 w B G P V K) {dB : Nat} (hd : B.dB = dB) (g n c : Nat) (ks : List (Int × Int)) (hk : KRow w (some ⟨g, 0, none⟩) n c ks) (hg : g ∉ B.l) (hl : ∀ x ∈ ks, x.1 = 0 ∨ x.1 = 1) :
    Calls Tryz.prog 16 #[.pointer (some ⟨dB, 0, none⟩), .slice (some ⟨g, 0, none⟩) n c] w fun e w' => e = .returned (.tuple #[]) ∧ Lf w' dB B.sB B.mB G P K ∧ But [dB, B.sB, B.mB] w w' := by
  subst hd
  exact crash_v w h.cs (some ⟨g, 0, none⟩) n c ks hk (.inr (fun b off e => by injection e with e; injection e with e; subst e; intro z; exact hg (by simp [Bk.l] at z ⊢; omega))) hl
theorem RX.open {w w1 : World} (h : RX w0 w B G P V K) {dB : Nat} (hd : B.dB = dB) (hb : But [dB, B.sB, B.mB] w w1) (hL : Lf w1 dB B.sB B.mB G P K) (hK : K ≤ 900000000) (hnb1 : 1 ≤ G.nb) {x1 x2 x3 x4 x5 : Int} (e1 : x1 = (G.first : Int)) (e2 : x2 = (G.N : Int)) (e3 : x3 = (G.a : Int)) (e4 : x4 = (G.b : Int)) (e5 : x5 = (G.nb : Int)) :
    Calls Tryz.prog 17 #[.pointer (some ⟨dB, 0, none⟩), .int .i64 x1, .int .i64 x2, .int .i64 x3, .int .i64 x4, .int .i64 x5] w1 fun e w' => ∃ (B2 : Bk) (V2 : Vi), e = .returned (.tuple #[.pointer (some ⟨B2.qB, 0, none⟩), .int .i64 0]) ∧ B2.dB = dB ∧ RX w0 w' B2 G (fun v => v = V2) V2 (K + 1) ∧ P V2 ∧ (∀ x ∈ B2.l, x ∈ B.l ∨ w1.heap.size ≤ x) ∧ But B.l w1 w' := by
  subst hd
  have hbe : Below w0.heap.size w0 w1 := h.be.trans (hb.to_below (fun x hx => h.od x (by simp [Bk.l] at hx ⊢; omega)) h.be.size)
  refine (open_v w1 hL hK hnb1 e1 e2 e3 e4 e5).mono ?_
  rintro e w' ⟨B2, V2, rfl, z1, z2, z3, z4, z5, z6, z7⟩
  have h3 : But B.l w1 w' := z7.mono (by simp [Bk.l])
  have hl : ∀ x ∈ B2.l, x ∈ B.l ∨ w1.heap.size ≤ x := fun x hx => by
    simp only [Bk.l, List.mem_cons, List.not_mem_nil, or_false] at hx ⊢
    omega
  refine ⟨B2, V2, rfl, z1, ⟨z4, hbe.trans (h3.to_below h.od hbe.size), fun x hx => ?_⟩, z5, hl, h3⟩
  rcases hl x hx with g | g
  · exact h.od x g
  · exact Nat.le_trans hbe.size g
theorem RX.full {w : World} (h : RX w0 w B G P V K) (b : Int) (hb0 : -9223372036854775808 ≤ b) (hb1 : b ≤ 9223372036854775807) : Calls Tryz.prog 19 #[.pointer (some ⟨B.qB, 0, none⟩), .int .i64 b] w fun e w' => ∃ v, e = .returned v ∧ BoolV (fullV G.nb G.N V b) v ∧ Below w.heap.size w w' := full_ct w h.cs.ct b hb0 hb1
theorem law_open_r (w0 w : World) (hb : Below w0.heap.size w0 w) (x : Int) (wf : (Lit.int .u8 x).wf = true) :
    Calls Tryz.prog 12 #[.int .u8 x] w fun e w' => ∃ (B : Bk) (N : Nat), 8 ≤ N ∧ N ≤ 37 ∧ e = .returned (.tuple #[.pointer (some ⟨B.dB, 0, none⟩), .pointer (some ⟨B.qB, 0, none⟩), .int .i64 (N : Int)]) ∧ RX w0 w' B ⟨N + 2, 2, N, 0, 1, 32⟩ (fun v => v = ⟨vis none0, kp0⟩) ⟨vis none0, kp0⟩ 2 := by
  refine (law_open_x w0 w hb x wf).mono ?_
  rintro e w' ⟨B, N, h8, h37, _, rfl, h1, h2, h3⟩
  exact ⟨B, N, h8, h37, rfl, ⟨h1, hb.trans (h3.mono hb.size), fun y hy => Nat.le_trans hb.size (h2 y hy)⟩⟩
theorem acts9n_at {w w' : World} {a : Option Addr} {n c : Nat} {l : List Ac} (h : Acts9n w a n c l) (hb : Below w.heap.size w w') {k : Nat} (hk : k < n) :
    ∃ b off x, a = some ⟨b, off, none⟩ ∧ l[k]? = some x ∧ x.Ok w' ∧ (-9223372036854775808 ≤ x.n ∧ x.n ≤ 9223372036854775807) ∧ XAt w' b (off + k * 12) x ∧ b < w.heap.size ∧ x.Ok w := by
  obtain ⟨b, off, x, h1, h2, h3, h4, h5, h6⟩ := acts9_at h.1 hb hk
  exact ⟨b, off, x, h1, h2, h4, h.2 x (List.mem_of_getElem? h2), h5, h6, h3⟩
theorem set0' {w : World} {P : Nat} {T : TypeId} {m : Nat × Nat} {a0 a1 a2 a3 a4 a5 a6 : Value} (h : w.heap[P]? = some (.cells #[a0, a1, a2, a3, a4, a5, a6] T m)) (v : Value) : (w.setCell ⟨P, 0, none⟩ v).heap[P]? = some (.cells #[v, a1, a2, a3, a4, a5, a6] T m) := by
  simp [World.setCell, Array.getElem?_modify, h, Array.setIfInBounds]
theorem Told.set0 {w : World} {P : Nat} {a : Option Addr} {n c : Nat} {k : Kp} (h : Told w P a n c k) (a' : Option Addr) (n' c' : Nat) : Told (w.setCell ⟨P, 0, none⟩ (.slice a' n' c')) P a' n' c' k := set0' h _
theorem clean_without {nb N : Nat} {V : Vi} {ts : List Tl} (hok : VOk nb N V) (h : ∀ y ∈ allV nb V.e, y.dirty = false → ∃ t ∈ ts, t.l = (allV nb V.e).filter (notB y.b) ∧ t.k = V.k) : ∀ y, lowest nb V.e = some y → Pw nb ts (dropV V y.b) := fun y hy => by
  obtain ⟨hm, hd⟩ := lowest_mem hy
  obtain ⟨t, h1, h2, h3⟩ := h y hm hd
  exact ⟨t, h1, by rw [h2]; exact allV_without hok.key, h3⟩
end Q
end Go.Proofs.YtmcalgnpinolmaaGreat
namespace Go.Proofs.YtmcalgnpinolmaaGreat
open Go.RowKit Go.Maps
set_option linter.unusedVariables false
set_option linter.unusedSimpArgs false
set_option maxRecDepth 20000
namespace Q
variable {B : Bk} {G : Gm} {V : Vi} {K : Int} {P P' : Vi → Prop}

/-- one that was told, in a block -/
theorem told_one (w : World) (base : Nat) (a : Option Addr) (n cap : Nat) (l : List En) (k : Kp) (hl : l.length = n) (hb : base ≤ w.heap.size) : OwnT base (w.alloc (.cells #[.slice a n cap, .int .i64 k.ep, .int .i64 k.sq, .int .i64 k.t0, .int .i64 k.t1, .int .i64 k.t2, .int .i64 k.t3] 33)) w.heap.size 0 1 [⟨a, cap, l, k⟩] := by
  subst hl
  refine ⟨hb, by simp, by simp [maxLen], _, heap_alloc_new w _, by simp, fun j v hj => ?_⟩
  rw [Nat.zero_add]
  have hj7 : j < 7 := by have := (List.getElem?_eq_some_iff.1 hj).1; rw [tls_length] at this; simpa using this
  simp only [tls, List.append_nil, Tl.cells] at hj
  simpa using hj
theorem told_cells (w : World) (a : Option Addr) (n cap : Nat) (l : List En) (k : Kp) (hl : l.length = n) : ∀ j v, (⟨a, cap, l, k⟩ : Tl).cells[j]? = some v → (w.alloc (.cells #[.slice a n cap, .int .i64 k.ep, .int .i64 k.sq, .int .i64 k.t0, .int .i64 k.t1, .int .i64 k.t2, .int .i64 k.t3] 33)).cell? ⟨w.heap.size, j, none⟩ = some v := by
  subst hl
  intro j v hj
  rw [World.cell?_alloc_mark]
  simpa [Tl.cells] using hj
theorem ws_one {w : World} {base : Nat} {no : List Nat} (a : Option Addr) (n cap : Nat) (l : List En) (k : Kp) (hl : l.length = n) (hb : base ≤ w.heap.size) (hno : ∀ x ∈ no, x < w.heap.size) (ho : OwnE base w a cap l) (ha : ∀ b, a = some ⟨b, 0, none⟩ → b ∉ no) : Ws (w.alloc (.cells #[.slice a n cap, .int .i64 k.ep, .int .i64 k.sq, .int .i64 k.t0, .int .i64 k.t1, .int .i64 k.t2, .int .i64 k.t3] 33)) base no w.heap.size 0 1 [⟨a, cap, l, k⟩] := by
  refine ⟨told_one w base a n cap l k hl hb, fun t ht => ?_, fun z => by have := hno _ z; omega⟩
  obtain rfl : t = ⟨a, cap, l, k⟩ := by simpa using ht
  refine ⟨ho.but (But.of_below ((Below.refl w.heap.size w).alloc (Nat.le_refl _) _)) (by simp), fun b e => ⟨ha b e, ?_, ?_⟩⟩
  · have := (ho.lt (g := b) (o := 0) (z := none) e).2.1; omega
  · have := (ho.lt (g := b) (o := 0) (z := none) e).2.1; simp; omega

theorem EAt.mk8 (w : World) (yb yp yq : Int) (yd : ByteArray) (yy : Bool) (yc yn : Int) : EAt (w.alloc (.cells #[.int .i64 yb, .int .i64 yp, .int .i64 yq, .string yd, .bool yy, .int .i64 yc, .int .i64 yn] 37)) w.heap.size 0 ⟨yb, yp, yq, yd, yy, yc, yn⟩ := by
  refine ⟨?_, ?_, ?_, ?_, ?_, ?_, ?_⟩ <;> (rw [World.cell?_alloc_mark]; rfl)
theorem EAt.belowX {w w' : World} {g o : Nat} {x : En} (h : EAt w g o x) (hb : Below w.heap.size w w') : EAt w' g o x := h.but (But.of_below hb) (by simp)
theorem Ws.move {w w' : World} {base : Nat} {no no' : List Nat} {g off cap : Nat} {ts : List Tl} (h : Ws w base no g off cap ts) (hb : But no w w') (hn : ∀ x ∈ no', x ∈ no ∨ w.heap.size ≤ x) : Ws w' base no' g off cap ts := by
  have h2 := h.but hb (fun x hx => .inl hx)
  have key : ∀ b, b < w.heap.size → b ∉ no → b ∉ no' := fun b h1 h2 z => by rcases hn b z with y | y; exact h2 y; omega
  exact ⟨h2.own, fun t ht => ⟨(h2.each t ht).1, fun b e => ⟨key b ((h.each t ht).2 b e).2.2 ((h.each t ht).2 b e).1, ((h2.each t ht).2 b e).2⟩⟩, key g h.own.lt h.out⟩
structure Kr (w0 w : World) (B0 B1 : Bk) (G : Gm) (V : Vi) (k : Nat) (g off cap : Nat) (ts : List Tl) : Prop where
  db : B1.dB = B0.dB
  rx : RX w0 w B1 G (Pw G.nb ts) V (2 + 2003 * (k : Int))
  ws : Ws w w0.heap.size B1.l g off cap ts
  ln : ts.length ≤ 1 + 40 * k

set_option maxHeartbeats 16000000 in
theorem keeps_any (x0 : Int) (a : Option Addr) (n c : Nat) (l : List Ac) (w : World) (f0 : (Lit.int .u8 x0).wf = true) (hA : Acts9n w a n c l) :
    Calls Tryz.prog 3 #[.int .u8 x0, .slice a n c] w fun e w' => e = .returned (.bool true) ∧ Below w.heap.size w w' := by
  have HA := Lib.hid (awake_any w)
  have HLO := Lib.hid (fun w1 hb => law_open_r w w1 hb x0 f0)
  have HW := Lib.hid hA
  have hnI : (n : Int) ≤ 9223372036854775807 := by have := hA.1.2.1; have := hA.1.2.2.1; unfold maxLen at this; omega
  clear f0 hA
  go_enter Tryz.func3, Tryz.ntmps3
  go_wp2_with (first
    | (go_at_call 11; with_reducible refine HA.out.mono ?_; rintro e w1 ⟨rfl, hb1⟩; have HLO1 := Lib.hid (HLO.out w1 hb1); clear hb1)
    | (go_at_call 12; with_reducible refine HLO1.out.mono ?_; rintro e w2 ⟨B, N, h8, h37, rfl, hR⟩
       have hNI : (N : Int) ≤ 37 := by omega
       have hN0 : (0 : Int) ≤ (N : Int) := by omega
       obtain ⟨G, hG⟩ : ∃ G : Gm, G = ⟨N + 2, 2, N, 0, 1, 32⟩ := ⟨_, rfl⟩
       rw [← hG] at hR
       have HGe : Hid ((2 : Int) = (G.first : Int) ∧ (N : Int) = (G.N : Int) ∧ (0 : Int) = (G.a : Int) ∧ (1 : Int) = (G.b : Int) ∧ (32 : Int) = (G.nb : Int) ∧ 1 ≤ G.nb) := Lib.hid (by subst hG; exact ⟨rfl, rfl, rfl, rfl, rfl, by simp⟩)
       have HGn : Hid (G.nb = 32) := Lib.hid (by subst hG; rfl)
       have HR := Lib.hid hR
       have HT := Lib.hid hR.told
       clear h8 h37 hR hG)
    | (go_at_call 13; with_reducible refine HT.out.mono ?_; rintro e w3 ⟨aT, cT, rfl, ho, hb3⟩
       have HR3 := Lib.hid (HR.out.below hb3)
       have HKr : Hid (Kr w (w3.alloc (.cells #[.slice aT (num G.nb (vis none0)) cT, .int .i64 kp0.ep, .int .i64 kp0.sq, .int .i64 kp0.t0, .int .i64 kp0.t1, .int .i64 kp0.t2, .int .i64 kp0.t3] 33)) B B G ⟨vis none0, kp0⟩ 0 w3.heap.size 0 1 [⟨aT, cT, allV G.nb (vis none0), kp0⟩]) := Lib.hid (by
         have hba := (Below.refl w3.heap.size w3).alloc (Nat.le_refl _) (.cells #[.slice aT (num G.nb (vis none0)) cT, .int .i64 kp0.ep, .int .i64 kp0.sq, .int .i64 kp0.t0, .int .i64 kp0.t1, .int .i64 kp0.t2, .int .i64 kp0.t3] 33)
         have hs2 := HR.out.be.size
         have hs3 := hb3.size
         refine ⟨rfl, (HR3.out.below hba).mono (by simp) (Pw.one rfl rfl), ws_one aT _ cT _ kp0 (allV_len _ _) (by omega) (HR3.out.cs.lt) (ho.base hs2) (fun b e z => ?_), by simp⟩
         have := HR.out.cs.lt _ z
         have := (ho.lt (g := b) (o := 0) (z := none) e).1
         omega)
       clear ho hb3))
  clear HLO HLO1 HA HT HR HR3
  go_loopw [6, 8, 9] (fun cp we is wr => ∃ (k : Nat) (B1 : Bk) (V : Vi) (g off cap m : Nat) (ts : List Tl), k ≤ n ∧ k ≤ 60 ∧ cp = .pointer (some ⟨B1.qB, 0, none⟩) ∧ we = .slice (some ⟨g, off, none⟩) m cap ∧ is = .int .i64 k ∧ Hid (ts.length = m) ∧ Hid (Kr w wr B B1 G V k g off cap ts)) (fun _ _ is _ => 60 - (RowKit.intOf is).toNat)
  case atStart => exact ⟨0, B, _, _, _, _, 1, _, by omega, by omega, rfl, rfl, rfl, Lib.hid rfl, HKr⟩
  case round =>
    obtain ⟨k, B1, V, g, off, cap, m, ts, hkn, hk6, rfl, rfl, rfl, HTm, HK1⟩ := hrel
    have hk0 : (0 : Int) ≤ (k : Int) := by omega
    have hways : (¬ (k : Int) < (n : Int) ∨ ((k : Int) < (n : Int) ∧ ¬ (k : Int) < 60)) ∨ ((k : Int) < (n : Int) ∧ (k : Int) < 60) := by omega
    have hmI : (m : Int) ≤ 2401 := by have := HK1.out.ln; have := HTm.out; omega
    have hm0 : (0 : Int) ≤ (m : Int) := by omega
    clear HKr
    rcases hways with hend | ⟨hlt, hlt6⟩
    · clear hkn hk6
      rcases hend with hend | ⟨hend, hend6⟩
      all_goals
        go_wp2_with fail
        go_ret
        exact ⟨rfl, HK1.out.rx.be⟩
    · obtain ⟨b, off0, x, rfl, hx, hok, hxn, hxa, hbl, hokw⟩ := acts9n_at HW.out HK1.out.rx.be (show k < n by omega)
      have HKn : Hid (k < n ∧ k < 60) := Lib.hid ⟨by omega, by omega⟩
      have HXn := Lib.hid hxn
      have HOkw := Lib.hid hokw
      have hb1 := (Below.refl wr.heap.size wr).alloc (Nat.le_refl _) (.cells #[.int .i64 x.kind, .int .i64 x.n, .int .i64 x.e.b, .int .i64 x.e.ep, .int .i64 x.e.sq, .string x.e.data, .bool x.e.dirty, .int .i64 x.e.cl, .int .i64 x.e.n, .slice x.aT x.nT x.cT, .string x.s, .slice x.aL x.nL x.cL] 41)
      have HOk := Lib.hid (hok.below hb1)
      have HR1 := Lib.hid (HK1.out.rx.below hb1)
      have HS1 := Lib.hid (HK1.out.ws.below hb1)
      have HXA := Lib.hid (XAt.new wr x)
      obtain ⟨x0', x1', x2', x3', x4', x5', x6', x7', x8', x9', x10', x11'⟩ := hxa
      obtain ⟨y0, y1, y2, y3, y4, y5, y6, y7, y8, y9, y10, y11⟩ := XAt.new wr x
      obtain ⟨lg, hlg⟩ : ∃ lg, decide (Lrg x.e x.nT x.s x.nL) = lg := ⟨_, rfl⟩
      have HLg := Lib.hid (fun w' => hlg ▸ Ac.large w' x)
      have HP : Hid (wr.heap.size < (wr.alloc (.cells #[.int .i64 x.kind, .int .i64 x.n, .int .i64 x.e.b, .int .i64 x.e.ep, .int .i64 x.e.sq, .string x.e.data, .bool x.e.dirty, .int .i64 x.e.cl, .int .i64 x.e.n, .slice x.aT x.nT x.cT, .string x.s, .slice x.aL x.nL x.cL] 41)).heap.size ∧ wr.heap.size ∉ B1.l ∧ g ≠ wr.heap.size) := Lib.hid ⟨by simp, HK1.out.rx.out (Nat.le_refl _), by have := HK1.out.ws.own.lt; omega⟩
      clear hx hok hxn hbl hkn hk6 hb1 hokw
      cases lg with
      | true =>
        clear hlg
        go_wp2_with (go_at_call 14; with_reducible refine (HLg.out _).mono ?_; rintro e w4 ⟨rfl, hb4⟩; have HB4 := Lib.hid hb4; clear hb4)
        go_ret
        exact ⟨rfl, (HR1.out.below HB4.out).be⟩
      | false =>
        have HKl : Hid (x.nL ≤ 600) := Lib.hid (by
          have h := of_decide_eq_false hlg
          unfold Lrg at h
          omega)
        clear hlg
        by_cases h6 : x.kind = 6
        · have d6 : (x.kind == 6) = true := by simpa using h6
          clear h6
          go_wp2_with (first
            | (go_at_call 14; with_reducible refine (HLg.out _).mono ?_; rintro e w4 ⟨rfl, hb4⟩
               obtain ⟨z0, z1, z2, z3, z4, z5, z6, z7, z8, z9, z10, z11⟩ := HXA.out.below hb4
               have hfu := (HR1.out.below hb4).fuse HK1.out.db x.n HXn.out.1 HXn.out.2
               have HFu := Lib.hid hfu
               have HB4 := Lib.hid hb4
               clear hfu hb4)
            | (go_at_call 15; with_reducible refine HFu.out.mono ?_; rintro e w5 ⟨rfl, hR5, hb5⟩
               have HR5 := Lib.hid hR5
               have HS5 := Lib.hid ((HS1.out.below HB4.out).but hb5 (fun x hx => .inl hx))
               clear hR5 hb5))
          go_roundw
          case rel => exact ⟨k + 1, B1, V, g, off, cap, m, ts, by have := HKn.out; omega, by have := HKn.out; omega, rfl, rfl, by go_num, HTm, Lib.hid ⟨HK1.out.db, HR5.out.mono (by omega) (fun v hv => hv), HS5.out, by have := HK1.out.ln; omega⟩⟩
          case measure => have := HKn.out; simp [RowKit.intOf]; omega
        have d6 : (x.kind == 6) = false := by simpa using h6
        clear h6
        by_cases h5 : x.kind = 5
        · have d5 : (x.kind == 5) = true := by simpa using h5
          clear h5
          go_wp2_with (first
            | (go_at_call 14; with_reducible refine (HLg.out _).mono ?_; rintro e w4 ⟨rfl, hb4⟩
               have hba := (Below.refl w4.heap.size w4).alloc (Nat.le_refl _) (.cells #[] 45)
               obtain ⟨z0, z1, z2, z3, z4, z5, z6, z7, z8, z9, z10, z11⟩ := HXA.out.below hb4
               obtain ⟨q0, q1, q2, q3, q4, q5, q6, q7, q8, q9, q10, q11⟩ := (HXA.out.below hb4).below hba
               have HR4 := Lib.hid ((HR1.out.below hb4).below hba)
               have HS4 := Lib.hid ((HS1.out.below hb4).below hba)
               have HL4 := Lib.hid ((HOk.out.below hb4).below hba).ll
               have HB4 := Lib.hid hb4
               clear hb4 hba)
            | (at_builtin
               refine wpList_append_keeps _ rfl (.tmp 61) (.tmp 63) rfl (base := w4.heap.size) rfl (Nat.le_refl _) (heap_alloc_new w4 _) x.aL x.nL x.cL x.l rfl HL4.out HKl.out ?_
               intro g5 c5 w5 hko hb5
               have HKo := Lib.hid hko
               have HR5 := Lib.hid (HR4.out.but hb5 (by simp) (by simp))
               have HS5 := Lib.hid (HS4.out.but hb5 (by simp))
               have HG5 : Hid (g5 ∉ B1.l ∧ w.heap.size ≤ g5 ∧ (∀ z, z ∈ B1.l → z < w4.heap.size)) := Lib.hid (by
                 have h1 := (HR1.out.below HB4.out).cs.lt
                 exact ⟨fun z => by have := h1 _ z; have := hko.bs; omega, by have := hko.bs; have := (HR1.out.below HB4.out).be.size; omega, h1⟩)
               have hgS : ∀ t ∈ ts, ∀ b, t.a = some ⟨b, 0, none⟩ → b ≠ g5 := fun t ht b e => by
                 have := ((HS1.out.below HB4.out).each t ht).2 b e
                 have := hko.bs; omega
               have HGS : Hid (g ≠ g5 ∧ ∀ t ∈ ts, ∀ b, t.a = some ⟨b, 0, none⟩ → b ≠ g5) := Lib.hid ⟨by have := (HS1.out.below HB4.out).own.lt; have := hko.bs; omega, hgS⟩
               clear hko hb5 hgS))
          have hnlI : (x.nL : Int) ≤ 600 := by have := HKl.out; omega
          have hnl0 : (0 : Int) ≤ (x.nL : Int) := by omega
          go_loopw [67] (fun js wz => ∃ (j : Nat) (ks : List (Int × Int)), j ≤ x.nL ∧ js = .int .i64 j ∧ Hid (KOwn w4.heap.size wz g5 x.nL c5 ks) ∧ Hid (∀ y ∈ ks.take j, y.1 = 0 ∨ y.1 = 1) ∧ Hid (But [g5] w5 wz)) (fun js _ => x.nL - (RowKit.intOf js).toNat)
          case atStart => exact ⟨0, _, by omega, rfl, HKo, Lib.hid (by simp), Lib.hid (But.refl _ _)⟩
          case round =>
            obtain ⟨j, ks, hj, rfl, HKj, HAj, HBj⟩ := hrel
            by_cases hjl : j < x.nL
            · have hjI : (j : Int) < (x.nL : Int) := by omega
              have hj0 : (0 : Int) ≤ (j : Int) := by omega
              obtain ⟨y, hy⟩ : ∃ y, ks[j]? = some y := ⟨_, List.getElem?_eq_getElem (by rw [HKj.out.ln]; exact hjl)⟩
              have c0 := (HKj.out.cl j y hy).1
              have fz := HKj.out.fz
              obtain ⟨mm, hmm, hband⟩ := and1 y.1
              have HKs := Lib.hid (HKj.out.set hy mm)
              have HMm := Lib.hid hmm
              have HJl := Lib.hid hjl
              have HTk : Hid ((ks.set j (mm, y.2)).take (j + 1) = ks.take j ++ [(mm, y.2)]) := Lib.hid (by
                have hjk : j < ks.length := by rw [HKj.out.ln]; exact hjl
                rw [List.take_add_one, List.take_set_of_le (Nat.le_refl _), List.getElem?_set_self hjk]
                rfl)
              clear hjl hj hy hmm
              go_wp2_with fail
              go_roundw
              case rel =>
                refine ⟨j + 1, _, by have := HJl.out; omega, by go_num, HKs, Lib.hid (fun z hz => ?_), Lib.hid (HBj.out.set _ (.inl (by simp)))⟩
                rw [HTk.out] at hz
                rcases List.mem_append.1 hz with hz | hz
                · exact HAj.out z hz
                · obtain rfl : z = (mm, y.2) := by simpa using hz
                  exact HMm.out
              case measure => have := HJl.out; simp [RowKit.intOf]; omega
            · obtain rfl : j = x.nL := by omega
              have hjI : ¬ (x.nL : Int) < (x.nL : Int) := by omega
              have hR6 := HR5.out.but HBj.out (by intro z hz hc; simp at hc; subst hc; exact HG5.out.1 hz) (by simp; exact HG5.out.2.1)
              have HR6 := Lib.hid hR6
              have HS6 : Hid (Ws wr w.heap.size B1.l g off cap ts) := Lib.hid ⟨HS5.out.own.but HBj.out (by simp; exact HGS.out.1), fun t ht => ⟨(HS5.out.each t ht).1.but HBj.out (fun b e => by simp; exact HGS.out.2 t ht b e), fun b e => ⟨((HS5.out.each t ht).2 b e).1, ((HS5.out.each t ht).2 b e).2.1, Nat.lt_of_lt_of_le ((HS5.out.each t ht).2 b e).2.2 HBj.out.size⟩⟩, HS5.out.out⟩
              have HCr := Lib.hid (hR6.crash HK1.out.db g5 x.nL c5 ks HKj.out.row HG5.out.1 (fun z hz => HAj.out z (by rw [List.take_of_length_le (by rw [HKj.out.ln]; exact Nat.le_refl _)]; exact hz)))
              clear hjl hj hR6
              go_wp2_with (first
                | (go_at_call 16; with_reducible refine HCr.out.mono ?_; rintro e w6 ⟨rfl, hlf, hb6⟩
                   have HOp := Lib.hid (HR6.out.open HK1.out.db hb6 hlf (by have := HKn.out; omega) HGe.out.2.2.2.2.2 HGe.out.1 HGe.out.2.1 HGe.out.2.2.1 HGe.out.2.2.2.1 HGe.out.2.2.2.2.1)
                   have HS7 := Lib.hid (HS6.out.but hb6 (fun z hz => .inl (by have := HK1.out.db; simp [Bk.l] at hz ⊢; omega)))
                   clear hlf hb6)
                | (go_at_call 17; with_reducible refine HOp.out.mono ?_; rintro e w7 ⟨B2, V2, rfl, hd2, hR7, hPV, hl2, hb7⟩
                   have HR7 := Lib.hid hR7
                   have HT7 := Lib.hid hR7.told
                   have HD2 := Lib.hid hd2
                   have HPV := Lib.hid hPV
                   have HS8 := Lib.hid ((HS7.out.but hb7 (fun z hz => .inl hz)))
                   have hm2 : (num G.nb V2.e : Int) ≤ 32 := by have : num G.nb V2.e ≤ G.nb := cnt_le _ _; have := HGn.out; omega
                   have hm20 : (0 : Int) ≤ (num G.nb V2.e : Int) := by omega
                   clear hd2 hR7 hPV hl2 hb7)
                | (go_at_call 13; with_reducible refine HT7.out.mono ?_; rintro e w8 ⟨aU, cU, rfl, ho, hb8⟩
                   have hba := (Below.refl w8.heap.size w8).alloc (Nat.le_refl _) (.cells #[.slice aU (num G.nb V2.e) cU, .int .i64 V2.k.ep, .int .i64 V2.k.sq, .int .i64 V2.k.t0, .int .i64 V2.k.t1, .int .i64 V2.k.t2, .int .i64 V2.k.t3] 33)
                   have hb9 := hb8.trans (hba.mono hb8.size)
                   have HR9 := Lib.hid (HR7.out.below hb9)
                   have HS9 := Lib.hid (HS8.out.below hb9)
                   have HN9 := Lib.hid (Told.new w8 aU (num G.nb V2.e) cU V2.k)
                   have HO9 := Lib.hid ((ho.base HR7.out.be.size).but (But.of_below hba) (by simp))
                   have HU9 : Hid (∀ b, aU = some ⟨b, 0, none⟩ → b ∉ B2.l) := Lib.hid (fun b e z => by
                     have := HR7.out.cs.lt _ z
                     have := (ho.lt (g := b) (o := 0) (z := none) e).1
                     omega)
                   clear ho hb8 hba hb9))
              generalize (w8.alloc (.cells #[.slice aU (num G.nb V2.e) cU, .int .i64 V2.k.ep, .int .i64 V2.k.sq, .int .i64 V2.k.t0, .int .i64 V2.k.t1, .int .i64 V2.k.t2, .int .i64 V2.k.t3] 33)) = w9 at *
              generalize w8.heap.size = PN at *
              go_loopw [16, 98] (fun fv js wz => ∃ (j : Nat) (fb : Bool), j ≤ m ∧ fv = .bool fb ∧ js = .int .i64 j ∧ Hid (Below w9.heap.size w9 wz) ∧ Hid (∀ i t, i < j → ts[i]? = some t → t.l = allV G.nb V2.e → t.k = V2.k → fb = true)) (fun _ js _ => m - (RowKit.intOf js).toNat)
              case atStart => exact ⟨0, false, by omega, rfl, rfl, Lib.hid (Below.refl _ _), Lib.hid (fun i t h => by omega)⟩
              case round =>
                obtain ⟨j, fb, hjm, rfl, rfl, HB10, HFb⟩ := hrel
                have hj0 : (0 : Int) ≤ (j : Int) := by omega
                by_cases hjl : j < m
                · have hjI : (j : Int) < (m : Int) := by omega
                  obtain ⟨t, ht⟩ : ∃ t, ts[j]? = some t := ⟨_, List.getElem?_eq_getElem (by rw [HTm.out]; exact hjl)⟩
                  have HJl := Lib.hid hjl
                  cases fb with
                  | true =>
                    clear hjl hjm ht
                    go_wp2_with fail
                    go_quiet (fail)
                    go_wp2_with fail
                    go_roundw
                    case rel => exact ⟨j + 1, true, by have := HJl.out; omega, rfl, by go_num, Lib.hid (HB10.out.trans ((below_drewN _ _ _).mono HB10.out.size)), Lib.hid (fun _ _ _ _ _ _ => rfl)⟩
                    case measure => have := HJl.out; simp [RowKit.intOf]; omega
                  | false =>
                    have hfw := fun (w' : World) (hb : Below w9.heap.size w9 w') => show (w'.cell? ⟨g, off + j * 7, none⟩ = some (.slice t.a t.l.length t.cap) ∧ w'.cell? ⟨g, off + j * 7 + 1, none⟩ = some (.int .i64 t.k.ep) ∧ w'.cell? ⟨g, off + j * 7 + 2, none⟩ = some (.int .i64 t.k.sq) ∧ w'.cell? ⟨g, off + j * 7 + 3, none⟩ = some (.int .i64 t.k.t0) ∧ w'.cell? ⟨g, off + j * 7 + 4, none⟩ = some (.int .i64 t.k.t1) ∧ w'.cell? ⟨g, off + j * 7 + 5, none⟩ = some (.int .i64 t.k.t2) ∧ w'.cell? ⟨g, off + j * 7 + 6, none⟩ = some (.int .i64 t.k.t3) ∧ w'.cell? ⟨PN, 0, none⟩ = some (.slice aU (num G.nb V2.e) cU) ∧ w'.cell? ⟨PN, 1, none⟩ = some (.int .i64 V2.k.ep) ∧ w'.cell? ⟨PN, 2, none⟩ = some (.int .i64 V2.k.sq) ∧ w'.cell? ⟨PN, 3, none⟩ = some (.int .i64 V2.k.t0) ∧ w'.cell? ⟨PN, 4, none⟩ = some (.int .i64 V2.k.t1) ∧ w'.cell? ⟨PN, 5, none⟩ = some (.int .i64 V2.k.t2) ∧ w'.cell? ⟨PN, 6, none⟩ = some (.int .i64 V2.k.t3)) from (by
                      obtain ⟨e0, e1, e2, e3, e4, e5, e6⟩ := (HS9.out.below hb).own.el ht
                      have h := (HN9.out.below hb).at
                      exact ⟨e0, e1, e2, e3, e4, e5, e6, h.c0, h.c1, h.c2, h.c3, h.c4, h.c5, h.c6⟩)
                    have HFw := Lib.hid hfw
                    have HF1 := Lib.hid (hfw wr HB10.out)
                    have HF2 := Lib.hid (hfw wr.drew HB10.out.drew)
                    have HAl : Hid (∀ w', Below w9.heap.size w9 w' → Calls Tryz.prog 18 #[.agg #[.slice t.a t.l.length t.cap, .int .i64 t.k.ep, .int .i64 t.k.sq, .int .i64 t.k.t0, .int .i64 t.k.t1, .int .i64 t.k.t2, .int .i64 t.k.t3], .agg #[.slice aU (num G.nb V2.e) cU, .int .i64 V2.k.ep, .int .i64 V2.k.sq, .int .i64 V2.k.t0, .int .i64 V2.k.t1, .int .i64 V2.k.t2, .int .i64 V2.k.t3]] w' fun e w'' => ∃ b : Bool, e = .returned (.bool b) ∧ (t.l = allV G.nb V2.e ∧ t.k = V2.k → b = true) ∧ Below w'.heap.size w' w'') := Lib.hid (fun w' hb => by
                      have hw := (HS9.out.below hb).each t (List.mem_of_getElem? ht)
                      refine (alike_b w' t.a aU t.l.length (num G.nb V2.e) t.cap cU _ _ t.l (allV G.nb V2.e) t.k V2.k rfl (allV_len _ _) hw.1 (HO9.out.but (But.of_below hb) (by simp))).mono ?_
                      rintro e w'' ⟨v, rfl, ⟨b, rfl, h1⟩, h2⟩
                      exact ⟨b, rfl, h1, h2⟩)
                    have HTj : Hid (∀ i t2, i < j + 1 → ts[i]? = some t2 → t2.l = allV G.nb V2.e → t2.k = V2.k → (i = j ∧ t2 = t) ∨ False) := Lib.hid (fun i t2 h1 h2 h3 h4 => by
                      by_cases hij : i = j
                      · subst hij; rw [ht] at h2; injection h2 with h2; exact .inl ⟨rfl, h2.symm⟩
                      · exact .inr (by have := HFb.out i t2 (by omega) h2 h3 h4; cases this))
                    clear hjl hjm hfw ht
                    go_wp2_with fail
                    go_region_held3 (fun w' => (w'.cell? ⟨g, off + j * 7, none⟩ = some (.slice t.a t.l.length t.cap) ∧ w'.cell? ⟨g, off + j * 7 + 1, none⟩ = some (.int .i64 t.k.ep) ∧ w'.cell? ⟨g, off + j * 7 + 2, none⟩ = some (.int .i64 t.k.sq) ∧ w'.cell? ⟨g, off + j * 7 + 3, none⟩ = some (.int .i64 t.k.t0) ∧ w'.cell? ⟨g, off + j * 7 + 4, none⟩ = some (.int .i64 t.k.t1) ∧ w'.cell? ⟨g, off + j * 7 + 5, none⟩ = some (.int .i64 t.k.t2) ∧ w'.cell? ⟨g, off + j * 7 + 6, none⟩ = some (.int .i64 t.k.t3) ∧ w'.cell? ⟨PN, 0, none⟩ = some (.slice aU (num G.nb V2.e) cU) ∧ w'.cell? ⟨PN, 1, none⟩ = some (.int .i64 V2.k.ep) ∧ w'.cell? ⟨PN, 2, none⟩ = some (.int .i64 V2.k.sq) ∧ w'.cell? ⟨PN, 3, none⟩ = some (.int .i64 V2.k.t0) ∧ w'.cell? ⟨PN, 4, none⟩ = some (.int .i64 V2.k.t1) ∧ w'.cell? ⟨PN, 5, none⟩ = some (.int .i64 V2.k.t2) ∧ w'.cell? ⟨PN, 6, none⟩ = some (.int .i64 V2.k.t3)))
                      (first
                        | exact HF1.out
                        | exact HF2.out
                        | exact HF3.out)
                      (first
                        | (go_at_call 18; with_reducible refine (HAl.out _ (by first | exact HB10.out | exact HB10.out.drew)).mono ?_; rintro e w10 ⟨b, rfl, hb1, hb2⟩
                           have HB11 : Hid (Below w9.heap.size w9 w10) := Lib.hid ((show Below w9.heap.size w9 _ from (by first | exact HB10.out | exact HB10.out.drew)).trans (hb2.mono (by first | exact HB10.out.size | exact HB10.out.drew.size)))
                           have HBv := Lib.hid hb1
                           have HF3 := Lib.hid (HFw.out w10 HB11.out)
                           clear hb1 hb2))
                    all_goals
                      go_wp2_with fail
                      go_roundw
                      case rel =>
                        refine ⟨j + 1, b, by have := HJl.out; omega, rfl, by go_num, HB11, Lib.hid (fun i t2 h1 h2 h3 h4 => ?_)⟩
                        rcases HTj.out i t2 h1 h2 h3 h4 with ⟨e1, e2⟩ | e1
                        · subst e2; exact HBv.out ⟨h3, h4⟩
                        · cases e1
                      case measure => have := HJl.out; simp [RowKit.intOf]; omega
                · obtain rfl : j = m := by omega
                  have hjI : ¬ (j : Int) < (j : Int) := by omega
                  obtain rfl : fb = true := by
                    obtain ⟨t, h1, h2, h3⟩ := HPV.out
                    obtain ⟨i, hi⟩ := List.mem_iff_getElem?.1 h1
                    exact HFb.out i t (by have := (List.getElem?_eq_some_iff.1 hi).1; have := HTm.out; omega) hi h2 h3
                  obtain ⟨n0, n1, n2, n3, n4, n5, n6, fzn⟩ := (HN9.out.below HB10.out).at
                  clear hjl hjm
                  go_wp2_with fail
                  go_roundw
                  case rel =>
                    have hba := (Below.refl wr.heap.size wr).alloc (Nat.le_refl _) (.cells #[.slice aU (num G.nb V2.e) cU, .int .i64 V2.k.ep, .int .i64 V2.k.sq, .int .i64 V2.k.t0, .int .i64 V2.k.t1, .int .i64 V2.k.t2, .int .i64 V2.k.t3] 33)
                    have hR := HR9.out.below HB10.out
                    exact ⟨k + 1, B2, V2, wr.heap.size, 0, 1, 1, [⟨aU, cU, allV G.nb V2.e, V2.k⟩], by have := HKn.out; omega, by have := HKn.out; omega, rfl, rfl, by go_num, Lib.hid rfl, Lib.hid ⟨HD2.out, (hR.below hba).mono (by omega) (Pw.one rfl rfl), ws_one aU _ cU _ V2.k (allV_len _ _) hR.be.size hR.cs.lt (HO9.out.but (But.of_below HB10.out) (by simp)) HU9.out, by simp⟩⟩
                  case measure => have := HKn.out; simp [RowKit.intOf]; omega
        have d5 : (x.kind == 5) = false := by simpa using h5
        clear h5
        go_upto_region 39 with (go_at_call 14; with_reducible refine (HLg.out _).mono ?_; rintro e w4 ⟨rfl, hb4⟩
                                obtain ⟨z0, z1, z2, z3, z4, z5, z6, z7, z8, z9, z10, z11⟩ := HXA.out.below hb4
                                have HXA4 := Lib.hid (HXA.out.below hb4)
                                have HR4 := Lib.hid (HR1.out.below hb4)
                                have HS4 := Lib.hid (HS1.out.below hb4)
                                have HP4 : Hid (wr.heap.size < w4.heap.size ∧ wr.heap.size ∉ B1.l ∧ g ≠ wr.heap.size) := Lib.hid ⟨Nat.lt_of_lt_of_le HP.out.1 hb4.size, HP.out.2⟩
                                have HFu4 : Hid (Calls Tryz.prog 19 #[.pointer (some ⟨B1.qB, 0, none⟩), .int .i64 x.e.b] w4 fun e w' => ∃ b : Bool, e = .returned (.bool b) ∧ (fullV G.nb G.N V x.e.b → b = true) ∧ Below w4.heap.size w4 w') := Lib.hid (by
                                  refine (HR4.out.full x.e.b HOkw.out.b1 HOkw.out.b2).mono ?_
                                  rintro e w' ⟨v, rfl, ⟨b, rfl, h1⟩, h2⟩
                                  exact ⟨b, rfl, h1, h2⟩)
                                clear hb4)
        generalize wr.heap.size = P at *
        go_cut [125] (fun cv wx => ∃ cb : Bool, cv = .bool cb ∧ Hid (Below w4.heap.size w4 wx) ∧ Hid (x.kind = 0 → fullV G.nb G.N V x.e.b → cb = true))
        case first =>
          by_cases h0 : x.kind = 0
          · have d0 : (x.kind == 0) = true := by simpa using h0
            clear h0
            go_wp2_with (go_at_call 19; with_reducible refine HFu4.out.mono ?_; rintro e w5 ⟨fb, rfl, hv, hb5⟩; have HB5 := Lib.hid hb5; have HV := Lib.hid hv; clear hb5 hv)
            go_meet
            exact ⟨fb, rfl, HB5, Lib.hid (fun _ h => HV.out h)⟩
          · have d0 : (x.kind == 0) = false := by simpa using h0
            have H0 := Lib.hid h0
            clear h0
            go_wp2_with fail
            go_meet
            exact ⟨false, rfl, Lib.hid (Below.refl _ _), Lib.hid (fun h => absurd h H0.out)⟩
        case rest =>
          obtain ⟨cb, rfl, HB5, HFb⟩ := hcut
          have HXA5 := Lib.hid (HXA4.out.below HB5.out)
          have HR5 := Lib.hid (HR4.out.below HB5.out)
          have HS5 := Lib.hid (HS4.out.below HB5.out)
          have HP5 : Hid (P < wc.heap.size ∧ P ∉ B1.l ∧ g ≠ P) := Lib.hid ⟨Nat.lt_of_lt_of_le HP4.out.1 HB5.out.size, HP4.out.2⟩
          clear HFu4
          go_upto_if 125 with fail
          go_cut [8] (fun we wx => ∃ (g2 off2 cap2 m2 : Nat) (ts2 : List Tl), we = .slice (some ⟨g2, off2, none⟩) m2 cap2 ∧ Hid (ts2.length = m2 ∧ m2 ≤ m + 32) ∧ Hid (RX w wx B1 G (Pw G.nb ts2) V (2 + 2003 * (k : Int))) ∧ Hid (Ws wx w.heap.size B1.l g2 off2 cap2 ts2) ∧ Hid (XAt wx P 0 x) ∧ Hid (g2 ≠ P ∧ P < wx.heap.size) ∧ Hid (x.kind = 0 → ∀ y, fullV G.nb G.N V x.e.b → lowest G.nb V.e = some y → Pw G.nb ts2 (dropV V y.b)))
          case first =>
            cases cb with
            | false =>
              go_wp2_with fail
              go_meet
              exact ⟨g, off, cap, m, ts, rfl, Lib.hid ⟨HTm.out, by omega⟩, HR5, HS5, HXA5, Lib.hid ⟨HP5.out.2.2, HP5.out.1⟩, Lib.hid (fun h1 y h2 => by have := HFb.out h1 h2; cases this)⟩
            | true =>
              have HAl := Lib.hid HR5.out.all
              have hnI2 : (num G.nb V.e : Int) ≤ 32 := by have : num G.nb V.e ≤ G.nb := cnt_le _ _; have := HGn.out; omega
              have hn20 : (0 : Int) ≤ (num G.nb V.e : Int) := by omega
              have HLn := Lib.hid (allV_len G.nb V.e)
              have HNn : Hid (num G.nb V.e ≤ 32) := Lib.hid (by omega)
              go_wp2_with (go_at_call 20; with_reducible refine HAl.out.mono ?_; rintro e w6 ⟨aA, cA, rfl, ho, hb6⟩
                           have HR6 := Lib.hid (HR5.out.below hb6)
                           have HS6 := Lib.hid (HS5.out.below hb6)
                           have HXA6 := Lib.hid (HXA5.out.below hb6)
                           have HP6 : Hid (g ≠ P ∧ P < w6.heap.size) := Lib.hid ⟨HP5.out.2.2, Nat.lt_of_lt_of_le HP5.out.1 hb6.size⟩
                           have HO6 := Lib.hid (ho.base HR5.out.be.size)
                           have HU6 : Hid (∀ b, aA = some ⟨b, 0, none⟩ → b ≠ g) := Lib.hid (fun b e => by
                             have h1 := ho.lt (g := b) (o := 0) (z := none) e
                             have := HS5.out.own.lt; omega)
                           clear ho hb6)
              go_loopw [8, 129] (fun we js wz => ∃ (j g2 off2 cap2 m2 : Nat) (ts2 : List Tl), j ≤ num G.nb V.e ∧ we = .slice (some ⟨g2, off2, none⟩) m2 cap2 ∧ js = .int .i64 j ∧ Hid (ts2.length = m2 ∧ m2 ≤ m + j) ∧ Hid (∀ v, Pw G.nb ts v → Pw G.nb ts2 v) ∧ Hid (RX w wz B1 G (Pw G.nb ts) V (2 + 2003 * (k : Int))) ∧ Hid (Ws wz w.heap.size B1.l g2 off2 cap2 ts2) ∧ Hid (XAt wz P 0 x) ∧ Hid (g2 ≠ P ∧ P < wz.heap.size) ∧ Hid (OwnE w.heap.size wz aA cA (allV G.nb V.e)) ∧ Hid (∀ b, aA = some ⟨b, 0, none⟩ → b ≠ g2) ∧ Hid (∀ (i : Nat) y, i < j → (allV G.nb V.e)[i]? = some y → y.dirty = false → ∃ t ∈ ts2, t.l = (allV G.nb V.e).filter (notB y.b) ∧ t.k = V.k)) (fun _ js _ => num G.nb V.e - (RowKit.intOf js).toNat)
              case atStart => exact ⟨0, g, off, cap, m, ts, by omega, rfl, rfl, Lib.hid ⟨HTm.out, by omega⟩, Lib.hid (fun v hv => hv), HR6, HS6, HXA6, HP6, HO6, HU6, Lib.hid (fun i y h => by omega)⟩
              case round =>
                obtain ⟨j, g2, off2, cap2, m2, ts2, hj, rfl, rfl, HTm2, HPw, HR7, HS7, HXA7, HP7, HO7, HU7, HDn⟩ := hrel
                have hj0 : (0 : Int) ≤ (j : Int) := by omega
                have hm2I : (m2 : Int) ≤ 2433 := by have := HTm2.out.2; have := HNn.out; omega
                have hm20 : (0 : Int) ≤ (m2 : Int) := by omega
                by_cases hjl : j < num G.nb V.e
                · have hjI : (j : Int) < (num G.nb V.e : Int) := by omega
                  obtain ⟨y, hy⟩ : ∃ y, (allV G.nb V.e)[j]? = some y := ⟨_, List.getElem?_eq_getElem (by rw [HLn.out]; exact hjl)⟩
                  obtain ⟨gA, rfl, _, hgA, hcA⟩ := HO7.out.cell hy
                  have HJl := Lib.hid hjl
                  have HY := Lib.hid hy
                  obtain ⟨yb, yp, yq, yd, yy, yc, yn⟩ := y
                  obtain ⟨c0, c1, c2, c3, c4, c5, c6⟩ := hcA
                  simp only at c0 c1 c2 c3 c4 c5 c6
                  have hbn := (Below.refl wr.heap.size wr).alloc (Nat.le_refl _) (.cells #[.int .i64 yb, .int .i64 yp, .int .i64 yq, .string yd, .bool yy, .int .i64 yc, .int .i64 yn] 37)
                  have HR8 := Lib.hid (HR7.out.below hbn)
                  have HS8 := Lib.hid (HS7.out.below hbn)
                  have HXA8 := Lib.hid (HXA7.out.below hbn)
                  have HP8 : Hid (P < (wr.alloc (.cells #[.int .i64 yb, .int .i64 yp, .int .i64 yq, .string yd, .bool yy, .int .i64 yc, .int .i64 yn] 37)).heap.size) := Lib.hid (Nat.lt_of_lt_of_le HP7.out.2 hbn.size)
                  have HO8 := Lib.hid (HO7.out.but (But.of_below hbn) (by simp))
                  have HEy := Lib.hid (EAt.mk8 wr yb yp yq yd yy yc yn)
                  obtain ⟨d0, d1, d2, d3, d4, d5, d6⟩ := EAt.mk8 wr yb yp yq yd yy yc yn
                  simp only at d0 d1 d2 d3 d4 d5 d6
                  clear hjl hj hy hgA hbn
                  cases yy with
                  | true =>
                    go_wp2_with fail
                    go_roundw
                    case rel =>
                      refine ⟨j + 1, g2, off2, cap2, m2, ts2, by have := HJl.out; omega, rfl, by go_num, Lib.hid ⟨HTm2.out.1, by have := HTm2.out.2; omega⟩, HPw, HR8, HS8, HXA8, Lib.hid ⟨HP7.out.1, HP8.out⟩, HO8, HU7, Lib.hid (fun i z hi hz hd => ?_)⟩
                      by_cases hij : i = j
                      · subst hij; rw [HY.out] at hz; injection hz with hz; subst hz; cases hd
                      · exact HDn.out i z (by omega) hz hd
                    case measure => have := HJl.out; simp [RowKit.intOf]; omega
                  | false =>
                    have HTo := Lib.hid HR8.out.told
                    go_wp2_with (first
                      | (go_at_call 13; with_reducible refine HTo.out.mono ?_; rintro e w7 ⟨aS, cS, rfl, ho, hb7⟩
                         have hba := (Below.refl w7.heap.size w7).alloc (Nat.le_refl _) (.cells #[.slice aS (num G.nb V.e) cS, .int .i64 V.k.ep, .int .i64 V.k.sq, .int .i64 V.k.t0, .int .i64 V.k.t1, .int .i64 V.k.t2, .int .i64 V.k.t3] 33)
                         have hb9 := hb7.trans (hba.mono hb7.size)
                         have HB9 := Lib.hid hb9
                         have HTd := Lib.hid (Told.new w7 aS (num G.nb V.e) cS V.k)
                         obtain ⟨t0, t1, t2, t3, t4, t5, t6, fzt⟩ := (Told.new w7 aS (num G.nb V.e) cS V.k).at
                         obtain ⟨s0, s1, s2, s3, s4, s5, s6⟩ := HEy.out.belowX hb9
                         simp only at s0 s1 s2 s3 s4 s5 s6
                         have HWo : Hid (Calls Tryz.prog 21 #[.slice aS (num G.nb V.e) cS, .int .i64 yb] (w7.alloc (.cells #[.slice aS (num G.nb V.e) cS, .int .i64 V.k.ep, .int .i64 V.k.sq, .int .i64 V.k.t0, .int .i64 V.k.t1, .int .i64 V.k.t2, .int .i64 V.k.t3] 33)) fun e w' => ∃ (aW : Option Addr) (cW mW : Nat) (fl : List En), e = .returned (.slice aW mW cW) ∧ Hid (fl = (allV G.nb V.e).filter (notB yb) ∧ fl.length = mW) ∧ OwnE (w7.alloc (.cells #[.slice aS (num G.nb V.e) cS, .int .i64 V.k.ep, .int .i64 V.k.sq, .int .i64 V.k.t0, .int .i64 V.k.t1, .int .i64 V.k.t2, .int .i64 V.k.t3] 33)).heap.size w' aW cW fl ∧ Below (w7.alloc (.cells #[.slice aS (num G.nb V.e) cS, .int .i64 V.k.ep, .int .i64 V.k.sq, .int .i64 V.k.t0, .int .i64 V.k.t1, .int .i64 V.k.t2, .int .i64 V.k.t3] 33)).heap.size (w7.alloc (.cells #[.slice aS (num G.nb V.e) cS, .int .i64 V.k.ep, .int .i64 V.k.sq, .int .i64 V.k.t0, .int .i64 V.k.t1, .int .i64 V.k.t2, .int .i64 V.k.t3] 33)) w') := Lib.hid (by
                           refine (without_q _ _ aS cS (allV G.nb V.e) _ (allV_len _ _) (ho.but (But.of_below hba) (by simp)) yb).mono ?_
                           rintro e w' ⟨aW, cW, rfl, h1, h2⟩
                           exact ⟨aW, cW, _, _, rfl, Lib.hid ⟨rfl, rfl⟩, h1, h2⟩)
                         have HPs : Hid ((wr.alloc (.cells #[.int .i64 yb, .int .i64 yp, .int .i64 yq, .string yd, .bool false, .int .i64 yc, .int .i64 yn] 37)).heap.size ≤ w7.heap.size ∧ w7.heap.size < (w7.alloc (.cells #[.slice aS (num G.nb V.e) cS, .int .i64 V.k.ep, .int .i64 V.k.sq, .int .i64 V.k.t0, .int .i64 V.k.t1, .int .i64 V.k.t2, .int .i64 V.k.t3] 33)).heap.size) := Lib.hid ⟨hb7.size, by simp⟩
                         clear ho hb7 hba hb9)
                      | (go_at_call 21; with_reducible refine HWo.out.mono ?_; rintro e w8 ⟨aW, cW, mW, fl, rfl, HFl, how, hbw⟩
                         have HB10 : Hid (Below (wr.alloc (.cells #[.int .i64 yb, .int .i64 yp, .int .i64 yq, .string yd, .bool false, .int .i64 yc, .int .i64 yn] 37)).heap.size (wr.alloc (.cells #[.int .i64 yb, .int .i64 yp, .int .i64 yq, .string yd, .bool false, .int .i64 yc, .int .i64 yn] 37)) w8) := Lib.hid (HB9.out.trans (hbw.mono HB9.out.size))
                         have HOw := Lib.hid how
                         have htd := HTd.out.below hbw
                         obtain ⟨r0, r1, r2, r3, r4, r5, r6, fzr⟩ := htd.at
                         have hts := htd.set0 aW mW cW
                         have HB11 : Hid (Below (wr.alloc (.cells #[.int .i64 yb, .int .i64 yp, .int .i64 yq, .string yd, .bool false, .int .i64 yc, .int .i64 yn] 37)).heap.size (wr.alloc (.cells #[.int .i64 yb, .int .i64 yp, .int .i64 yq, .string yd, .bool false, .int .i64 yc, .int .i64 yn] 37)) (w8.setCell ⟨w7.heap.size, 0, none⟩ (.slice aW mW cW))) := Lib.hid (HB10.out.setCell HPs.out.1 _)
                         obtain ⟨p0, p1, p2, p3, p4, p5, p6, fzp⟩ := hts.at
                         have HOw2 : Hid (OwnE (w7.alloc (.cells #[.slice aS (num G.nb V.e) cS, .int .i64 V.k.ep, .int .i64 V.k.sq, .int .i64 V.k.t0, .int .i64 V.k.t1, .int .i64 V.k.t2, .int .i64 V.k.t3] 33)).heap.size (w8.setCell ⟨w7.heap.size, 0, none⟩ (.slice aW mW cW)) aW cW fl) := Lib.hid (how.but ((But.refl [w7.heap.size] w8).set (p := ⟨w7.heap.size, 0, none⟩) _ (.inl (by simp))) (fun b e => by
                           have := how.lt (g := b) (o := 0) (z := none) e
                           have := HPs.out.2
                           simp; omega))
                         clear how hbw htd hts)
                      | (at_builtin
                         have hba := (Below.refl (w8.setCell ⟨w7.heap.size, 0, none⟩ (.slice aW mW cW)).heap.size (w8.setCell ⟨w7.heap.size, 0, none⟩ (.slice aW mW cW))).alloc (Nat.le_refl _) (.cells #[.slice aW mW cW, .int .i64 V.k.ep, .int .i64 V.k.sq, .int .i64 V.k.t0, .int .i64 V.k.t1, .int .i64 V.k.t2, .int .i64 V.k.t3] 33)
                         have hb12 := HB11.out.trans (hba.mono HB11.out.size)
                         have hw12 := HS8.out.below hb12
                         have hr12 := HR8.out.below hb12
                         have hsz8 : (w8.setCell ⟨w7.heap.size, 0, none⟩ (.slice aW mW cW)).heap.size = w8.heap.size := by simp [World.setCell]
                         have htc := told_cells (w8.setCell ⟨w7.heap.size, 0, none⟩ (.slice aW mW cW)) aW mW cW fl V.k HFl.out.2
                         rw [hsz8] at htc
                         refine wpList_append_told _ rfl (.tmp 144) (.tmp 146) rfl ts2 rfl HTm2.out.1 hw12.own hr12.be.size w8.heap.size 1 ⟨aW, cW, fl, V.k⟩ rfl htc (by omega) ?_
                         intro g3 off3 cap3 w9 hown hb13 hg3
                         have hwn := HOw2.out
                         have hsz := HB10.out.size
                         have HS13 : Hid (Ws w9 w.heap.size B1.l g3 off3 cap3 (ts2 ++ [⟨aW, cW, fl, V.k⟩])) := Lib.hid (hw12.more hown hb13 hg3 hr12.cs.lt ((hwn.base (by have := HR8.out.be.size; have := HPs.out; omega)).but (But.of_below hba) (by simp)) (fun b e => by
                           have h1 := hwn.lt (g := b) (o := 0) (z := none) e
                           have h2 := HPs.out
                           have h3 := HS8.out.own.lt
                           have h4 := hba.size
                           exact ⟨fun z => by have := HR8.out.cs.lt _ z; omega, by omega, by omega⟩))
                         have HR13 := Lib.hid (hr12.but hb13 (by intro z hz hc; simp at hc; subst hc; exact HS8.out.out hz) (by intro z hz; simp at hz; subst hz; exact HS8.out.own.bs))
                         have HXA13 := Lib.hid ((HXA8.out.below hb12).but hb13 (by simp; exact fun e => HP7.out.1 e.symm))
                         have HP13 : Hid (g3 ≠ P ∧ P < w9.heap.size) := Lib.hid (by
                           have h1 := HP8.out
                           have h2 := hb12.size
                           have h3 := hb13.size
                           have h4 := HP7.out.1
                           exact ⟨by omega, by omega⟩)
                         have HO13 := Lib.hid ((HO8.out.but (But.of_below hb12) (by simp)).but hb13 (fun b e => by simp; exact HU7.out b e))
                         have HU13 : Hid (∀ b, some (⟨gA, 0, none⟩ : Addr) = some ⟨b, 0, none⟩ → b ≠ g3) := Lib.hid (fun b e => by
                           have h1 := HU7.out b e
                           have h2 := (HO8.out.lt (g := b) (o := 0) (z := none) e).2.1
                           have h3 := hb12.size
                           omega)
                         clear hba hb12 hw12 hr12 hown hb13 hg3 hwn hsz hsz8 htc))
                    go_roundw
                    case rel =>
                      refine ⟨j + 1, g3, off3, cap3, m2 + 1, _, by have := HJl.out; omega, rfl, by go_num, Lib.hid ⟨by simp [HTm2.out.1], by have := HTm2.out.2; omega⟩, Lib.hid (fun v hv => Pw.more v (HPw.out v hv)), HR13, HS13, HXA13, HP13, HO13, HU13, Lib.hid (fun i z hi hz hd => ?_)⟩
                      by_cases hij : i = j
                      · subst hij
                        rw [HY.out] at hz
                        injection hz with hz
                        subst hz
                        exact ⟨_, List.mem_append_right _ (List.mem_singleton.2 rfl), HFl.out.1, rfl⟩
                      · obtain ⟨t, h1, h2⟩ := HDn.out i z (by omega) hz hd
                        exact ⟨t, List.mem_append_left _ h1, h2⟩
                    case measure => have := HJl.out; simp [RowKit.intOf]; omega
                · obtain rfl : j = num G.nb V.e := by omega
                  have hjI : ¬ (num G.nb V.e : Int) < (num G.nb V.e : Int) := by omega
                  clear hjl hj
                  go_wp2_with fail
                  go_meet
                  exact ⟨g2, off2, cap2, m2, ts2, rfl, Lib.hid ⟨HTm2.out.1, by have := HTm2.out.2; have := HNn.out; omega⟩, Lib.hid (HR7.out.mono (Int.le_refl _) HPw.out), HS7, HXA7, HP7, Lib.hid (fun _ y _ hy => clean_without HR7.out.cs.ok (fun z hz hd => by
                    obtain ⟨i, hi⟩ := List.mem_iff_getElem?.1 hz
                    exact HDn.out i z (by have := (List.getElem?_eq_some_iff.1 hi).1; have := HLn.out; omega) hi hd) y hy)⟩
          case rest =>
            obtain ⟨g2, off2, cap2, m2, ts2, rfl, HTm2, HR6, HS6, HXA6, HP6, HMid⟩ := hcut
            have HAc := Lib.hid (HR6.out.act (by have := HKn.out; omega) x (HOkw.out.below HR6.out.be) HMid.out)
            have hm2I : (m2 : Int) ≤ 2433 := by have := HTm2.out.2; omega
            have hm20 : (0 : Int) ≤ (m2 : Int) := by omega
            have HB2l := Lib.hid HR6.out.cs.lt
            obtain ⟨v0, v1, v2, v3, v4, v5, v6, v7, v8, v9, v10, v11⟩ := HXA6.out
            go_upto_region 50 with (first
              | (go_at_call 22; with_reducible refine HAc.out.mono ?_; rintro e w5 ⟨y, V2, r5, rfl, hR7, hbu7, hr7⟩
                 have HR7 := Lib.hid hR7
                 have HR7r := Lib.hid hr7
                 have ht7 := hR7.told
                 simp only [Bk.row] at ht7
                 have HT7 := Lib.hid ht7
                 have HS7 := Lib.hid (HS6.out.move hbu7 (row_l hr7))
                 have HXA7 := Lib.hid (HXA6.out.but hbu7 HP5.out.2.1)
                 have HP7 : Hid (P < w5.heap.size) := Lib.hid (Nat.lt_of_lt_of_le HP6.out.2 hbu7.size)
                 clear hR7 hbu7 hr7 ht7)
              | (go_at_call 13; with_reducible refine HT7.out.mono ?_; rintro e w6 ⟨aT, cT, rfl, ho, hb6⟩
                 have hba := (Below.refl w6.heap.size w6).alloc (Nat.le_refl _) (.cells #[.slice aT (num G.nb V2.e) cT, .int .i64 V2.k.ep, .int .i64 V2.k.sq, .int .i64 V2.k.t0, .int .i64 V2.k.t1, .int .i64 V2.k.t2, .int .i64 V2.k.t3] 33)
                 have hb8 := hb6.trans (hba.mono hb6.size)
                 have HR8 := Lib.hid (HR7.out.below hb8)
                 have HS8 := Lib.hid (HS7.out.below hb8)
                 have HXA8 := Lib.hid (HXA7.out.below hb8)
                 have HO8 := Lib.hid ((ho.base HR7.out.be.size).but (But.of_below hba) (by simp))
                 have HU8 : Hid (∀ b, aT = some ⟨b, 0, none⟩ → b ∉ (B1.row r5).l ∧ b ≠ g2 ∧ b < (w6.alloc (.cells #[.slice aT (num G.nb V2.e) cT, .int .i64 V2.k.ep, .int .i64 V2.k.sq, .int .i64 V2.k.t0, .int .i64 V2.k.t1, .int .i64 V2.k.t2, .int .i64 V2.k.t3] 33)).heap.size) := Lib.hid (fun b e => by
                   have h1 := ho.lt (g := b) (o := 0) (z := none) e
                   refine ⟨fun z => by have := HR7.out.cs.lt _ z; omega, by have := HS7.out.own.lt; omega, by simp; omega⟩)
                 have HC8 := Lib.hid (told_cells w6 aT (num G.nb V2.e) cT (allV G.nb V2.e) V2.k (allV_len _ _))
                 have HP8 : Hid (P < (w6.alloc (.cells #[.slice aT (num G.nb V2.e) cT, .int .i64 V2.k.ep, .int .i64 V2.k.sq, .int .i64 V2.k.t0, .int .i64 V2.k.t1, .int .i64 V2.k.t2, .int .i64 V2.k.t3] 33)).heap.size) := Lib.hid (by have := HP7.out; have := hb8.size; omega)
                 clear ho hb6 hba hb8)
              | (at_builtin
                 refine wpList_append_told _ rfl (.tmp 152) (.tmp 155) rfl ts2 rfl HTm2.out.1 HS8.out.own HR8.out.be.size w6.heap.size 1 ⟨aT, cT, allV G.nb V2.e, V2.k⟩ rfl HC8.out (by omega) ?_
                 intro g3 off3 cap3 w9 hown hb9 hg3
                 have HS9 := Lib.hid (HS8.out.more hown hb9 hg3 HR8.out.cs.lt HO8.out HU8.out)
                 have HR9 := Lib.hid (HR8.out.but hb9 (by intro z hz hc; simp at hc; subst hc; exact HS8.out.out hz) (by intro z hz; simp at hz; subst hz; exact HS8.out.own.bs))
                 have hxa9 := HXA8.out.but hb9 (by simp; exact fun e => HP6.out.1 e.symm)
                 obtain ⟨u0', u1', u2', u3', u4', u5', u6', u7', u8', u9', u10', u11'⟩ := hxa9
                 have hcapI : ((m2 : Int) + 1) ≤ (cap3 : Int) := by have h1 := hown.le; have h2 := HTm2.out.1; simp at h1; omega
                 have hcapM : (cap3 : Int) ≤ 9223372036854775807 := by have := hown.mx; unfold maxLen at this; omega
                 clear hown hb9 hg3))
            have HLn : Hid ((ts2 ++ [(⟨aT, cT, allV G.nb V2.e, V2.k⟩ : Tl)]).length ≤ 1 + 40 * (k + 1)) := Lib.hid (by have := HTm2.out; have := HK1.out.ln; have := HTm.out; simp; omega)
            by_cases h4 : x.kind = 4 ∧ y = 0
            · obtain ⟨h4, rfl⟩ := h4
              have d4 : (x.kind == 4) = true := by simpa using h4
              have H4 := Lib.hid h4
              clear h4
              go_wp2_with fail
              go_roundw
              case rel =>
                have hl := HS9.out.last
                rw [HTm2.out.1] at hl
                refine ⟨k + 1, B1.row r5, V2, g3, off3 + m2 * 7, cap3 - m2, 1, [⟨aT, cT, allV G.nb V2.e, V2.k⟩], by have := HKn.out; omega, by have := HKn.out; omega, rfl, ?_, by go_num, Lib.hid rfl, Lib.hid ⟨HK1.out.db, HR9.out.mono (by omega) (fun v hv => ?_), hl, by simp⟩⟩
                · first
                    | rfl
                    | (congr 1 <;> omega)
                · rcases hv with ⟨h1, _⟩ | h1
                  · exact absurd ⟨H4.out, rfl⟩ h1
                  · exact Pw.one rfl rfl v h1
              case measure => have := HKn.out; simp [RowKit.intOf]; omega
            · have H4 := Lib.hid h4
              have hrel : Hid (Kr w w9 B (B1.row r5) G V2 (k + 1) g3 off3 cap3 (ts2 ++ [⟨aT, cT, allV G.nb V2.e, V2.k⟩])) := Lib.hid ⟨HK1.out.db, HR9.out.mono (by omega) (fun v hv => Pw.snoc rfl rfl v (hv.imp (fun z => z.2) id)), HS9.out, HLn.out⟩
              by_cases h4k : x.kind = 4
              · have d4 : (x.kind == 4) = true := by simpa using h4k
                have dy : ¬ y = 0 := fun z => h4 ⟨h4k, z⟩
                clear h4 h4k
                go_wp2_with fail
                go_roundw
                case rel => exact ⟨k + 1, B1.row r5, V2, g3, off3, cap3, m2 + 1, _, by have := HKn.out; omega, by have := HKn.out; omega, rfl, rfl, by go_num, Lib.hid (by simp [HTm2.out.1]), hrel⟩
                case measure => have := HKn.out; simp [RowKit.intOf]; omega
              · have d4 : (x.kind == 4) = false := by simpa using h4k
                clear h4 h4k
                go_wp2_with fail
                go_roundw
                case rel => exact ⟨k + 1, B1.row r5, V2, g3, off3, cap3, m2 + 1, _, by have := HKn.out; omega, by have := HKn.out; omega, rfl, rfl, by go_num, Lib.hid (by simp [HTm2.out.1]), hrel⟩
                case measure => have := HKn.out; simp [RowKit.intOf]; omega
end Q
end Go.Proofs.YtmcalgnpinolmaaGreat
