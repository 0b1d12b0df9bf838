/-
  CacheApart: the walk.
-/
import Derived.Test.YtmcalgnpinolmaaGreatQG
import Derived.Deep.DeepCutAuto
namespace Go.Proofs.YtmcalgnpinolmaaGreat
open Go.RowKit Go.Maps
set_option linter.unusedVariables false
set_option linter.unusedSimpArgs false
set_option maxRecDepth 20000
namespace Q
variable {w0 : World} {B : Bk} {G : Gm} {V V' : Vi} {K K' : Int}

theorem allV_below {nb : Nat} {e : Vm} (hk : ∀ b x, e b = some x → x.b = b) {i : Nat} {x : En} (h : (allV nb e)[i]? = some x) : x.b < (nb : Int) := by
  obtain ⟨b, h1, h2, h3⟩ := mem_allV.1 (List.mem_of_getElem? h)
  rw [hk b x h3]; exact h2
theorem allV_lt {nb : Nat} {e : Vm} (hk : ∀ b x, e b = some x → x.b = b) : ∀ {i j : Nat} {x y : En}, (allV nb e)[i]? = some x → (allV nb e)[j]? = some y → i < j → x.b < y.b := by
  induction nb with
  | zero => intro i j x y h; simp [allV] at h
  | succ n ih =>
    intro i j x y hx hy hij
    unfold allV at hx hy
    by_cases hj : j < (allV n e).length
    · rw [List.getElem?_append_left hj] at hy
      rw [List.getElem?_append_left (by omega)] at hx
      exact ih hx hy hij
    · rw [List.getElem?_append_right (by omega)] at hy
      cases hn : e (n : Int) with
      | none => rw [hn] at hy; simp at hy
      | some z =>
        rw [hn] at hy hx
        simp only at hy hx
        have hj0 : j - (allV n e).length = 0 := by
          have := (List.getElem?_eq_some_iff.1 hy).1
          simp at this; omega
        rw [hj0] at hy
        simp at hy
        subst hy
        rw [List.getElem?_append_left (by omega)] at hx
        have h1 := allV_below hk hx
        have h2 := hk _ _ hn
        omega

/-- what an act leaves of another block's entry -/
theorem apart_do {nb N : Nat} (hok : VOk nb N V) {kind : Int} {e : En} {t : List Int} {y : En} (hy : V.e y.b = some y) :
    (kind ≤ 2 ∧ y.b = e.b) ∨ (¬ (kind ≤ 2 ∧ y.b = e.b) ∧ (doVi nb N V kind e t).e y.b = some y) ∨ (¬ (kind ≤ 2 ∧ y.b = e.b) ∧ (kind = 0 ∧ fullV nb N V e.b) ∧ (doVi nb N V kind e t).e y.b = none ∧ y.dirty = false ∧ y.b = lowI nb V.e) := by
  by_cases hs : kind ≤ 2 ∧ y.b = e.b
  · exact .inl hs
  refine .inr ?_
  unfold doVi
  by_cases k0 : kind = 0
  · rw [if_pos k0]
    have hne : y.b ≠ e.b := fun h => hs ⟨by omega, h⟩
    by_cases he : putE nb N V e = 0
    · by_cases hf : fullV nb N V e.b
      · rw [putVi_2 he hf]
        simp only [runV, stepV, updV]
        rw [if_neg hne]
        by_cases hl : y.b = lowI nb V.e
        · right
          rw [if_pos hl]
          refine ⟨hs, ⟨k0, hf⟩, rfl, ?_, hl⟩
          cases hlo : lowest nb V.e with
          | none =>
            unfold putE at he
            by_cases h1 : checkE nb e ≠ 0
            · rw [if_pos h1] at he; exact absurd he h1
            rw [if_neg h1] at he
            by_cases h2 : ord e.ep e.sq V.k.ep V.k.sq ≤ 0
            · rw [if_pos h2] at he; cases he
            rw [if_neg h2, if_pos ⟨hf, hlo⟩] at he
            cases he
          | some z =>
            obtain ⟨hz, hd⟩ := lowest_mem hlo
            obtain ⟨b, _, _, hb⟩ := mem_allV.1 hz
            have hzb := hok.key b z hb
            have : y = z := by
              have h1 : lowI nb V.e = z.b := by unfold lowI; rw [hlo]
              rw [hl, h1, hzb, hb] at hy
              injection hy with hy
              exact hy.symm
            rw [this]; exact hd
        · left
          rw [if_neg hl]
          exact ⟨hs, hy⟩
      · left
        rw [putVi_1 he hf]
        simp only [runV, stepV, updV]
        rw [if_neg hne]
        exact ⟨hs, hy⟩
    · left
      rw [putVi_0 he]
      exact ⟨hs, hy⟩
  left
  refine ⟨hs, ?_⟩
  rw [if_neg k0]
  by_cases k1 : kind = 1
  · rw [if_pos k1]
    have hne : y.b ≠ e.b := fun h => hs ⟨by omega, h⟩
    unfold cleanVi
    simp only [stepV]
    cases hb : V.e e.b with
    | none => exact hy
    | some z =>
      simp only
      by_cases hv : z.ep = e.ep ∧ z.sq = e.sq
      · rw [if_pos hv]; simp only [updV]; rw [if_neg hne]; exact hy
      · rw [if_neg hv]; exact hy
  rw [if_neg k1]
  by_cases k2 : kind = 2
  · rw [if_pos k2]
    have hne : y.b ≠ e.b := fun h => hs ⟨by omega, h⟩
    unfold dropVi
    simp only [stepV, updV]
    rw [if_neg hne]; exact hy
  rw [if_neg k2]
  by_cases k3 : kind = 3
  · rw [if_pos k3]
    unfold noteVi
    by_cases hk : keepOk e.ep e.sq t
    · rw [if_pos hk]; exact hy
    · rw [if_neg hk]; exact hy
  rw [if_neg k3]
  by_cases k8 : kind = 8
  · rw [if_pos k8]
    unfold resetVi
    by_cases hk : keepOk e.ep e.sq t
    · rw [if_pos hk]; exact hy
    · rw [if_neg hk]; exact hy
  rw [if_neg k8]
  exact hy

theorem EAt.new (w : World) (y : En) : EAt (w.alloc (.cells #[.int .i64 y.b, .int .i64 y.ep, .int .i64 y.sq, .string y.data, .bool y.dirty, .int .i64 y.cl, .int .i64 y.n] 37)) w.heap.size 0 y := by
  refine ⟨?_, ?_, ?_, ?_, ?_, ?_, ?_⟩ <;> (rw [World.cell?_alloc_mark]; rfl)
theorem EAt.below {w w' : World} {g o : Nat} {x : En} (h : EAt w g o x) (hb : Below w.heap.size w w') : EAt w' g o x := h.but (But.of_below hb) (by simp)
theorem entV_is {o : Option En} {z : En} (h : o.getD zeroE = z) : entV o = .agg #[.int .i64 z.b, .int .i64 z.ep, .int .i64 z.sq, .string z.data, .bool z.dirty, .int .i64 z.cl, .int .i64 z.n] := by unfold entV; rw [h]; rfl
theorem Rq.gets {w : World} (h : Rq w0 w B G V K) {q : Nat} (hq : B.qB = q) (b : Int) (hb0 : -9223372036854775808 ≤ b) (hb1 : b ≤ 9223372036854775807) {z : En} {hd : Bool} (hz : (V.e b).getD zeroE = z) (hh : (V.e b).isSome = hd) : Calls Tryz.prog 25 #[.pointer (some ⟨q, 0, none⟩), .int .i64 b] w fun e w' => e = .returned (.tuple #[.agg #[.int .i64 z.b, .int .i64 z.ep, .int .i64 z.sq, .string z.data, .bool z.dirty, .int .i64 z.cl, .int .i64 z.n], .bool hd]) ∧ Below w.heap.size w w' := by
  have := h.get hq b hb0 hb1
  rw [entV_is hz, hh] at this
  exact this

set_option maxHeartbeats 16000000 in
theorem apart_any (x0 : Int) (a : Option Addr) (n c : Nat) (l : List Ac) (w : World) (f0 : (Lit.int .u8 x0).wf = true) (hA : Acts9 w a n c l) :
    Calls Tryz.prog 8 #[.int .u8 x0, .slice a n c] w fun e w' => e = .returned (.bool true) ∧ Below w.heap.size w w' := by
  have HA := Lib.hid (awake_any w)
  have HLO := Lib.hid (fun w1 hb => law_open w w1 hb x0 f0)
  have HW := Lib.hid hA
  have hnI : (n : Int) ≤ 9223372036854775807 := by have := hA.2.1; have := hA.2.2.1; unfold maxLen at this; omega
  clear f0 hA
  go_enter Tryz.func8, Tryz.ntmps8
  go_wp2_with (first
    | (go_at_call 11; with_reducible refine HA.out.mono ?_; rintro e w1 ⟨rfl, hb1⟩; have HLO1 := Lib.hid (HLO.out w1 hb1); clear hb1)
    | (go_at_call 12; with_reducible refine HLO1.out.mono ?_; rintro e w2 ⟨B, N, h8, h37, hx, rfl, hR, _, _⟩
       obtain ⟨G, hG⟩ : ∃ G : Gm, G = ⟨N + 2, 2, N, 0, 1, 32⟩ := ⟨_, rfl⟩
       rw [← hG] at hR
       have HR := Lib.hid hR
       have HGN : Hid (G.N ≤ 37) := Lib.hid (by subst hG; exact h37)
       clear h8 h37 hx hR hG))
  clear HLO HLO1 HA
  go_loopw [8] (fun i wr => ∃ (k : Nat) (B1 : Bk) (V : Vi), k ≤ n ∧ k ≤ 60 ∧ i = .int .i64 k ∧ B1.qB = B.qB ∧ Rq w wr B1 G V (2 + 2002 * (k : Int))) (fun i _ => 60 - (RowKit.intOf i).toNat)
  case atStart => exact ⟨0, B, _, by omega, by omega, rfl, rfl, HR.out.mono (by simp)⟩
  case round =>
    obtain ⟨k, B1, V, hkn, hk6, rfl, hq, hRq⟩ := hrel
    have HR1 := Lib.hid hRq
    have HQ := Lib.hid hq
    have hk0 : (0 : Int) ≤ (k : Int) := by omega
    clear hRq hq HR
    by_cases hend : k = n
    · have hge : ¬ ((k : Int) < (n : Int)) := by omega
      clear hend hkn hk6
      go_wp2_with fail
      go_ret
      exact ⟨rfl, HR1.out.be⟩
    have hlt : (k : Int) < (n : Int) := by omega
    by_cases h60 : k = 60
    · have hge : ¬ ((k : Int) < 60) := by omega
      clear hend hkn hk6 h60
      go_wp2_with fail
      go_ret
      exact ⟨rfl, HR1.out.be⟩
    have hlt6 : (k : Int) < 60 := by omega
    obtain ⟨b, off, x, rfl, hx, hok0, hok, hxa, hbl⟩ := acts9_at HW.out HR1.out.be (show k < n by omega)
    have HKn : Hid (k < n ∧ k < 60) := Lib.hid ⟨by omega, by omega⟩
    have HX := Lib.hid hxa
    have HOk := Lib.hid hok
    obtain ⟨x0', x1', x2', x3', x4', x5', x6', x7', x8', x9', x10', x11'⟩ := hxa
    have HXn := Lib.hid (XAt.new wr x)
    have HLg := Lib.hid (fun w' => Ac.large w' x)
    clear hx hok0 hok hbl hend h60 hkn hk6
    have HBx := Lib.hid ((Below.refl wr.heap.size wr).alloc (Nat.le_refl _) (.cells #[.int .i64 x.kind, .int .i64 x.n, .int .i64 x.e.b, .int .i64 x.e.ep, .int .i64 x.e.sq, .string x.e.data, .bool x.e.dirty, .int .i64 x.e.cl, .int .i64 x.e.n, .slice x.aT x.nT x.cT, .string x.s, .slice x.aL x.nL x.cL] 41))
    generalize decide (Lrg x.e x.nT x.s x.nL) = lg at *
    cases lg with
    | true =>
      go_wp2_with (go_at_call 14; with_reducible refine (HLg.out _).mono ?_; rintro e w4 ⟨rfl, hb4⟩; have HB4 := Lib.hid (HBx.out.trans (hb4.mono HBx.out.size)); clear hb4)
      go_ret
      exact ⟨rfl, (HR1.out.below HB4.out).be⟩
    | false =>
      obtain ⟨z, hz⟩ : ∃ z, (V.e x.e.b).getD zeroE = z := ⟨_, rfl⟩
      obtain ⟨hd, hhd⟩ : ∃ hd, (V.e x.e.b).isSome = hd := ⟨_, rfl⟩
      obtain ⟨m, hm⟩ : ∃ m, num G.nb V.e = m := ⟨_, rfl⟩
      obtain ⟨all, hall⟩ : ∃ all, allV G.nb V.e = all := ⟨_, rfl⟩
      obtain ⟨V', hV'⟩ : ∃ V', doVi G.nb G.N V x.kind x.e x.t = V' := ⟨_, rfl⟩
      obtain ⟨rm, hrm⟩ : ∃ rm : Nat, G.N - 6 = rm := ⟨_, rfl⟩
      have hok := HR1.out.cs.ok
      have HAp : Hid (∀ (i : Nat) (y : En), all[i]? = some y → V.e y.b = some y ∧ -9223372036854775808 ≤ y.b ∧ y.b ≤ 9223372036854775807 ∧ ((x.kind ≤ 2 ∧ y.b = x.e.b) ∨ (¬ (x.kind ≤ 2 ∧ y.b = x.e.b) ∧ V'.e y.b = some y) ∨ (¬ (x.kind ≤ 2 ∧ y.b = x.e.b) ∧ (x.kind = 0 ∧ hd = false ∧ rm ≤ m) ∧ V'.e y.b = none ∧ y.dirty = false ∧ y.b = lowI G.nb V.e))) := Lib.hid (fun i y hy => by
        rw [← hall] at hy
        obtain ⟨b', hb1, hb2, hb3⟩ := mem_allV.1 (List.mem_of_getElem? hy)
        have hyb := hok.key b' y hb3
        have hye : V.e y.b = some y := by rw [hyb]; exact hb3
        have hnb := hok.nb
        refine ⟨hye, by omega, by omega, ?_⟩
        rcases apart_do (nb := G.nb) (N := G.N) hok (kind := x.kind) (e := x.e) (t := x.t) hye with h | h | ⟨h1, ⟨h2, h3, h4⟩, h5, h6, h7⟩
        · exact .inl h
        · rw [hV'] at h; exact .inr (.inl h)
        · rw [hV'] at h5
          refine .inr (.inr ⟨h1, ⟨h2, ?_, by omega⟩, h5, h6, h7⟩)
          rw [← hhd, h3]; rfl)
      have HLt : Hid (∀ {i j : Nat} {x y : En}, all[i]? = some x → all[j]? = some y → i < j → x.b < y.b) := Lib.hid (by rw [← hall]; exact fun h1 h2 h3 => allV_lt hok.key h1 h2 h3)
      have HLen : Hid (all.length = m) := Lib.hid (by rw [← hall, ← hm]; exact allV_len _ _)
      have hmI : (m : Int) ≤ 32 := by have := hok.nb; have : num G.nb V.e ≤ G.nb := cnt_le _ _; omega
      have hm0 : (0 : Int) ≤ (m : Int) := by omega
      have hrmI : (rm : Int) ≤ 37 := by have := HGN.out; omega
      have hrm0 : (0 : Int) ≤ (rm : Int) := by omega
      have HHd := Lib.hid hhd
      have HZ := Lib.hid hz
      have HM := Lib.hid hm
      have HAll := Lib.hid hall
      have HV' := Lib.hid hV'
      have HRm := Lib.hid hrm
      have hcases : x.kind ≠ 0 ∨ (x.kind = 0 ∧ hd = true) ∨ (x.kind = 0 ∧ hd = false ∧ ¬ rm ≤ m) ∨ (x.kind = 0 ∧ hd = false ∧ rm ≤ m) := by
        by_cases h1 : x.kind = 0
        · cases hd
          · by_cases h2 : rm ≤ m
            · exact .inr (.inr (.inr ⟨h1, rfl, h2⟩))
            · exact .inr (.inr (.inl ⟨h1, rfl, h2⟩))
          · exact .inr (.inl ⟨h1, rfl⟩)
        · exact .inl h1
      clear hz hhd hm hall hV' hrm hok
      have hsetup : ∃ (kb : Bool), (x.kind == 0) = kb ∧ ((kb = false ∧ ¬ (x.kind = 0 ∧ hd = false ∧ rm ≤ m)) ∨ (kb = true ∧ hd = true ∧ ¬ (x.kind = 0 ∧ hd = false ∧ rm ≤ m)) ∨ (kb = true ∧ hd = false ∧ ¬ ((rm : Int) ≤ (m : Int)) ∧ ¬ (x.kind = 0 ∧ hd = false ∧ rm ≤ m)) ∨ (kb = true ∧ hd = false ∧ (rm : Int) ≤ (m : Int) ∧ x.kind ≤ 2)) := by
        rcases hcases with h | ⟨h, h2⟩ | ⟨h, h2, h3⟩ | ⟨h, h2, h3⟩
        · exact ⟨false, by simpa using h, .inl ⟨rfl, fun q => h q.1⟩⟩
        · exact ⟨true, by simpa using h, .inr (.inl ⟨rfl, h2, fun q => by rw [h2] at q; exact absurd q.2.1 (by decide)⟩)⟩
        · exact ⟨true, by simpa using h, .inr (.inr (.inl ⟨rfl, h2, by omega, fun q => h3 q.2.2⟩))⟩
        · exact ⟨true, by simpa using h, .inr (.inr (.inr ⟨rfl, h2, by omega, by omega⟩))⟩
      obtain ⟨kb, hkb, hsetup⟩ := hsetup
      clear hcases
      rcases hsetup with ⟨rfl, hno⟩ | ⟨rfl, rfl, hno⟩ | ⟨rfl, rfl, hrf, hno⟩ | ⟨rfl, rfl, hrf, hno⟩
      all_goals
        have HNo := Lib.hid hno
        clear hno
        go_wp2_with (first
          | (go_at_call 14; with_reducible refine (HLg.out _).mono ?_; rintro e w4 ⟨rfl, hb4⟩
             have HB4 := Lib.hid (HBx.out.trans (hb4.mono HBx.out.size))
             have HX4 := Lib.hid (HXn.out.below hb4)
             have HR4 := Lib.hid (HR1.out.below HB4.out)
             have hal := HR4.out.all HQ.out
             rw [HM.out, HAll.out] at hal
             have HAl := Lib.hid hal
             clear hb4 hal)
          | (go_at_call 20; with_reducible refine HAl.out.mono ?_; rintro e w5 ⟨aT, cT, rfl, ho, hb5⟩
             have HO5 := Lib.hid ho
             have HX5 := Lib.hid (HX4.out.below hb5)
             have HR5 := Lib.hid (HR4.out.below hb5)
             have HB5 := Lib.hid hb5
             obtain ⟨y0, y1, y2, y3, y4, y5, y6, y7, y8, y9, y10, y11⟩ := HX5.out
             have HGt := Lib.hid (HR5.out.gets HQ.out x.e.b HOk.out.b1 HOk.out.b2 HZ.out HHd.out)
             clear ho hb5)
          | (go_at_call 25; with_reducible refine HGt.out.mono ?_; rintro e w6 ⟨rfl, hb6⟩
             have hb7 := hb6.trans ((Below.refl w6.heap.size w6).alloc (Nat.le_refl _) (.cells #[.int .i64 z.b, .int .i64 z.ep, .int .i64 z.sq, .string z.data, .bool z.dirty, .int .i64 z.cl, .int .i64 z.n] 37) |>.mono hb6.size)
             have HO7 := Lib.hid (HO5.out.but (But.of_below hb7) (by simp))
             have HX7 := Lib.hid (HX5.out.below hb7)
             have HR7 := Lib.hid (HR5.out.below hb7)
             have HB7 : Hid (Below w4.heap.size w4 (w6.alloc (.cells #[.int .i64 z.b, .int .i64 z.ep, .int .i64 z.sq, .string z.data, .bool z.dirty, .int .i64 z.cl, .int .i64 z.n] 37))) := Lib.hid (HB5.out.trans (hb7.mono HB5.out.size))
             obtain ⟨q0, q1, q2, q3, q4, q5, q6, q7, q8, q9, q10, q11⟩ := HX7.out
             have hro := HR7.out.room HQ.out
             rw [HRm.out] at hro
             have HRo := Lib.hid hro
             have hac := HR7.out.act HQ.out (by have := HKn.out; omega) x ((HOk.out.below HB4.out).below HB7.out)
             rw [HV'.out] at hac
             have HAc := Lib.hid hac
             clear hb6 hb7 hro hac)
          | (go_at_call 24; with_reducible refine HRo.out.mono ?_; rintro e w8 ⟨rfl, rfl⟩)
          | (go_at_call 22; with_reducible refine HAc.out.mono ?_; rintro e w9 ⟨rfl, r9, hR9, hbu9, hr9⟩
             have HR9 := Lib.hid hR9
             have HO9 := Lib.hid (HO7.out.but hbu9 (fun g hg => HR4.out.out (HO7.out.lt hg).1))
             have HX9 := Lib.hid (HX7.out.but hbu9 (HR1.out.out (Nat.le_refl _)))
             clear hR9 hbu9 hr9))
        go_loopw [14, 74] (fun gs i wz => ∃ (j gn : Nat), j ≤ m ∧ gs = .int .i64 gn ∧ i = .int .i64 j ∧ gn ≤ 1 ∧ (gn = 1 → ∃ (i' : Nat) (y' : En), i' < j ∧ all[i']? = some y' ∧ y'.b = lowI G.nb V.e) ∧ Below w9.heap.size w9 wz) (fun _ i _ => m - (RowKit.intOf i).toNat)
        case atStart => exact ⟨0, 0, by omega, rfl, rfl, by omega, fun h => by omega, Below.refl _ _⟩
        case round =>
          obtain ⟨j, gn, hj, rfl, rfl, hg1, hgn, hbz⟩ := hrel
          have HBz := Lib.hid hbz
          have HGn := Lib.hid (And.intro hg1 hgn)
          have HRz := Lib.hid (HR9.out.below hbz)
          have HXz := Lib.hid (HX9.out.below hbz)
          have HOz := Lib.hid (HO9.out.but (But.of_below hbz) (by simp))
          have hj0 : (0 : Int) ≤ (j : Int) := by omega
          have hgI : (gn : Int) ≤ 1 := by omega
          have hgI0 : (0 : Int) ≤ (gn : Int) := by omega
          clear hbz hg1 hgn
          by_cases hjm : j < m
          · have hjI : (j : Int) < (m : Int) := by omega
            obtain ⟨y, hy⟩ : ∃ y, all[j]? = some y := ⟨_, List.getElem?_eq_getElem (by rw [HLen.out]; exact hjm)⟩
            obtain ⟨gR, rfl, hg1, hg2, hgc⟩ := HOz.out.cell hy
            obtain ⟨hyV, hyb0, hyb1, hways⟩ := HAp.out j y hy
            have HY := Lib.hid hy
            have HJm := Lib.hid hjm
            obtain ⟨e0, e1, e2, e3, e4, e5, e6⟩ := hgc
            have HYn := Lib.hid (EAt.new wr y)
            have hba := (Below.refl wr.heap.size wr).alloc (Nat.le_refl _) (.cells #[.int .i64 y.b, .int .i64 y.ep, .int .i64 y.sq, .string y.data, .bool y.dirty, .int .i64 y.cl, .int .i64 y.n] 37)
            have HBa := Lib.hid hba
            have HXa := Lib.hid (HXz.out.below hba)
            have HRa := Lib.hid (HRz.out.below hba)
            clear hg1 hjm hj hba hy
            rcases hways with ⟨hk2, hyx⟩ | ⟨hns, hv⟩ | ⟨hns, hpl, hv, hdt, hlo⟩
            · obtain ⟨zz, hzz⟩ : ∃ zz, (V'.e y.b).getD zeroE = zz := ⟨_, rfl⟩
              obtain ⟨hh, hhh⟩ : ∃ hh, (V'.e y.b).isSome = hh := ⟨_, rfl⟩
              have HGy := Lib.hid (HRa.out.gets (q := B.qB) HQ.out y.b hyb0 hyb1 hzz hhh)
              have hyx' : (y.b == x.e.b) = true := by simpa using hyx
              clear hzz hhh hyV hyx
              go_wp2_with (go_at_call 25; with_reducible refine HGy.out.mono ?_; rintro e w11 ⟨rfl, hb11⟩
                           have hb12 := hb11.trans ((Below.refl w11.heap.size w11).alloc (Nat.le_refl _) (.cells #[.int .i64 zz.b, .int .i64 zz.ep, .int .i64 zz.sq, .string zz.data, .bool zz.dirty, .int .i64 zz.cl, .int .i64 zz.n] 37) |>.mono hb11.size)
                           have HB12 := Lib.hid (HBz.out.trans ((HBa.out.trans (hb12.mono HBa.out.size)).mono HBz.out.size))
                           obtain ⟨u0', u1', u2', u3', u4', u5', u6'⟩ := HYn.out.below hb12
                           obtain ⟨t0', t1', t2', t3', t4', t5', t6', t7', t8', t9', t10', t11'⟩ := HXa.out.below hb12
                           clear hb11 hb12)
              go_roundw
              case rel => exact ⟨j + 1, gn, by have := HJm.out; omega, rfl, by go_num, HGn.out.1, fun h => by obtain ⟨i', y', h1, h2⟩ := HGn.out.2 h; exact ⟨i', y', by omega, h2⟩, HB12.out⟩
              case measure => have := HJm.out; simp [RowKit.intOf]; omega
            · have HGy := Lib.hid (HRa.out.gets (q := B.qB) HQ.out y.b hyb0 hyb1 (z := y) (hd := true) (by rw [hv]; rfl) (by rw [hv]; rfl))
              have hw2 : (x.kind ≤ 2 ∧ (y.b == x.e.b) = false) ∨ ¬ x.kind ≤ 2 := by
                by_cases h2 : x.kind ≤ 2
                · exact .inl ⟨h2, by simpa using fun h => hns ⟨h2, h⟩⟩
                · exact .inr h2
              clear hyV hns hv
              rcases hw2 with ⟨hk2, hyx⟩ | hk2
              all_goals
                first
                  | (exfalso; have h0 : x.kind = 0 := by simpa using hkb
                     omega)
                  | (go_wp2_with (go_at_call 25; with_reducible refine HGy.out.mono ?_; rintro e w11 ⟨rfl, hb11⟩
                                  have hb12 := hb11.trans ((Below.refl w11.heap.size w11).alloc (Nat.le_refl _) (.cells #[.int .i64 y.b, .int .i64 y.ep, .int .i64 y.sq, .string y.data, .bool y.dirty, .int .i64 y.cl, .int .i64 y.n] 37) |>.mono hb11.size)
                                  have HB12 := Lib.hid (HBz.out.trans ((HBa.out.trans (hb12.mono HBa.out.size)).mono HBz.out.size))
                                  obtain ⟨u0', u1', u2', u3', u4', u5', u6'⟩ := HYn.out.below hb12
                                  obtain ⟨t0', t1', t2', t3', t4', t5', t6', t7', t8', t9', t10', t11'⟩ := HXa.out.below hb12
                                  clear hb11 hb12)
                     go_roundw
                     case rel => exact ⟨j + 1, gn, by have := HJm.out; omega, rfl, by go_num, HGn.out.1, fun h => by obtain ⟨i', y', h1, h2⟩ := HGn.out.2 h; exact ⟨i', y', by omega, h2⟩, HB12.out⟩
                     case measure => have := HJm.out; simp [RowKit.intOf]; omega)
            · first
                | exact absurd hpl HNo.out
                | (have hgy := HRa.out.gets (q := B.qB) HQ.out y.b hyb0 hyb1 (z := zeroE) (hd := false) (by rw [hv]; rfl) (by rw [hv]; rfl)
                   simp only [zeroE] at hgy
                   have HGy := Lib.hid hgy
                   clear hgy
                   have hk2 : x.kind ≤ 2 := HNo.out
                   have hyx : (y.b == x.e.b) = false := by simpa using fun h => hns ⟨hk2, h⟩
                   have hg0 : Hid (gn = 0) := Lib.hid (by
                     rcases (by have := HGn.out.1; omega : gn = 0 ∨ gn = 1) with h | h
                     · exact h
                     · obtain ⟨i', y', h1, h2, h3⟩ := HGn.out.2 h
                       have := HLt.out h2 HY.out h1
                       omega)
                   have HLo := Lib.hid hlo
                   have HDt := Lib.hid hdt
                   clear hyV hns hv hpl hlo hdt
                   go_wp2_with (go_at_call 25; with_reducible refine HGy.out.mono ?_; rintro e w11 ⟨rfl, hb11⟩
                                have hb12 := hb11.trans ((Below.refl w11.heap.size w11).alloc (Nat.le_refl _) (.cells #[.int .i64 0, .int .i64 0, .int .i64 0, .string ⟨#[]⟩, .bool false, .int .i64 0, .int .i64 0] 37) |>.mono hb11.size)
                                have HB12 := Lib.hid (HBz.out.trans ((HBa.out.trans (hb12.mono HBa.out.size)).mono HBz.out.size))
                                obtain ⟨u0', u1', u2', u3', u4', u5', u6'⟩ := HYn.out.below hb12
                                obtain ⟨t0', t1', t2', t3', t4', t5', t6', t7', t8', t9', t10', t11'⟩ := HXa.out.below hb12
                                rw [HDt.out] at u4'
                                clear hb11 hb12)
                   go_roundw
                   case rel => exact ⟨j + 1, gn + 1, by have := HJm.out; omega, by go_num, by go_num, by have := hg0.out; omega, fun _ => ⟨j, y, by omega, HY.out, HLo.out⟩, HB12.out⟩
                   case measure => have := HJm.out; simp [RowKit.intOf]; omega)
          · obtain rfl : j = m := by omega
            have hcn := HRz.out.cs.ok.cn
            rw [HRm.out] at hcn
            obtain ⟨m', hm'⟩ : ∃ m', num G.nb V'.e = m' := ⟨_, rfl⟩
            have hal := HRz.out.all (q := B.qB) HQ.out
            rw [hm'] at hal
            have HAl2 := Lib.hid hal
            have hm'I : (m' : Int) ≤ (rm : Int) := by omega
            have hm'0 : (0 : Int) ≤ (m' : Int) := by omega
            have hmx : ¬ (max (rm : Int) (j : Int) < (m' : Int)) := by omega
            have hgn1 : ¬ ((1 : Int) < (gn : Int)) := by omega
            have Hhj := Lib.hid hj
            clear hcn hm' hal hj hjm
            go_wp2_with (first
              | (go_at_call 20; with_reducible refine HAl2.out.mono ?_; rintro e w10 ⟨aV, cV, rfl, _, hb10⟩
                 have HR10 := Lib.hid (HRz.out.below hb10)
                 have hro := HR10.out.room (q := B.qB) HQ.out
                 rw [HRm.out] at hro
                 have HRo2 := Lib.hid hro
                 clear hb10 hro)
              | (go_at_call 24; with_reducible refine HRo2.out.mono ?_; rintro e w12 ⟨rfl, rfl⟩))
            go_roundw
            case rel => exact ⟨k + 1, B1.row r9, V', by have := HKn.out; omega, by have := HKn.out; omega, by go_num, HQ.out, HR10.out.mono (by omega)⟩
            case measure => have := HKn.out; simp [RowKit.intOf]; omega
end Q
end Go.Proofs.YtmcalgnpinolmaaGreat
