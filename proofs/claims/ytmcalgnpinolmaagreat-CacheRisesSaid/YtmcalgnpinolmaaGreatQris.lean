/-
  CacheRises: the walk.
-/
import Derived.Test.YtmcalgnpinolmaaGreatQG
import Derived.Deep.DeepCutAuto
namespace Go.Proofs.YtmcalgnpinolmaaGreat
open Go.RowKit Go.Maps
set_option linter.unusedVariables false
set_option linter.unusedSimpArgs false
set_option maxRecDepth 20000
namespace Q
variable {w0 : World} {B : Bk} {G : Gm} {V V' : Vi} {K K' : Int}

/-- is a version above another one, as the document tells it -/
theorem above_no (w : World) (a b c d : Int) (h : ord a b c d ≤ 0) : Calls Tryz.prog 29 #[.agg #[.int .i64 a, .int .i64 b], .agg #[.int .i64 c, .int .i64 d]] w fun e w' => e = .returned (.bool false) ∧ Below w.heap.size w w' := by
  have HB := Lib.hid (((Below.refl w.heap.size w).alloc (Nat.le_refl _) (.cells #[.int .i64 a, .int .i64 b] 30)).alloc (by simp) (.cells #[.int .i64 c, .int .i64 d] 30))
  by_cases hac : a = c
  · subst hac
    have hb : ¬ d < b := by
      intro hl
      unfold ord at h
      rw [if_neg (by omega), if_neg (by omega), if_neg (by omega), if_pos hl] at h
      omega
    clear h
    go_enter Tryz.func29, Tryz.ntmps29
    go_wp2_with fail
    go_ret
    exact ⟨rfl, HB.out⟩
  · have hb : ¬ c < a := by
      intro hl
      unfold ord at h
      rw [if_neg (by omega), if_pos hl] at h
      omega
    have hne : (a != c) = true := by simpa using hac
    clear h hac
    go_enter Tryz.func29, Tryz.ntmps29
    go_wp2_with fail
    go_ret
    exact ⟨rfl, HB.out⟩

/-- no entry is above Last -/
def Low (V : Vi) : Prop := ∀ b x, V.e b = some x → ord x.ep x.sq V.k.ep V.k.sq ≤ 0
structure Up (k k' : Kp) : Prop where
  o : ord k.ep k.sq k'.ep k'.sq ≤ 0
  a0 : k.t0 ≤ k'.t0
  a1 : k.t1 ≤ k'.t1
  a2 : k.t2 ≤ k'.t2
  a3 : k.t3 ≤ k'.t3

theorem ord_le_iff {a b c d : Int} : ord a b c d ≤ 0 ↔ a < c ∨ (a = c ∧ b ≤ d) := by
  unfold ord
  by_cases h1 : a < c
  · rw [if_pos h1]; omega
  rw [if_neg h1]
  by_cases h2 : c < a
  · rw [if_pos h2]; omega
  rw [if_neg h2]
  by_cases h3 : b < d
  · rw [if_pos h3]; omega
  rw [if_neg h3]
  by_cases h4 : d < b
  · rw [if_pos h4]; omega
  · rw [if_neg h4]; omega
theorem ord_refl (a b : Int) : ord a b a b ≤ 0 := ord_le_iff.2 (.inr ⟨rfl, Int.le_refl _⟩)
theorem ord_trans {a b c d e f : Int} (h1 : ord a b c d ≤ 0) (h2 : ord c d e f ≤ 0) : ord a b e f ≤ 0 := by
  rw [ord_le_iff] at *; omega
theorem Up.refl (k : Kp) : Up k k := ⟨ord_refl _ _, Int.le_refl _, Int.le_refl _, Int.le_refl _, Int.le_refl _⟩
theorem Low.none : Low ⟨vis none0, kp0⟩ := fun b x h => by cases h

theorem up_behind {k : Kp} {x : En} (h : 0 < ord x.ep x.sq k.ep k.sq) : Up k (behind k x) := by
  have h2 : ord k.ep k.sq x.ep x.sq ≤ 0 := by
    rw [ord_le_iff]
    have : ¬ ord x.ep x.sq k.ep k.sq ≤ 0 := by omega
    rw [ord_le_iff] at this
    omega
  unfold behind
  split
  · exact ⟨h2, Int.le_refl _, Int.le_refl _, Int.le_refl _, Int.le_refl _⟩
  · unfold Kp.set Kp.get
    by_cases c0 : x.cl = 0
    · rw [if_pos c0, if_pos c0]; refine ⟨h2, ?_, ?_, ?_, ?_⟩ <;> simp only <;> omega
    rw [if_neg c0, if_neg c0]
    by_cases c1 : x.cl = 1
    · rw [if_pos c1, if_pos c1]; refine ⟨h2, ?_, ?_, ?_, ?_⟩ <;> simp only <;> omega
    rw [if_neg c1, if_neg c1]
    by_cases c2 : x.cl = 2
    · rw [if_pos c2, if_pos c2]; refine ⟨h2, ?_, ?_, ?_, ?_⟩ <;> simp only <;> omega
    rw [if_neg c2, if_neg c2]
    by_cases c3 : x.cl = 3
    · rw [if_pos c3, if_pos c3]; refine ⟨h2, ?_, ?_, ?_, ?_⟩ <;> simp only <;> omega
    rw [if_neg c3]
    refine ⟨h2, ?_, ?_, ?_, ?_⟩ <;> simp only <;> omega
theorem behind_v (k : Kp) (x : En) : (behind k x).ep = x.ep ∧ (behind k x).sq = x.sq := by
  unfold behind
  split
  · exact ⟨rfl, rfl⟩
  · unfold Kp.set
    by_cases c0 : x.cl = 0
    · rw [if_pos c0]; exact ⟨rfl, rfl⟩
    rw [if_neg c0]
    by_cases c1 : x.cl = 1
    · rw [if_pos c1]; exact ⟨rfl, rfl⟩
    rw [if_neg c1]
    by_cases c2 : x.cl = 2
    · rw [if_pos c2]; exact ⟨rfl, rfl⟩
    rw [if_neg c2]
    by_cases c3 : x.cl = 3
    · rw [if_pos c3]; exact ⟨rfl, rfl⟩
    rw [if_neg c3]; exact ⟨rfl, rfl⟩

/-- what a deed leaves is what was there, or the entry that it lays, or such a one that is clean now -/
theorem stepV_old {e : Vm} {d : Deed} {b : Int} {x : En} (h : stepV e d b = some x) : (∃ y, e b = some y ∧ y.ep = x.ep ∧ y.sq = x.sq) ∨ d = .lay x := by
  cases d with
  | lay z =>
    simp only [stepV, updV] at h
    by_cases hb : b = z.b
    · rw [if_pos hb] at h; injection h with h; subst h; exact .inr rfl
    · rw [if_neg hb] at h; exact .inl ⟨x, h, rfl, rfl⟩
  | clean b0 ep sq =>
    simp only [stepV] at h
    cases hy : e b0 with
    | none => rw [hy] at h; exact .inl ⟨x, h, rfl, rfl⟩
    | some y =>
      rw [hy] at h
      simp only at h
      by_cases hv : y.ep = ep ∧ y.sq = sq
      · rw [if_pos hv] at h
        simp only [updV] at h
        by_cases hb : b = b0
        · rw [if_pos hb] at h; injection h with h; subst h; exact .inl ⟨y, by rw [hb]; exact hy, rfl, rfl⟩
        · rw [if_neg hb] at h; exact .inl ⟨x, h, rfl, rfl⟩
      · rw [if_neg hv] at h; exact .inl ⟨x, h, rfl, rfl⟩
  | drop b0 =>
    simp only [stepV, updV] at h
    by_cases hb : b = b0
    · rw [if_pos hb] at h; cases h
    · rw [if_neg hb] at h; exact .inl ⟨x, h, rfl, rfl⟩
  | note => exact .inl ⟨x, h, rfl, rfl⟩

theorem putDs_in {nb : Nat} {x : En} (f : Bool) : ∀ p ∈ putDs nb V x f, p.1 = .lay x ∨ ∃ b, p.1 = .drop b := by
  intro p hp
  cases f with
  | true =>
    simp [putDs] at hp
    rcases hp with rfl | rfl
    · exact .inr ⟨_, rfl⟩
    · exact .inl rfl
  | false => simp [putDs] at hp; subst hp; exact .inl rfl
theorem low_put {nb N : Nat} {x : En} (h : Low V) : Low (putVi nb N V x) ∧ Up V.k (putVi nb N V x).k := by
  by_cases he : putE nb N V x = 0
  · have ho : 0 < ord x.ep x.sq V.k.ep V.k.sq := by
      unfold putE at he
      by_cases h1 : checkE nb x ≠ 0
      · rw [if_pos h1] at he; exact absurd he h1
      rw [if_neg h1] at he
      by_cases h2 : ord x.ep x.sq V.k.ep V.k.sq ≤ 0
      · rw [if_pos h2] at he; cases he
      · omega
    have hu := up_behind ho
    obtain ⟨hv1, hv2⟩ := behind_v V.k x
    have key : ∀ ds : List (Deed × Kp), (∀ p ∈ ds, p.1 = .lay x ∨ ∃ b, p.1 = .drop b) → ∀ e : Vm, (∀ b y, e b = some y → ord y.ep y.sq x.ep x.sq ≤ 0) → ∀ b y, runV e ds b = some y → ord y.ep y.sq x.ep x.sq ≤ 0 := by
      intro ds
      induction ds with
      | nil => intro _ e he b y hy; exact he b y hy
      | cons p ds ih =>
        intro hp e he b y hy
        refine ih (fun q hq => hp q (by simp [hq])) _ (fun b y hy => ?_) b y hy
        rcases stepV_old hy with ⟨z, hz, h1, h2⟩ | hd
        · rw [← h1, ← h2]; exact he b z hz
        · rcases hp p (by simp) with h3 | ⟨b0, h3⟩
          · rw [h3] at hd; injection hd with hd; subst hd; exact ord_refl _ _
          · rw [h3] at hd; cases hd
    have hold : ∀ b y, V.e b = some y → ord y.ep y.sq x.ep x.sq ≤ 0 := fun b y hy => ord_trans (h b y hy) (by
      have h2 := hu.o
      rw [hv1, hv2] at h2
      exact h2)
    have hk : (putVi nb N V x).k = behind V.k x := by unfold putVi; rw [if_neg (by rw [he]; simp)]
    refine ⟨fun b y hy => ?_, by rw [hk]; exact hu⟩
    rw [hk, hv1, hv2]
    unfold putVi at hy
    rw [if_neg (by rw [he]; simp)] at hy
    refine key _ (fun p hp => ?_) V.e hold b y hy
    exact putDs_in _ p hp
  · rw [putVi_0 he]; exact ⟨h, Up.refl _⟩

theorem low_do {nb N : Nat} {kind : Int} {e : En} {t : List Int} (h : Low V) (h8 : kind ≠ 8) : Low (doVi nb N V kind e t) ∧ Up V.k (doVi nb N V kind e t).k := by
  unfold doVi
  split
  · exact low_put h
  split
  · refine ⟨fun b x hx => ?_, Up.refl _⟩
    rcases stepV_old (show stepV V.e (.clean e.b e.ep e.sq) b = some x from hx) with ⟨y, hy, h1, h2⟩ | hd
    · rw [← h1, ← h2]; exact h b y hy
    · cases hd
  split
  · refine ⟨fun b x hx => ?_, Up.refl _⟩
    rcases stepV_old (show stepV V.e (.drop e.b) b = some x from hx) with ⟨y, hy, h1, h2⟩ | hd
    · rw [← h1, ← h2]; exact h b y hy
    · cases hd
  split
  · unfold noteVi
    split
    · have hu : Up V.k (noteK V.k (keepK e.ep e.sq t)) := by
        unfold noteK
        refine ⟨?_, by simp only; omega, by simp only; omega, by simp only; omega, by simp only; omega⟩
        simp only
        by_cases ho : 0 < ord V.k.ep V.k.sq (keepK e.ep e.sq t).ep (keepK e.ep e.sq t).sq
        · rw [if_pos ho, if_pos ho]; exact ord_refl _ _
        · rw [if_neg ho, if_neg ho]; omega
      exact ⟨fun b x hx => ord_trans (h b x hx) hu.o, hu⟩
    · exact ⟨h, Up.refl _⟩
  · exact ⟨h, Up.refl _⟩

set_option maxHeartbeats 8000000 in
theorem rises_any (x0 : Int) (a : Option Addr) (n c : Nat) (l : List Ac) (w : World) (f0 : (Lit.int .u8 x0).wf = true) (hA : Acts9 w a n c l) :
    Calls Tryz.prog 7 #[.int .u8 x0, .slice a n c] w fun e w' => e = .returned (.bool true) ∧ Below w.heap.size w w' := by
  have HA := Lib.hid (awake_any w)
  have HLO := Lib.hid (fun w1 hb => law_open w w1 hb x0 f0)
  have HW := Lib.hid hA
  have hnI : (n : Int) ≤ 9223372036854775807 := by have := hA.2.1; have := hA.2.2.1; unfold maxLen at this; omega
  clear f0 hA
  go_enter Tryz.func7, Tryz.ntmps7
  go_wp2_with (first
    | (go_at_call 11; with_reducible refine HA.out.mono ?_; rintro e w1 ⟨rfl, hb1⟩; have HLO1 := Lib.hid (HLO.out w1 hb1); clear hb1)
    | (go_at_call 12; with_reducible refine HLO1.out.mono ?_; rintro e w2 ⟨B, N, h8, h37, hx, rfl, hR, _, _⟩
       obtain ⟨G, hG⟩ : ∃ G : Gm, G = ⟨N + 2, 2, N, 0, 1, 32⟩ := ⟨_, rfl⟩
       rw [← hG] at hR
       have HR := Lib.hid hR
       have HT := Lib.hid (hR.told (q := B.qB) rfl)
       clear h8 h37 hx hR hG)
    | (go_at_call 13; with_reducible refine HT.out.mono ?_; rintro e w3 ⟨aW, cW, rfl, _, hb3⟩
       have hb4 := hb3.trans ((Below.refl w3.heap.size w3).alloc (Nat.le_refl _) (.cells #[.slice aW (num G.nb (vis none0)) cW, .int .i64 kp0.ep, .int .i64 kp0.sq, .int .i64 kp0.t0, .int .i64 kp0.t1, .int .i64 kp0.t2, .int .i64 kp0.t3] 33) |>.mono hb3.size)
       have HR4 := Lib.hid (HR.out.below hb4)
       have HT4 := Lib.hid (Told.new w3 aW (num G.nb (vis none0)) cW kp0)
       have HP0 : Hid (w.heap.size ≤ w3.heap.size ∧ w3.heap.size ∉ B.l) := Lib.hid ⟨by have := HR.out.be.size; have := hb3.size; omega, HR.out.out hb3.size⟩
       clear hb3 hb4))
  clear HLO HLO1 HA HT HR
  go_loopw [9] (fun i wr => ∃ (k : Nat) (B1 : Bk) (V : Vi) (aW : Option Addr) (nW cW : Nat), k ≤ n ∧ k ≤ 60 ∧ i = .int .i64 k ∧ B1.qB = B.qB ∧ w3.heap.size ∉ B1.l ∧ Rq w wr B1 G V (2 + 2002 * (k : Int)) ∧ Told wr w3.heap.size aW nW cW V.k ∧ Low V) (fun i _ => 60 - (RowKit.intOf i).toNat)
  case atStart => exact ⟨0, B, _, _, _, _, by omega, by omega, rfl, rfl, HP0.out.2, HR4.out.mono (by simp), HT4.out, Low.none⟩
  case round =>
    obtain ⟨k, B1, V, aW, nW, cW, hkn, hk6, rfl, hq, hPn, hRq, hTo, hLow⟩ := hrel
    have HR1 := Lib.hid hRq
    have HQ := Lib.hid hq
    have HPn := Lib.hid hPn
    have HTo := Lib.hid hTo
    have HLow := Lib.hid hLow
    have hk0 : (0 : Int) ≤ (k : Int) := by omega
    clear hRq hq HR4 HT4 hPn hTo hLow
    by_cases hend : k = n
    · have hge : ¬ ((k : Int) < (n : Int)) := by omega
      clear hend hkn hk6
      go_wp2_with fail
      go_ret
      exact ⟨rfl, HR1.out.be⟩
    have hlt : (k : Int) < (n : Int) := by omega
    by_cases h60 : k = 60
    · have hge : ¬ ((k : Int) < 60) := by omega
      clear hend hkn hk6 h60
      go_wp2_with fail
      go_ret
      exact ⟨rfl, HR1.out.be⟩
    have hlt6 : (k : Int) < 60 := by omega
    obtain ⟨b, off, x, rfl, hx, hok0, hok, hxa, hbl⟩ := acts9_at HW.out HR1.out.be (show k < n by omega)
    have HKn : Hid (k < n ∧ k < 60) := Lib.hid ⟨by omega, by omega⟩
    have HX := Lib.hid hxa
    have HOk := Lib.hid hok
    obtain ⟨x0', x1', x2', x3', x4', x5', x6', x7', x8', x9', x10', x11'⟩ := hxa
    have HLg := Lib.hid (fun w' => Ac.large w' x)
    clear hx hok0 hok hbl hend h60 hkn hk6
    generalize decide (Lrg x.e x.nT x.s x.nL) = lg at *
    cases lg with
    | true =>
      go_wp2_with (go_at_call 14; with_reducible refine (HLg.out _).mono ?_; rintro e w4 ⟨rfl, hb4⟩; have HB4 := Lib.hid hb4; clear hb4)
      go_ret
      exact ⟨rfl, (HR1.out.below HB4.out).be⟩
    | false =>
      by_cases h8 : x.kind = 8
      · have d8 : (x.kind == 8) = true := by simpa using h8
        clear h8
        go_wp2_with (go_at_call 14; with_reducible refine (HLg.out _).mono ?_; rintro e w4 ⟨rfl, hb4⟩
                     have HB4 := Lib.hid hb4
                     obtain ⟨y0, y1, y2, y3, y4, y5, y6, y7, y8, y9, y10, y11⟩ := HX.out.below hb4
                     clear hb4)
        go_roundw
        case rel => exact ⟨k + 1, B1, V, aW, nW, cW, by have := HKn.out; omega, by have := HKn.out; omega, by go_num, HQ.out, HPn.out, (HR1.out.below HB4.out).mono (by omega), HTo.out.below HB4.out, HLow.out⟩
        case measure => have := HKn.out; simp [RowKit.intOf]; omega
      · have d8 : (x.kind == 8) = false := by simpa using h8
        obtain ⟨V', hV'⟩ : ∃ V', doVi G.nb G.N V x.kind x.e x.t = V' := ⟨_, rfl⟩
        have hlo := low_do (nb := G.nb) (N := G.N) (e := x.e) (t := x.t) HLow.out h8
        rw [hV'] at hlo
        have HLo := Lib.hid hlo
        have HV' := Lib.hid hV'
        have u0 : ¬ (V'.k.t0 < V.k.t0) := by have := hlo.2.a0; omega
        have u1 : ¬ (V'.k.t1 < V.k.t1) := by have := hlo.2.a1; omega
        have u2 : ¬ (V'.k.t2 < V.k.t2) := by have := hlo.2.a2; omega
        have u3 : ¬ (V'.k.t3 < V.k.t3) := by have := hlo.2.a3; omega
        have HP0l : Hid (w3.heap.size < wr.heap.size) := Lib.hid HTo.out.lt
        clear h8 hlo hV'
        go_wp2_with (first
          | (go_at_call 14; with_reducible refine (HLg.out _).mono ?_; rintro e w4 ⟨rfl, hb4⟩
             have HB4 := Lib.hid hb4
             have HR4 := Lib.hid (HR1.out.below hb4)
             obtain ⟨y0, y1, y2, y3, y4, y5, y6, y7, y8, y9, y10, y11⟩ := HX.out.below hb4
             have hac := HR4.out.act HQ.out (by have := HKn.out; omega) x (HOk.out.below hb4)
             rw [HV'.out] at hac
             have HAc := Lib.hid hac
             clear hb4 hac)
          | (go_at_call 22; with_reducible refine HAc.out.mono ?_; rintro e w5 ⟨rfl, r5, hR5, hbu5, hr5⟩
             have HR5 := Lib.hid hR5
             have HTo5 := Lib.hid ((HTo.out.below HB4.out).but hbu5 HPn.out)
             have HPn5 := Lib.hid (row_out HPn.out hr5 (by have := HP0l.out; have := HB4.out.size; omega))
             have HT2 := Lib.hid (hR5.told (q := B.qB) HQ.out)
             clear hR5 hbu5 hr5)
          | (go_at_call 13; with_reducible refine HT2.out.mono ?_; rintro e w6 ⟨aU, cU, rfl, ho, hb6⟩
             have hba := (Below.refl w6.heap.size w6).alloc (Nat.le_refl _) (.cells #[.slice aU (num G.nb V'.e) cU, .int .i64 V'.k.ep, .int .i64 V'.k.sq, .int .i64 V'.k.t0, .int .i64 V'.k.t1, .int .i64 V'.k.t2, .int .i64 V'.k.t3] 33)
             have hb7 := hb6.trans (hba.mono hb6.size)
             have HR7 := Lib.hid (HR5.out.below hb7)
             have HTo7 := Lib.hid (HTo5.out.below hb7)
             have HTn7 := Lib.hid (Told.new w6 aU (num G.nb V'.e) cU V'.k)
             have HO7 := Lib.hid (ho.but (But.of_below hba) (by simp))
             obtain ⟨c0, c1, c2, c3, c4, c5, c6, fz1⟩ := HTn7.out.at
             obtain ⟨d0, d1, d2, d3, d4, d5, d6, fz2⟩ := HTo7.out.at
             clear ho hb6 hba hb7)
          | (go_at_call 29; with_reducible refine (above_no _ _ _ _ _ HLo.out.2.o).mono ?_; rintro e w8 ⟨rfl, hb8⟩
             have HR8 := Lib.hid (HR7.out.below hb8)
             have HTo8 := Lib.hid (HTo7.out.below hb8)
             have HTn8 := Lib.hid (HTn7.out.below hb8)
             have HO8 := Lib.hid (HO7.out.but (But.of_below hb8) (by simp))
             clear hb8))
        go_loopw [59] (fun i wz => ∃ k2 : Nat, k2 ≤ 4 ∧ i = .int .i64 k2 ∧ Below w8.heap.size w8 wz) (fun i _ => 4 - (RowKit.intOf i).toNat)
        case atStart => exact ⟨0, by omega, rfl, Below.refl _ _⟩
        case round =>
          obtain ⟨k2, hk2, rfl, hbz⟩ := hrel
          have HBz := Lib.hid hbz
          have HTo9 := Lib.hid (HTo8.out.below hbz)
          have HTn9 := Lib.hid (HTn8.out.below hbz)
          obtain ⟨e0, e1, e2, e3, e4, e5, e6, fz9⟩ := HTn9.out.at
          obtain ⟨g0, g1, g2, g3, g4, g5, g6, fz10⟩ := HTo9.out.at
          clear hbz
          by_cases hk4 : k2 < 4
          · rcases (by omega : k2 = 0 ∨ k2 = 1 ∨ k2 = 2 ∨ k2 = 3) with rfl | rfl | rfl | rfl
            all_goals
              clear hk2 hk4
              go_wp2_with fail
              go_quiet (fail)
              go_wp2_with fail
              go_roundw
              case rel => first | exact ⟨1, by omega, by rfl, HBz.out.trans ((below_drewN _ _ _).mono HBz.out.size)⟩ | exact ⟨2, by omega, by rfl, HBz.out.trans ((below_drewN _ _ _).mono HBz.out.size)⟩ | exact ⟨3, by omega, by rfl, HBz.out.trans ((below_drewN _ _ _).mono HBz.out.size)⟩ | exact ⟨4, by omega, by rfl, HBz.out.trans ((below_drewN _ _ _).mono HBz.out.size)⟩
              case measure => simp [RowKit.intOf]
          · obtain rfl : k2 = 4 := by omega
            rw [show ((4 : Nat) : Int) = 4 from rfl]
            clear hk2 hk4
            have HBz' : Hid (Below w8.heap.size w8 wr) := Lib.hid HBz.out
            have hmI : (num G.nb V'.e : Int) ≤ 32 := by have := HR8.out.cs.ok.nb; have : num G.nb V'.e ≤ G.nb := cnt_le _ _; omega
            have hm0 : (0 : Int) ≤ (num G.nb V'.e : Int) := by omega
            have HLen := Lib.hid (allV_len G.nb V'.e)
            have HEl : Hid (∀ (i : Nat) (x : En), (allV G.nb V'.e)[i]? = some x → ord x.ep x.sq V'.k.ep V'.k.sq ≤ 0) := Lib.hid (fun i x hi => by
              obtain ⟨b, _, _, hb⟩ := mem_allV.1 (List.mem_of_getElem? hi)
              exact HLo.out.1 b x hb)
            go_wp2_with fail
            go_loopw [75] (fun i wz => ∃ k3 : Nat, k3 ≤ num G.nb V'.e ∧ i = .int .i64 k3 ∧ Below w8.heap.size w8 wz) (fun i _ => num G.nb V'.e - (RowKit.intOf i).toNat)
            case atStart => exact ⟨0, by omega, rfl, HBz'.out⟩
            case round =>
              obtain ⟨k3, hk3, rfl, hbz⟩ := hrel
              have HBy := Lib.hid hbz
              have HToy := Lib.hid (HTo8.out.below hbz)
              have HTny := Lib.hid (HTn8.out.below hbz)
              obtain ⟨i0, i1, i2, i3, i4, i5, i6, fz11⟩ := HTny.out.at
              have hk30 : (0 : Int) ≤ (k3 : Int) := by omega
              clear hbz
              by_cases hk4 : k3 < num G.nb V'.e
              · have hk4I : (k3 : Int) < (num G.nb V'.e : Int) := by omega
                obtain ⟨y, hy⟩ : ∃ y, (allV G.nb V'.e)[k3]? = some y := ⟨_, List.getElem?_eq_getElem (by rw [HLen.out]; exact hk4)⟩
                obtain ⟨gR, rfl, hg1, hg2, hgc⟩ := (HO8.out.but (But.of_below HBy.out) (by simp)).cell hy
                have HGc := Lib.hid hgc
                have HAb := Lib.hid (fun w' => above_no w' y.ep y.sq V'.k.ep V'.k.sq (HEl.out k3 y hy))
                have HK3 := Lib.hid hk4
                have HS1 := Lib.hid (And.intro i0 (And.intro i1 (And.intro i2 (And.intro hgc.c1 hgc.c2))))
                clear hy hg1 hgc hk4 hk3 i3 i4 i5 i6 fz11
                go_wp2_with fail
                go_region_held3 (fun w' => w'.cell? ⟨w6.heap.size, 0, none⟩ = some (.slice (some ⟨gR, 0, none⟩) (num G.nb V'.e) cU) ∧ w'.cell? ⟨w6.heap.size, 1, none⟩ = some (.int .i64 V'.k.ep) ∧ w'.cell? ⟨w6.heap.size, 2, none⟩ = some (.int .i64 V'.k.sq) ∧ w'.cell? ⟨gR, k3 * 7 + 1, none⟩ = some (.int .i64 y.ep) ∧ w'.cell? ⟨gR, k3 * 7 + 2, none⟩ = some (.int .i64 y.sq))
                  (first
                    | exact HS1.out
                    | exact HS2.out)
                  (first
                    | (go_at_call 29; with_reducible refine (HAb.out _).mono ?_; rintro e w9 ⟨rfl, hb9⟩
                       have HB9 := Lib.hid (HBy.out.trans (((Below.refl _ _).drew.trans hb9).mono HBy.out.size))
                       have HS2 := Lib.hid (And.intro (show w9.cell? ⟨w6.heap.size, 0, none⟩ = some (.slice (some ⟨gR, 0, none⟩) (num G.nb V'.e) cU) from (HTn8.out.below HB9.out).at.c0) (And.intro (HTn8.out.below HB9.out).at.c1 (And.intro (HTn8.out.below HB9.out).at.c2 (And.intro (HGc.out.but (But.of_below ((Below.refl _ _).drew.trans hb9)) (by simp)).c1 (HGc.out.but (But.of_below ((Below.refl _ _).drew.trans hb9)) (by simp)).c2))))
                       clear hb9))
                go_wp2_with fail
                go_roundw
                case rel => exact ⟨k3 + 1, by have := HK3.out; omega, by go_num, HB9.out⟩
                case measure => have := HK3.out; simp [RowKit.intOf]; omega
              · obtain rfl : k3 = num G.nb V'.e := by omega
                obtain ⟨j0, j1, j2, j3, j4, j5, j6, fz12, hth⟩ := seven HToy.out
                have HTh := Lib.hid hth
                have HTf : Hid (Told (wr.setCells w3.heap.size 0 [.slice aU (num G.nb V'.e) cU, .int .i64 V'.k.ep, .int .i64 V'.k.sq, .int .i64 V'.k.t0, .int .i64 V'.k.t1, .int .i64 V'.k.t2, .int .i64 V'.k.t3]) w3.heap.size aU (num G.nb V'.e) cU V'.k) := Lib.hid (HToy.out.set _ _ _ _)
                have hbf : But [w3.heap.size] wr (wr.setCells w3.heap.size 0 [.slice aU (num G.nb V'.e) cU, .int .i64 V'.k.ep, .int .i64 V'.k.sq, .int .i64 V'.k.t0, .int .i64 V'.k.t1, .int .i64 V'.k.t2, .int .i64 V'.k.t3]) := (But.refl [w3.heap.size] wr).sets w3.heap.size 0 _ (.inl (by simp))
                have HRf : Hid (Rq w (wr.setCells w3.heap.size 0 [.slice aU (num G.nb V'.e) cU, .int .i64 V'.k.ep, .int .i64 V'.k.sq, .int .i64 V'.k.t0, .int .i64 V'.k.t1, .int .i64 V'.k.t2, .int .i64 V'.k.t3]) (B1.row r5) G V' (2 + 2002 * (k : Int) + 2002)) := Lib.hid ((HR8.out.below HBy.out).but hbf (by intro y hy hc; simp at hc; exact HPn5.out (hc ▸ hy)) (by intro y hy; simp at hy; subst hy; exact HP0.out.1))
                clear hth hk4 hk3 hbf
                go_wp2_with fail
                go_roundw
                case rel => exact ⟨k + 1, B1.row r5, V', aU, num G.nb V'.e, cU, by have := HKn.out; omega, by have := HKn.out; omega, by go_num, HQ.out, HPn5.out, HRf.out.mono (by omega), HTf.out, HLo.out.1⟩
                case measure => have := HKn.out; simp [RowKit.intOf]; omega
end Q
end Go.Proofs.YtmcalgnpinolmaaGreat
