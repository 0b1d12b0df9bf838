/-
  PROVED: whatever is done to a row, all that it tells is as the document says, act by act; rows stay. CONDITIONS: none (any length; any acts, of which up to 150 are done; any place).
-/
import Derived.Test.YtcdihcloihnpkaaBLaw
import Derived.Test.YtcdihcloihnpkaaBMid
namespace Go.Proofs.Ytcdihcloihnpkaa.bitsDoes
open Go.ChangeShapes Go.WideShapes Go.ChangeAt Go.RowKit Go.Joins B
open Go.ChangeMaps (open_string shut_string)
set_option linter.unusedVariables false
set_option linter.unusedSimpArgs false
set_option maxRecDepth 20000

theorem below_self (B : Nat) (w : World) : Below B w w := Below.refl _ _
theorem kpx {f : Nat} {args : Array Value} {e0 : Ending} (w0 : World) (H : ∀ w, Hid (Calls Try.prog f args w fun e w' => e = e0 ∧ Below w.heap.size w w')) :
    Hid (∀ w, Below w0.heap.size w0 w → Calls Try.prog f args w fun e w' => e = e0 ∧ Below w0.heap.size w0 w' ∧ Below w.heap.size w w') := Lib.hid fun w hw => (H w).out.mono (by
  rintro e w' ⟨rfl, hb⟩
  exact ⟨rfl, below_up hw hb hw.size, hb⟩)
theorem bal {w0 w : World} (h : Below w0.heap.size w0 w) (o : Obj) : Below w0.heap.size w0 (w.alloc o) := h.alloc h.size o
theorem bst {w0 w : World} (h : Below w0.heap.size w0 w) {b o : Nat} (hb : w0.heap.size ≤ b) (v : Value) : Below w0.heap.size w0 (w.setCell ⟨b, o, none⟩ v) := h.setCell hb v
theorem put_ok {c m : Nat} (hc : c ≤ 64) (hm : m < 2 ^ c) (i : Int) : putN c i ≤ 64 ∧ putM c m i < 2 ^ putN c i ∧ (putE c i = 0 → putN c i = c) := by
  unfold putN putM putE
  by_cases h : 0 ≤ i ∧ i < (c : Int)
  · simp only [if_pos h]
    exact ⟨hc, M.put_lt hm (by omega), fun _ => trivial⟩
  · simp only [if_neg h]
    exact ⟨by omega, by simp, fun h => by omega⟩
theorem del_ok {c m : Nat} (hc : c ≤ 64) (hm : m < 2 ^ c) (i : Int) : putN c i ≤ 64 ∧ delM c m i < 2 ^ putN c i ∧ (putE c i = 0 → putN c i = c) := by
  unfold putN delM putE
  by_cases h : 0 ≤ i ∧ i < (c : Int)
  · simp only [if_pos h]
    exact ⟨hc, M.del_lt hm, fun _ => trivial⟩
  · simp only [if_neg h]
    exact ⟨by omega, by simp, fun h => by omega⟩
theorem or_ok {c m k j : Nat} (hc : c ≤ 64) (hm : m < 2 ^ c) (hj : j < 2 ^ k) : orN c k ≤ 64 ∧ B.orM c m k j < 2 ^ orN c k ∧ (orE c k = 0 → orN c k = c) := by
  unfold orN B.orM orE
  by_cases h : c = k
  · subst h
    simp only [if_true]
    exact ⟨hc, M.or_lt hm hj, fun _ => trivial⟩
  · simp only [if_neg h]
    exact ⟨by omega, by simp, fun h => by omega⟩
theorem at_store26 {w : World} {b n m : Nat} (h : At w b n m) (n' m' : Nat) : At ((w.setCell ⟨b, 0, none⟩ (.int .i64 (n' : Int))).setCell ⟨b, 1, none⟩ (.int .u64 (m' : Int))) b n' m' := (h.setN rfl).setM rfl

set_option maxHeartbeats 16000000 in
theorem walk (x0 : Int) (a1 : Option Addr) (n1 c1 : Nat) (l1 : List A) (x2 : Int) (w : World) (w0 : (Lit.int .i64 x0).wf = true) (w1 : Acts w a1 n1 c1 l1) (w2 : (Lit.int .i64 x2).wf = true) :
    Calls Try.prog 3 #[.int .i64 x0, .slice a1 n1 c1, .int .i64 x2] w fun e w' => e = .returned (.bool true) ∧ Below w.heap.size w w' := by
  obtain ⟨hi1, hi2⟩ := wf_i64 w2
  have hc := M.len_le x0
  have hn1 : n1 ≤ maxLen := by have := w1.2.1; have := w1.2.2.1; omega
  unfold maxLen at hn1
  have HN := fun w => Lib.hid (new_any x0 w)
  have HRN := fun w => Lib.hid (rnew_any x0 w)
  unfold V at HN
  generalize M.len x0 = c at *
  have HW := Lib.hid w1
  clear w0 w1 w2
  go_enter Try.func3, Try.ntmps3
  go_wp2_with (first
    | (go_at_call 10; ((with_reducible refine (awake_any _).mono ?_); rintro e w1 ⟨rfl, hb⟩); have B1 := Lib.hid hb; clear hb)
    | (go_at_call 11; ((with_reducible refine (HN _).out.mono ?_); rintro e w2 ⟨rfl, hb⟩); have B2 := Lib.hid (below_up B1.out hb B1.out.size); have A2 := Lib.hid (at_new w2 c 0); have C2 := Lib.hid (B2.out.alloc B2.out.size (.cells #[.int .i64 (c : Int), .int .u64 ((0 : Nat) : Int)] 26)); clear hb)
    | (go_at_call 12; ((with_reducible refine (HRN _).out.mono ?_); rintro e w3 ⟨rfl, hb⟩); have A3 := Lib.hid (A2.out.below hb A2.out.lt); have B3 := Lib.hid (below_up C2.out hb C2.out.size); clear hb)
    | (refine wpList_alloc30 rfl rfl ?_; intro w4 hw4; have R4 := Lib.hid (hw4 ▸ rat_new w3 0 0 : RAt w4 w3.heap.size 0 0); have A4 := Lib.hid (hw4 ▸ A3.out.alloc _ : At w4 w2.heap.size c 0); have B4 := Lib.hid (hw4 ▸ B3.out.alloc B3.out.size _ : Below w.heap.size w w4); have hlt := A3.out.lt; have hsz := B3.out.size; have hsw := B2.out.size; clear hw4)
    | (refine wpList_store30 rfl _ _ rfl w3.heap.size rfl rfl R4.out.there ?_; intro w5 hw5; have R5 := Lib.hid (hw5 ▸ R4.out.store c 0 : RAt w5 w3.heap.size c 0); have A5 := Lib.hid (hw5 ▸ A4.out.of_block (heap_setCells _ _ _ _ _ (by omega)) : At w5 w2.heap.size c 0); have B5 := Lib.hid (hw5 ▸ below_setCells hsz _ _ B4.out : Below w.heap.size w w5); clear hw5))
  clear A2 C2 A3 B3 R4 A4 B4 B1 B2 HN HRN
  generalize w2.heap.size = R at *
  generalize w3.heap.size = Qb at *
  go_loopw [9] (fun t wr => ∃ k m : Nat, k ≤ n1 ∧ k ≤ 150 ∧ t = .int .i64 k ∧ m < 2 ^ c ∧ At wr R c m ∧ RAt wr Qb c m ∧ Below w.heap.size w wr) (fun t _ => n1 - (intOf t).toNat)
  case atStart => exact ⟨0, 0, by omega, by omega, rfl, Nat.pow_pos (by omega), A5.out, R5.out, B5.out⟩
  case round =>
    obtain ⟨k, m, hk1, hk2, rfl, hm, gr, gq, gb⟩ := hrel
    have Gr := Lib.hid gr
    have Gq := Lib.hid gq
    have Gb := Lib.hid gb
    have Hm := Lib.hid hm
    have hsz2 := gb.size
    have hqz := gq.lt
    have hrz := gr.lt
    clear gq gb A5 R5 B5 hm
    by_cases hkn : k < n1
    · have hknI : (k : Int) < (n1 : Int) := by omega
      by_cases hk150 : k < 150
      · have hkI : (k : Int) < 150 := by omega
        have hk0 : (0 : Int) ≤ (k : Int) := by omega
        obtain ⟨b1, off1, x, rfl, hx, hok, f0, f1, f2, hblt⟩ := acts_at HW.out Gb.out hkn
        obtain ⟨⟨k1, k2⟩, ⟨j1, j2⟩, ⟨p1, p2⟩⟩ := hok
        have r0 := gr.c0
        have r1 := gr.c1
        clear gr hx
        go_upto_block 2 with (first
          | (refine wpList_load30 rfl (.tmp 8) rfl Qb rfl ((Gq.out.alloc _).alloc _) ?_)
          | (refine wpList_alloc30 rfl rfl ?_; intro w9 hw9; have M9 := Lib.hid (mid_start Gr.out Gq.out Gb.out x hw9); clear hw9)
          | (refine wpList_store30 rfl (.tmp 13) _ rfl _ rfl rfl (by rw [size1, size1]; exact M9.out.t.there) ?_; intro w10 hw10; rw [size1, size1] at hw10; have M10 : Hid (Mid w w10 wr.heap.size R Qb c m x c m c m) := Lib.hid (by rw [hw10]; exact M9.out.setT c m); clear hw10; have e0 := M10.out.x0; have e1 := M10.out.x1; have e2 := M10.out.x2; have hz10 := M10.out.zl))
        go_cut [12, 14] (fun e f wx => ∃ (E : Int) (n' m' : Nat), e = .int .i64 E ∧ f = .int .i64 E ∧ n' ≤ 64 ∧ m' < 2 ^ n' ∧ (E = 0 → n' = c) ∧ Mid w wx wr.heap.size R Qb c m x n' m' n' m')
        case first =>
          cases h0 : (x.kind == 0) with
          | true =>
            obtain ⟨o1, o2, o3⟩ := put_ok hc Hm.out x.i
            have hp := fun w => put_any c m x.i w hc Hm.out
            have hs := fun w => rset_any c m x.i true w hc Hm.out
            unfold setM at hs
            simp only [if_true, if_false, Bool.false_eq_true] at hs
            unfold V at hp
            generalize putN c x.i = N at *
            generalize putM c m x.i = M at *
            generalize putE c x.i = E at *
            have HP := fun w => Lib.hid (hp w)
            have HS := fun w => Lib.hid (hs w)
            have O2 := Lib.hid o2
            have O3 := Lib.hid o3
            have g0 := M10.out.r.c0
            have g1 := M10.out.r.c1
            clear hp hs o2 o3
            go_wp2_with (first
              | (go_at_call 13; ((with_reducible refine (HP _).out.mono ?_); rintro e w11 ⟨rfl, hb⟩); have M11 := Lib.hid (M10.out.below hb); have M12 := Lib.hid (M11.out.setS N M); have t0 := M11.out.s.c0; have t1 := M11.out.s.c1; have t2 := M11.out.s.fz 0; have t3 := M11.out.s.fz 1; have t4 := M11.out.x1; clear hb)
              | (refine wpList_load30 rfl (.tmp 8) rfl Qb rfl M12.out.q ?_)
              | (go_at_call 14; ((with_reducible refine (HS _).out.mono ?_); rintro e w13 ⟨rfl, hb⟩); have M13 := Lib.hid (M12.out.below hb); clear hb)
              | (refine wpList_store30 rfl (.tmp 13) _ rfl _ rfl rfl (by first | exact M13.out.t.there | (rw [size1, size1]; exact M13.out.t.there)) ?_; intro w14 hw14; (try rw [size1, size1] at hw14); have M14 : Hid (Mid w w14 wr.heap.size R Qb c m x N M N M) := Lib.hid (by rw [hw14]; exact M13.out.setT N M); clear hw14))
            go_meet
            exact ⟨E, N, M, rfl, rfl, o1, O2.out, O3.out, M14.out⟩
          | false =>
            cases h1 : (x.kind == 1) with
            | true =>
              obtain ⟨o1, o2, o3⟩ := del_ok hc Hm.out x.i
              have hp := fun w => del_any c m x.i w hc Hm.out
              have hs := fun w => rset_any c m x.i false w hc Hm.out
              unfold setM at hs
              simp only [if_true, if_false, Bool.false_eq_true] at hs
              unfold V at hp
              generalize putN c x.i = N at *
              generalize delM c m x.i = M at *
              generalize putE c x.i = E at *
              have HP := fun w => Lib.hid (hp w)
              have HS := fun w => Lib.hid (hs w)
              have O2 := Lib.hid o2
              have O3 := Lib.hid o3
              have g0 := M10.out.r.c0
              have g1 := M10.out.r.c1
              clear hp hs o2 o3
              go_wp2_with (first
                | (go_at_call 15; ((with_reducible refine (HP _).out.mono ?_); rintro e w11 ⟨rfl, hb⟩); have M11 := Lib.hid (M10.out.below hb); have M12 := Lib.hid (M11.out.setS N M); have t0 := M11.out.s.c0; have t1 := M11.out.s.c1; have t2 := M11.out.s.fz 0; have t3 := M11.out.s.fz 1; have t4 := M11.out.x1; clear hb)
                | (refine wpList_load30 rfl (.tmp 8) rfl Qb rfl M12.out.q ?_)
                | (go_at_call 14; ((with_reducible refine (HS _).out.mono ?_); rintro e w13 ⟨rfl, hb⟩); have M13 := Lib.hid (M12.out.below hb); clear hb)
                | (refine wpList_store30 rfl (.tmp 13) _ rfl _ rfl rfl (by first | exact M13.out.t.there | (rw [size1, size1]; exact M13.out.t.there)) ?_; intro w14 hw14; (try rw [size1, size1] at hw14); have M14 : Hid (Mid w w14 wr.heap.size R Qb c m x N M N M) := Lib.hid (by rw [hw14]; exact M13.out.setT N M); clear hw14))
              go_meet
              exact ⟨E, N, M, rfl, rfl, o1, O2.out, O3.out, M14.out⟩
            | false =>
              cases h2 : (x.kind == 2) with
              | true =>
                have hc2 := M.len_le x.n
                have hun := fun w => new_any x.n w
                have hvn := fun w => rnew_any x.n w
                have h00 : 0 < 2 ^ M.len x.n := Nat.pow_pos (by omega)
                have hup := fun w => put_any (M.len x.n) 0 x.i w hc2 h00
                have hvp := fun w => rset_any (M.len x.n) 0 x.i true w hc2 h00
                have huo := put_ok hc2 h00 x.i
                have hor := fun w => or_any c m (putN (M.len x.n) x.i) (putM (M.len x.n) 0 x.i) w hc Hm.out huo.2.1
                have hro := fun w => ror_any c m (putN (M.len x.n) x.i) (putM (M.len x.n) 0 x.i) w hc huo.2.1
                obtain ⟨o1, o2, o3⟩ := or_ok hc Hm.out huo.2.1
                unfold setM at hvp
                simp only [if_true] at hvp
                unfold V at hun hup hor
                generalize orN c (putN (M.len x.n) x.i) = N at *
                generalize B.orM c m (putN (M.len x.n) x.i) (putM (M.len x.n) 0 x.i) = M' at *
                generalize orE c (putN (M.len x.n) x.i) = E at *
                generalize putN (M.len x.n) x.i = NU at *
                generalize putM (M.len x.n) 0 x.i = MU at *
                generalize putE (M.len x.n) x.i = EU at *
                generalize M.len x.n = d at *
                have HUN : ∀ w, Hid (Calls Try.prog 11 #[.int .i64 x.n] w fun e w' => e = .returned (.agg #[.int .i64 (d : Int), .int .u64 0]) ∧ Below w.heap.size w w') := fun w => Lib.hid (hun w)
                have HVN := fun w => Lib.hid (hvn w)
                have HUP : ∀ w, Hid (Calls Try.prog 13 #[.agg #[.int .i64 (d : Int), .int .u64 0], .int .i64 x.i] w fun e w' => e = .returned (.tuple #[.agg #[.int .i64 (NU : Int), .int .u64 (MU : Int)], .int .i64 EU]) ∧ Below w.heap.size w w') := fun w => Lib.hid (hup w)
                have HVP := fun w => Lib.hid (hvp w)
                have HOR := fun w => Lib.hid (hor w)
                have HRO := fun w => Lib.hid (hro w)
                have O2 := Lib.hid o2
                have O3 := Lib.hid o3
                clear hun hvn hup hvp hor hro o2 o3 h00 huo
                go_upto_region 19 with (fail)
                go_cut [15] (fun p wx => ∃ g : Nat, p = .pointer (some ⟨g, 0, none⟩) ∧ At wx g NU MU ∧ Mid w wx wr.heap.size R Qb c m x c m c m)
                case first =>
                  have KN := kpx w10 HUN
                  have KP := kpx w10 HUP
                  have hb0 := below_self w10.heap.size w10
                  have HK : Hid (∀ w', Below w10.heap.size w10 w' → (w'.cell? ⟨wr.heap.size, 1, none⟩ = some (.int .i64 x.i) ∧ w'.cell? ⟨wr.heap.size, 2, none⟩ = some (.int .i64 x.n))) := Lib.hid fun w' hb => ⟨(M10.out.below hb).x1, (M10.out.below hb).x2⟩
                  go_region_held3 (fun w' => w'.cell? ⟨wr.heap.size, 1, none⟩ = some (.int .i64 x.i) ∧ w'.cell? ⟨wr.heap.size, 2, none⟩ = some (.int .i64 x.n))
                    (first | exact HK.out _ (by assumption) | exact HK.out _ (Below.drew (by assumption)) | exact HK.out _ (bal (by assumption) _) | exact HK.out _ (Below.drew (bal (below_self _ _) _)) | exact HK.out _ (bst (bst (by assumption) (by first | exact Nat.le_refl _ | assumption) _) (by first | exact Nat.le_refl _ | assumption) _))
                    (first
                      | (go_at_call 11; with_reducible refine (KN.out _ (by first | assumption | exact Below.drew (by assumption) | exact Below.drew (bal (below_self _ _) _))).mono ?_; rintro e wn ⟨rfl, hln, hx⟩; have hsn := hln.size; try (have zg := (At.drew (at_new w10 0 0)).below hx (by simp); have zg0 := zg.c0; have zg1 := zg.c1; have zf0 := zg.fz 0; have zf1 := zg.fz 1))
                      | (go_at_call 13; with_reducible refine (KP.out _ (by first | assumption | exact bal (by assumption) _)).mono ?_; rintro e wl ⟨rfl, hl, hx⟩; first | (replace zg := zg.below hx zg.lt; have yg0 := zg.c0; have yg1 := zg.c1; have yf0 := zg.fz 0; have yf1 := zg.fz 1) | (have zg := (at_new wn 0 0).below hx (by simp); have yg0 := zg.c0; have yg1 := zg.c1; have yf0 := zg.fz 0; have yf1 := zg.fz 1) | skip))
                  all_goals
                    go_wp2_with fail
                    go_meet
                  · exact ⟨wl.heap.size, rfl, at_new wl NU MU, M10.out.below (bal hl _)⟩
                  · exact ⟨wn.heap.size, rfl, (zg.setN rfl).setM rfl, M10.out.below (bst (bst hl hsn _) hsn _)⟩
                  · exact ⟨w10.heap.size, rfl, (zg.setN rfl).setM rfl, M10.out.below (bst (bst hl (Nat.le_refl _) _) (Nat.le_refl _) _)⟩
                case rest =>
                  obtain ⟨gU, rfl, hu, hmid⟩ := hcut
                  have U1 := Lib.hid hu
                  have M1 := Lib.hid hmid
                  clear hu hmid
                  go_upto_region 20 with (fail)
                  go_cut [17] (fun p wx => ∃ g : Nat, p = .pointer (some ⟨g, 0, none⟩) ∧ RAt wx g NU MU ∧ At wx gU NU MU ∧ Mid w wx wr.heap.size R Qb c m x c m c m ∧ wr.heap.size + 2 < g)
                  case first =>
                    have KN := kpx wc HVN
                    have KP := kpx wc HVP
                    have HK : Hid (∀ w', Below wc.heap.size wc w' → (w'.cell? ⟨wr.heap.size, 1, none⟩ = some (.int .i64 x.i) ∧ w'.cell? ⟨wr.heap.size, 2, none⟩ = some (.int .i64 x.n))) := Lib.hid fun w' hb => ⟨(M1.out.below hb).x1, (M1.out.below hb).x2⟩
                    have hb0 := Below.drew (below_self wc.heap.size wc)
                    refine wp_region_noPanic ?_
                    refine wp_region_held_drew (S := fun w' => w'.cell? ⟨wr.heap.size, 1, none⟩ = some (.int .i64 x.i) ∧ w'.cell? ⟨wr.heap.size, 2, none⟩ = some (.int .i64 x.n)) (by kernel_rfl) (HK.out _ hb0) (fun hHeld => ?_)
                    refine wpAnyH_take (i := 0) (v := ?_) rfl (by kernel_rfl) (by kernel_rfl) (by kernel_rfl) (fun _ _ _ h => h) (Or.inl ⟨by rfl, ?_⟩) hHeld ?_
                    rotate_left 1
                    · (intro w hSw; (try dsimp only at hSw); go_simp; try with_reducible rfl)
                    change wpAnyH _ _ _ _ _ _ _ (Act.put _ (some 87) _) _
                    try simp only [Act.put, List.setIfInBounds_toArray, List.set_cons_zero, List.set_cons_succ]
                    refine wpAnyH_take (i := 1) (v := ?_) rfl (by kernel_rfl) (by kernel_rfl) (by kernel_rfl) (fun _ _ _ h => h) (Or.inl ⟨by rfl, ?_⟩) hHeld ?_
                    rotate_left 1
                    · (intro w hSw; (try dsimp only at hSw); go_simp; try with_reducible rfl)
                    change wpAnyH _ _ _ _ _ _ _ (Act.put _ (some 88) _) _
                    try simp only [Act.put, List.setIfInBounds_toArray, List.set_cons_zero, List.set_cons_succ]
                    refine wpAnyH_take (i := 3) (v := ?_) rfl (by kernel_rfl) (by kernel_rfl) (by kernel_rfl) (fun _ _ _ h => h) (Or.inl ⟨by rfl, ?_⟩) hHeld ?_
                    rotate_left 1
                    · (intro w hSw; (try dsimp only at hSw); go_simp; try with_reducible rfl)
                    change wpAnyH _ _ _ _ _ _ _ (Act.put _ (some 90) _) _
                    try simp only [Act.put, List.setIfInBounds_toArray, List.set_cons_zero, List.set_cons_succ]
                    refine wpAnyH_take (i := 4) (v := ?_) rfl (by kernel_rfl) (by kernel_rfl) (by kernel_rfl) (fun _ _ _ h => h) (Or.inl ⟨by rfl, ?_⟩) hHeld ?_
                    rotate_left 1
                    · (intro w hSw; (try dsimp only at hSw); go_simp; try with_reducible rfl)
                    change wpAnyH _ _ _ _ _ _ _ (Act.put _ (some 91) _) _
                    try simp only [Act.put, List.setIfInBounds_toArray, List.set_cons_zero, List.set_cons_succ]
                    refine wpAnyH_ready (rs := [2, 9]) (by kernel_rfl) (by simp) ?_
                    refine AllReadyH.cons rfl (fun K hK => ?_) (AllReadyH.cons rfl (fun K hK => ?_) AllReadyH.nil)
                    · go_simp
                      with_reducible refine (KN.out _ (hb0)).mono ?_
                      rintro e wn ⟨rfl, hln, hx⟩
                      refine hK.out _ _ (HK.out _ (hln)) (fun hHeld => ?_)
                      clear hK K
                      try simp only [Act.put, List.setIfInBounds_toArray, List.set_cons_zero, List.set_cons_succ]
                      refine wpAnyH_ready (rs := [5, 9]) (by kernel_rfl) (by simp) ?_
                      refine AllReadyH.cons rfl (fun K hK => ?_) (AllReadyH.cons rfl (fun K hK => ?_) AllReadyH.nil)
                      · go_simp
                        with_reducible refine (KP.out _ (hln)).mono ?_
                        rintro e wl ⟨rfl, hl, hx⟩
                        refine hK.out _ _ (HK.out _ (hl)) (fun hHeld => ?_)
                        clear hK K
                        try simp only [Act.put, List.setIfInBounds_toArray, List.set_cons_zero, List.set_cons_succ]
                        refine wpAnyH_take (i := 6) (v := ?_) rfl (by kernel_rfl) (by kernel_rfl) (by kernel_rfl) (fun _ _ _ h => h) (Or.inl ⟨by rfl, ?_⟩) hHeld ?_
                        rotate_left 1
                        · (intro w hSw; (try dsimp only at hSw); go_simp; try with_reducible rfl)
                        change wpAnyH _ _ _ _ _ _ _ (Act.put _ (some 86) _) _
                        try simp only [Act.put, List.setIfInBounds_toArray, List.set_cons_zero, List.set_cons_succ]
                        refine wpAnyH_take (i := 7) (v := ?_) rfl (by kernel_rfl) (by kernel_rfl) (by kernel_rfl) (fun _ _ _ h => h) (Or.inl ⟨by rfl, ?_⟩) hHeld ?_
                        rotate_left 1
                        · (intro w hSw; (try dsimp only at hSw); go_simp; try with_reducible rfl)
                        change wpAnyH _ _ _ _ _ _ _ (Act.put _ (some 93) _) _
                        try simp only [Act.put, List.setIfInBounds_toArray, List.set_cons_zero, List.set_cons_succ]
                        refine wpAnyH_take (i := 8) (v := ?_) rfl (by kernel_rfl) (by kernel_rfl) (by kernel_rfl) (fun _ _ _ h => h) (Or.inl ⟨by rfl, ?_⟩) hHeld ?_
                        rotate_left 1
                        · (intro w hSw; (try dsimp only at hSw); go_simp; try with_reducible rfl)
                        change wpAnyH _ _ _ _ _ _ _ (Act.put _ (some 94) _) _
                        try simp only [Act.put, List.setIfInBounds_toArray, List.set_cons_zero, List.set_cons_succ]
                        refine wpAnyH_ready (rs := [9]) (by kernel_rfl) (by simp) ?_
                        refine AllReadyH.cons rfl (fun K hK => ?_) AllReadyH.nil
                        rw [if_pos (by rfl)]
                        refine wp_alloc30b (w0 := wc) rfl (hl) ?_
                        intro g wg hg rg hgle hlg
                        clear hg
                        refine hK.out _ _ (HK.out _ (hlg)) (fun hHeld => ?_)
                        clear hK K
                        change wpAnyH _ _ _ _ _ _ _ (Act.put _ (some 17) _) _
                        try simp only [Act.put, List.setIfInBounds_toArray, List.set_cons_zero, List.set_cons_succ]
                        refine wpAnyH_ready (rs := [10]) (by kernel_rfl) (by simp) ?_
                        refine AllReadyH.cons rfl (fun K hK => ?_) AllReadyH.nil
                        rw [if_pos (by rfl)]
                        refine wp_store30b (n := NU) (m := MU) (w0 := wc) _ _ rfl g rfl rfl rg (hlg) hgle ?_
                        intro wz rz hlz
                        refine hK.out _ _ (HK.out _ (hlz)) (fun hHeld => ?_)
                        clear hK K
                        try simp only [Act.put, List.setIfInBounds_toArray, List.set_cons_zero, List.set_cons_succ]
                        refine wpAnyH_take (i := 11) (v := ?_) rfl (by kernel_rfl) (by kernel_rfl) (by kernel_rfl) (fun _ _ _ h => h) (Or.inl ⟨by rfl, ?_⟩) hHeld ?_
                        rotate_left 1
                        · (intro w hSw; (try dsimp only at hSw); go_simp; try with_reducible rfl)
                        change wpAnyH _ _ _ _ _ _ _ (Act.put _ (some 18) _) _
                        try simp only [Act.put, List.setIfInBounds_toArray, List.set_cons_zero, List.set_cons_succ]
                        refine wpAnyH_done (by kernel_rfl) ?_ _
                        refine NoPanic.normal ?_
                        clear hHeld
                        go_wp2_with fail
                        go_meet
                        have hzl := M1.out.zl
                        exact ⟨g, rfl, rz, U1.out.below hlz U1.out.lt, M1.out.below hlz, by omega⟩
                      · rw [if_pos (by rfl)]
                        refine wp_alloc30b (w0 := wc) rfl (hln) ?_
                        intro g wg hg rg hgle hlg
                        clear hg
                        refine hK.out _ _ (HK.out _ (hlg)) (fun hHeld => ?_)
                        clear hK K
                        change wpAnyH _ _ _ _ _ _ _ (Act.put _ (some 17) _) _
                        try simp only [Act.put, List.setIfInBounds_toArray, List.set_cons_zero, List.set_cons_succ]
                        refine wpAnyH_ready (rs := [5]) (by kernel_rfl) (by simp) ?_
                        refine AllReadyH.cons rfl (fun K hK => ?_) AllReadyH.nil
                        go_simp
                        with_reducible refine (KP.out _ (hlg)).mono ?_
                        rintro e wl ⟨rfl, hl, hx⟩
                        replace rg := rg.below hx rg.lt
                        refine hK.out _ _ (HK.out _ (hl)) (fun hHeld => ?_)
                        clear hK K
                        try simp only [Act.put, List.setIfInBounds_toArray, List.set_cons_zero, List.set_cons_succ]
                        refine wpAnyH_take (i := 6) (v := ?_) rfl (by kernel_rfl) (by kernel_rfl) (by kernel_rfl) (fun _ _ _ h => h) (Or.inl ⟨by rfl, ?_⟩) hHeld ?_
                        rotate_left 1
                        · (intro w hSw; (try dsimp only at hSw); go_simp; try with_reducible rfl)
                        change wpAnyH _ _ _ _ _ _ _ (Act.put _ (some 86) _) _
                        try simp only [Act.put, List.setIfInBounds_toArray, List.set_cons_zero, List.set_cons_succ]
                        refine wpAnyH_take (i := 7) (v := ?_) rfl (by kernel_rfl) (by kernel_rfl) (by kernel_rfl) (fun _ _ _ h => h) (Or.inl ⟨by rfl, ?_⟩) hHeld ?_
                        rotate_left 1
                        · (intro w hSw; (try dsimp only at hSw); go_simp; try with_reducible rfl)
                        change wpAnyH _ _ _ _ _ _ _ (Act.put _ (some 93) _) _
                        try simp only [Act.put, List.setIfInBounds_toArray, List.set_cons_zero, List.set_cons_succ]
                        refine wpAnyH_take (i := 8) (v := ?_) rfl (by kernel_rfl) (by kernel_rfl) (by kernel_rfl) (fun _ _ _ h => h) (Or.inl ⟨by rfl, ?_⟩) hHeld ?_
                        rotate_left 1
                        · (intro w hSw; (try dsimp only at hSw); go_simp; try with_reducible rfl)
                        change wpAnyH _ _ _ _ _ _ _ (Act.put _ (some 94) _) _
                        try simp only [Act.put, List.setIfInBounds_toArray, List.set_cons_zero, List.set_cons_succ]
                        refine wpAnyH_ready (rs := [10]) (by kernel_rfl) (by simp) ?_
                        refine AllReadyH.cons rfl (fun K hK => ?_) AllReadyH.nil
                        rw [if_pos (by rfl)]
                        refine wp_store30b (n := NU) (m := MU) (w0 := wc) _ _ rfl g rfl rfl rg (hl) hgle ?_
                        intro wz rz hlz
                        refine hK.out _ _ (HK.out _ (hlz)) (fun hHeld => ?_)
                        clear hK K
                        try simp only [Act.put, List.setIfInBounds_toArray, List.set_cons_zero, List.set_cons_succ]
                        refine wpAnyH_take (i := 11) (v := ?_) rfl (by kernel_rfl) (by kernel_rfl) (by kernel_rfl) (fun _ _ _ h => h) (Or.inl ⟨by rfl, ?_⟩) hHeld ?_
                        rotate_left 1
                        · (intro w hSw; (try dsimp only at hSw); go_simp; try with_reducible rfl)
                        change wpAnyH _ _ _ _ _ _ _ (Act.put _ (some 18) _) _
                        try simp only [Act.put, List.setIfInBounds_toArray, List.set_cons_zero, List.set_cons_succ]
                        refine wpAnyH_done (by kernel_rfl) ?_ _
                        refine NoPanic.normal ?_
                        clear hHeld
                        go_wp2_with fail
                        go_meet
                        have hzl := M1.out.zl
                        exact ⟨g, rfl, rz, U1.out.below hlz U1.out.lt, M1.out.below hlz, by omega⟩
                    · rw [if_pos (by rfl)]
                      refine wp_alloc30b (w0 := wc) rfl (hb0) ?_
                      intro g wg hg rg hgle hlg
                      clear hg
                      refine hK.out _ _ (HK.out _ (hlg)) (fun hHeld => ?_)
                      clear hK K
                      change wpAnyH _ _ _ _ _ _ _ (Act.put _ (some 17) _) _
                      try simp only [Act.put, List.setIfInBounds_toArray, List.set_cons_zero, List.set_cons_succ]
                      refine wpAnyH_ready (rs := [2]) (by kernel_rfl) (by simp) ?_
                      refine AllReadyH.cons rfl (fun K hK => ?_) AllReadyH.nil
                      go_simp
                      with_reducible refine (KN.out _ (hlg)).mono ?_
                      rintro e wn ⟨rfl, hln, hx⟩
                      replace rg := rg.below hx rg.lt
                      clear hx
                      refine hK.out _ _ (HK.out _ (hln)) (fun hHeld => ?_)
                      clear hK K
                      try simp only [Act.put, List.setIfInBounds_toArray, List.set_cons_zero, List.set_cons_succ]
                      refine wpAnyH_ready (rs := [5]) (by kernel_rfl) (by simp) ?_
                      refine AllReadyH.cons rfl (fun K hK => ?_) AllReadyH.nil
                      go_simp
                      with_reducible refine (KP.out _ (hln)).mono ?_
                      rintro e wl ⟨rfl, hl, hx⟩
                      replace rg := rg.below hx rg.lt
                      refine hK.out _ _ (HK.out _ (hl)) (fun hHeld => ?_)
                      clear hK K
                      try simp only [Act.put, List.setIfInBounds_toArray, List.set_cons_zero, List.set_cons_succ]
                      refine wpAnyH_take (i := 6) (v := ?_) rfl (by kernel_rfl) (by kernel_rfl) (by kernel_rfl) (fun _ _ _ h => h) (Or.inl ⟨by rfl, ?_⟩) hHeld ?_
                      rotate_left 1
                      · (intro w hSw; (try dsimp only at hSw); go_simp; try with_reducible rfl)
                      change wpAnyH _ _ _ _ _ _ _ (Act.put _ (some 86) _) _
                      try simp only [Act.put, List.setIfInBounds_toArray, List.set_cons_zero, List.set_cons_succ]
                      refine wpAnyH_take (i := 7) (v := ?_) rfl (by kernel_rfl) (by kernel_rfl) (by kernel_rfl) (fun _ _ _ h => h) (Or.inl ⟨by rfl, ?_⟩) hHeld ?_
                      rotate_left 1
                      · (intro w hSw; (try dsimp only at hSw); go_simp; try with_reducible rfl)
                      change wpAnyH _ _ _ _ _ _ _ (Act.put _ (some 93) _) _
                      try simp only [Act.put, List.setIfInBounds_toArray, List.set_cons_zero, List.set_cons_succ]
                      refine wpAnyH_take (i := 8) (v := ?_) rfl (by kernel_rfl) (by kernel_rfl) (by kernel_rfl) (fun _ _ _ h => h) (Or.inl ⟨by rfl, ?_⟩) hHeld ?_
                      rotate_left 1
                      · (intro w hSw; (try dsimp only at hSw); go_simp; try with_reducible rfl)
                      change wpAnyH _ _ _ _ _ _ _ (Act.put _ (some 94) _) _
                      try simp only [Act.put, List.setIfInBounds_toArray, List.set_cons_zero, List.set_cons_succ]
                      refine wpAnyH_ready (rs := [10]) (by kernel_rfl) (by simp) ?_
                      refine AllReadyH.cons rfl (fun K hK => ?_) AllReadyH.nil
                      rw [if_pos (by rfl)]
                      refine wp_store30b (n := NU) (m := MU) (w0 := wc) _ _ rfl g rfl rfl rg (hl) hgle ?_
                      intro wz rz hlz
                      refine hK.out _ _ (HK.out _ (hlz)) (fun hHeld => ?_)
                      clear hK K
                      try simp only [Act.put, List.setIfInBounds_toArray, List.set_cons_zero, List.set_cons_succ]
                      refine wpAnyH_take (i := 11) (v := ?_) rfl (by kernel_rfl) (by kernel_rfl) (by kernel_rfl) (fun _ _ _ h => h) (Or.inl ⟨by rfl, ?_⟩) hHeld ?_
                      rotate_left 1
                      · (intro w hSw; (try dsimp only at hSw); go_simp; try with_reducible rfl)
                      change wpAnyH _ _ _ _ _ _ _ (Act.put _ (some 18) _) _
                      try simp only [Act.put, List.setIfInBounds_toArray, List.set_cons_zero, List.set_cons_succ]
                      refine wpAnyH_done (by kernel_rfl) ?_ _
                      refine NoPanic.normal ?_
                      clear hHeld
                      go_wp2_with fail
                      go_meet
                      have hzl := M1.out.zl
                      exact ⟨g, rfl, rz, U1.out.below hlz U1.out.lt, M1.out.below hlz, by omega⟩
                  case rest =>
                    obtain ⟨gV, rfl, hv, hu, hmid, hv1⟩ := hcut
                    have HV1 := Lib.hid hv1
                    have V2 := Lib.hid hv
                    have U2 := Lib.hid hu
                    have M2 := Lib.hid hmid
                    have g0 := hmid.r.c0
                    have g1 := hmid.r.c1
                    have g2 := hu.c0
                    have g3 := hu.c1
                    clear hv hu hmid hv1
                    go_wp2_with (first
                      | (go_at_call 16; ((with_reducible refine (HOR _).out.mono ?_); rintro e w31 ⟨rfl, hb⟩); have M31 := Lib.hid (M2.out.below hb); have V31 := Lib.hid (V2.out.below hb V2.out.lt); have M32 := Lib.hid (M31.out.setS N M'); have V32 := Lib.hid ((V31.out.far (p := ⟨wr.heap.size + 1, 0, none⟩) (by have := HV1.out; simp; omega) (.int .i64 (N : Int))).far (p := ⟨wr.heap.size + 1, 1, none⟩) (by have := HV1.out; simp; omega) (.int .u64 (M' : Int))); have t0 := M31.out.s.c0; have t1 := M31.out.s.c1; have t2 := M31.out.s.fz 0; have t3 := M31.out.s.fz 1; clear hb)
                      | (refine wpList_load30 rfl (.tmp 8) rfl Qb rfl M32.out.q ?_)
                      | (refine wpList_load30 rfl (.tmp 17) rfl gV rfl V32.out ?_)
                      | (go_at_call 17; ((with_reducible refine (HRO _).out.mono ?_); rintro e w33 ⟨rfl, hb⟩); have M33 := Lib.hid (M32.out.below hb); clear hb)
                      | (refine wpList_store30 rfl (.tmp 13) _ rfl _ rfl rfl (by first | exact M33.out.t.there | (rw [size1, size1]; exact M33.out.t.there)) ?_; intro w34 hw34; (try rw [size1, size1] at hw34); have M34 : Hid (Mid w w34 wr.heap.size R Qb c m x N M' N M') := Lib.hid (by rw [hw34]; exact M33.out.setT N M'); clear hw34))
                    go_meet
                    exact ⟨E, N, M', rfl, rfl, o1, O2.out, O3.out, M34.out⟩
              | false =>
                go_wp2
                go_meet
                exact ⟨0, c, m, rfl, rfl, hc, Hm.out, fun _ => rfl, M10.out⟩
        case rest =>
          obtain ⟨E, N, M, rfl, rfl, o1, o2, o3, hmid⟩ := hcut
          have HM := Lib.hid hmid
          have hs1 := fun w => same_yes N M x2 w o1 o2
          have hs2 := fun w => same_yes N M x.i w o1 o2
          have hs3 := fun w => same_yes c m x2 w hc Hm.out
          unfold V at hs1 hs2 hs3
          have HS1 := fun w => Lib.hid (hs1 w)
          have HS2 := fun w => Lib.hid (hs2 w)
          have HS3 := fun w => Lib.hid (hs3 w)
          have O2 := Lib.hid o2
          have O3 := Lib.hid o3
          have g0 := hmid.s.c0
          have g1 := hmid.s.c1
          have hEE : (E == E) = true := by simp
          clear hmid hs1 hs2 hs3 o2 o3
          go_upto_if 133 with (first
            | (refine wpList_load30g (by rfl) (.tmp 13) rfl _ rfl (by first | exact HM.out.t | (rw [size1, size1]; exact HM.out.t)) ?_)
            | (go_at_call 18; ((with_reducible refine (HS1 _).out.mono ?_); rintro e w21 ⟨rfl, hb⟩); have M21 := Lib.hid (HM.out.below hb); have h0 := M21.out.s.c0; have h1 := M21.out.s.c1; have h2 := M21.out.x1; clear hb)
            | (refine wpList_load30g (by rfl) (.tmp 13) rfl _ rfl (by first | exact M21.out.t | (rw [size1, size1]; exact M21.out.t)) ?_)
            | (go_at_call 18; ((with_reducible refine (HS2 _).out.mono ?_); rintro e w22 ⟨rfl, hb⟩); have M22 := Lib.hid (M21.out.below hb); have h3 := M22.out.r.c0; have h4 := M22.out.r.c1; clear hb)
            | (refine wpList_load30g (by rfl) (.tmp 8) rfl Qb rfl M22.out.q ?_)
            | (go_at_call 18; ((with_reducible refine (HS3 _).out.mono ?_); rintro e w23 ⟨rfl, hb⟩); have M23 := Lib.hid (M22.out.below hb); clear hb))
          cases hE : (E == 0) with
          | true =>
            have hE0 : E = 0 := eq_of_beq hE
            have hNc := O3.out hE0
            subst hNc
            clear hE0
            go_wp2_with fail
            have hb0 := Below.drew (Below.refl w23.heap.size w23)
            refine wp_region_noPanic ?_
            refine wp_region_held_drew (S := fun w' => At w' (wr.heap.size + 1) N M ∧ RAt w' (wr.heap.size + 2) N M) (by kernel_rfl) ⟨M23.out.drew.s, M23.out.drew.t⟩ (fun hHeld => ?_)
            refine wpAnyH_take (i := 0) (v := .agg (vl N M).toArray) rfl (by kernel_rfl) (by kernel_rfl) (by kernel_rfl) (fun _ _ _ h => h) (yieldsIf_load_mid (by rfl) 26 _ rfl (wr.heap.size + 1) 0 rfl (vl N M) _ (fun _ h => h.1.range) Try.underlying26 rfl (by rw [size26]; rfl)) hHeld ?_
            change wpAnyH _ _ _ _ _ _ _ (Act.put _ (some 134) _) _
            try simp only [Act.put, List.setIfInBounds_toArray, List.set_cons_zero, List.set_cons_succ]
            refine wpAnyH_take (i := 1) (v := RV N M) rfl (by kernel_rfl) (by kernel_rfl) (by kernel_rfl) (fun _ _ _ h => h) (yieldsIf_load_mid (by rfl) 30 _ rfl (wr.heap.size + 2) 0 rfl (rl N M) _ (fun _ h => h.2.range) Try.underlying30 rfl (by rw [size30, rl_len])) hHeld ?_
            change wpAnyH _ _ _ _ _ _ _ (Act.put _ (some 135) _) _
            try simp only [Act.put, List.setIfInBounds_toArray, List.set_cons_zero, List.set_cons_succ]
            refine wpAnyH_ready (rs := [2]) (by kernel_rfl) (by simp) ?_
            refine AllReadyH.cons rfl (fun K hK => ?_) AllReadyH.nil
            rw [if_pos (by rfl)]
            refine wp_store26 (n := N) (m := M) _ _ rfl R rfl rfl M23.out.drew.r ?_
            have U1 := half_of M23.out.drew hlt hsw
            refine hK.out _ _ ⟨U1.s, U1.t⟩ (fun hHeld => ?_)
            clear hK K
            try simp only [Act.put, List.setIfInBounds_toArray, List.set_cons_zero, List.set_cons_succ]
            refine wpAnyH_ready (rs := [3]) (by kernel_rfl) (by simp) ?_
            refine AllReadyH.cons rfl (fun K hK => ?_) AllReadyH.nil
            rw [if_pos (by rfl)]
            refine wp_store30 (n := N) (m := M) _ _ rfl Qb rfl rfl U1.q.there ?_
            have U2 := whole_of U1 hlt hsz hqz
            refine hK.out _ _ ⟨U2.s, U2.t⟩ (fun hHeld => ?_)
            clear hK K
            try simp only [Act.put, List.setIfInBounds_toArray, List.set_cons_zero, List.set_cons_succ]
            refine wpAnyH_done (by kernel_rfl) ?_ _
            refine NoPanic.normal ?_
            have HU := Lib.hid U2
            clear U1 U2 hHeld hb0
            go_wp2_with fail
            go_roundw
            case rel => exact ⟨k + 1, M, by omega, by omega, by go_num, O2.out, HU.out.r, HU.out.q, HU.out.b⟩
            case measure => simp [intOf]; omega
          | false =>
            go_wp2
            go_roundw
            case rel => exact ⟨k + 1, m, by omega, by omega, by go_num, Hm.out, M23.out.r, M23.out.q, M23.out.b⟩
            case measure => simp [intOf]; omega
      · have hk9 : decide (k < 150) = false := by simp; omega
        have hk9I : decide ((k : Int) < 150) = false := by simp; omega
        clear gr
        go_wp2
        go_ret
        exact ⟨rfl, Gb.out⟩
    · have hk9 : decide (k < n1) = false := by simp; omega
      clear gr
      go_wp2
      go_ret
      exact ⟨rfl, Gb.out⟩

set_option maxRecDepth 100000 in
theorem lifted (os : Os) (started : os.Started) (H : Type) (enc : TypeId × Value → H) :
    ReturnsInHanded {} Try.checked os 3 .any (Rows.bitsDoesSpec.pre6 enc Try.prog Try.f3 Rows.bitsDoesRow.domain false) (Rows.bitsDoesSpec.post enc Try.prog Try.f3 false true false false) := by
  refine returnsInHanded_of_change (C := Try.checked) own started (by kernel_rfl) Try.func3
    (ChangeSpec.witness6 (enc := enc) (C := Try.checked) false ⟨#[], #[.int .i64 0, .slice none 0 0, .int .i64 0], []⟩ 8 (by kernel_rfl) (by kernel_rfl) (by kernel_rfl) (by kernel_rfl)) ?_
  intro W base args ds gs before hval0 hW hcnd _
  have hval : ∀ (j : Nat) t v, Try.f3.params[j]? = some t → args[j]? = some v → Value.okWide Try.prog W .any base t v := hval0
  have hW' := hW
  obtain ⟨p, q, hA0, hV, rfl, hfz, hnd⟩ := hW
  have hA : DataW.TrodAll enc Try.prog W 0 (fun _ => true) true Try.f3.params.toList args.toList ds p := hA0
  rw [Try.params3] at hA hval
  obtain ⟨v0, vs0, d0, ds0, p0, q0, hargs, rfl, rfl, h0, r0'⟩ := trodAll_cons hA
  obtain ⟨v1, vs1, d1, ds1, p1, q1, rfl, rfl, rfl, h1, r1'⟩ := trodAll_cons r0'
  obtain ⟨v2, vs2, d2, ds2, p2, q2, rfl, rfl, rfl, h2, r2'⟩ := trodAll_cons r1'
  obtain ⟨rfl, rfl, rfl⟩ := trodAll_nil r2'
  obtain rfl : args = #[v0, v1, v2] := by cases args; simp_all
  obtain ⟨rfl, rfl⟩ := trodVars_none hV
  obtain ⟨x0, rfl, rfl, rfl, w0⟩ := open_int Try.underlying3 (hval 0 3 v0 rfl rfl) h0
  have k1 := h1
  have lt1 : ∀ x ∈ p1, x.block < W.heap.size := by obtain ⟨m, hm⟩ := k1; exact DataW.trod_lt m _ _ _ hm
  obtain ⟨a1, n1, c1, l1, rfl, w1⟩ := open_lot h1 (okWide_slice Try.underlying22 (hval 1 22 v1 rfl rfl))
  obtain ⟨x2, rfl, rfl, rfl, w2⟩ := open_int Try.underlying3 (hval 2 3 v2 rfl rfl) h2
  clear hA0 hval0
  refine (walk x0 a1 n1 c1 l1 x2 W w0 w1 w2).mono fun e W' ⟨he, bel⟩ => ?_
  subst he
  exact ⟨_, rfl, _, _, _, [], _, [], hW', trodAll_mk1 (shut_bool Try.underlying4 _), (trodAll_cons_mk (shut_int Try.underlying3 w0) (trodAll_cons_mk (Below.trod laidOut (by kernel_rfl) (of_decide_eq_true (by kernel_rfl)) k1 bel lt1) (trodAll_cons_mk (shut_int Try.underlying3 w2) trodAll_mk0))), rfl, bel.frame _, fun h => by cases h⟩

theorem over : Rows.bitsDoesRow.holds Try.pinned (OpenSpec.ofChange Rows.bitsDoesSpec) :=
  OpenClaim.holds_of_wide 3 Try.f3 rfl rfl rfl rfl rfl rfl rfl ⟨rfl, rfl, rfl, rfl, rfl⟩ rfl rfl rfl rfl rfl (by kernel_rfl) Try.func3 (by kernel_rfl)
    (of_decide_eq_true (by kernel_rfl)) (by unfold Func.isWrapper; first | (rw [if_pos (by decide +kernel)]; kernel_rfl) | (rw [if_neg (by decide +kernel)]; exact ⟨rfl, rfl⟩))
    (fun os started H enc _ => lifted os started H enc)

/-- the statement -/
theorem proved : Rows.BitsDoesSaid := over
#print axioms proved
end Go.Proofs.Ytcdihcloihnpkaa.bitsDoes
