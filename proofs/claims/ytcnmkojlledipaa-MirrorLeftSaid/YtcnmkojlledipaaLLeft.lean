/-
  PROVED: what is left are the items behind those that were taken, in order, numbered one by one. CONDITIONS: none (any base; items, of which up to 100 are added; acks, of which up to 100 are done).
-/
import Derived.Test.YtcnmkojlledipaaMrNum
import Derived.BigQuiet
import Derived.Deep.RegionHeld3
import Derived.Deep.DeepCutAuto
namespace Go.Proofs.Ytcnmkojlledipaa.mirrorLeft
open Go.ChangeShapes Go.WideShapes Go.ChangeAt Go.RowKit Go.Joins
open Go.ChangeMaps (open_string shut_string)
set_option linter.unusedVariables false
set_option linter.unusedSimpArgs false
set_option maxRecDepth 20000

open Mr

set_option maxHeartbeats 4000000 in
theorem walk (x0 : Int) (a1 : Option Addr) (n1 c1 : Nat) (l1 : List Mr.It) (a2 : Option Addr) (n2 c2 : Nat) (l2 : List Int) (w : World) (w0 : (Lit.int .i64 x0).wf = true) (w1 : Mr.AL w a1 n1 c1 l1) (w2 : Mr.NR .u8 w a2 n2 c2 l2) :
    Calls Try.prog 7 #[.int .i64 x0, .slice a1 n1 c1, .slice a2 n2 c2] w fun e w' => e = .returned (.bool true) ∧ Below w.heap.size w w' := by
  have HA := Lib.hid (fun w' => awake_any w')
  have HI1 := Lib.hid w1
  have HR2 := Lib.hid w2
  have hc1 : n1 ≤ 9223372036854775807 := by have := w1.2.1; have := w1.2.2.1; simp only [maxLen] at *; omega
  have hc2 : n2 ≤ 9223372036854775807 := by have := w2.2.1; have := w2.2.2.1; simp only [maxLen] at *; omega
  clear w1 w2
  by_cases hneg : x0 < 0 ∨ 1099511627776 < x0
  · rcases hneg with hn | hn
    case' inl => have hd : decide (x0 < 0) = true := by simpa using hn
    case' inr => have hd : decide (x0 < 0) = false := by simp; omega
    all_goals
      go_enter Try.func7, Try.ntmps7
      go_wp2_with (go_at_call 9; with_reducible refine (HA.out _).mono ?_; rintro e wa ⟨rfl, hb⟩
                   have HB := Lib.hid hb
                   clear hb)
      go_ret
      exact ⟨rfl, HB.out⟩
  · have hE : 0 ≤ x0 := by omega
    have hS : x0 ≤ 1099511627776 := by omega
    have hd0 : decide (x0 < 0) = false := by simp; omega
    have hd1 : decide (1099511627776 < x0) = false := by simp; omega
    have HN : Hid (∀ w', Below w.heap.size w w' → Calls Try.prog 10 #[.int .i64 x0] w' fun e w'' => ∃ p, e = .returned (.pointer (some ⟨p, 0, none⟩)) ∧ Rx w w'' p x0 []) := Lib.hid fun w' hb => by
      refine (new_run w w' x0 hb).mono ?_
      rintro e w'' ⟨rfl, h1, _⟩
      rw [base_same hE (by omega)] at h1
      exact ⟨_, rfl, none, h1⟩
    clear hneg w0
    go_enter Try.func7, Try.ntmps7
    go_upto_region 6 with (first
        | (go_at_call 9; with_reducible refine (HA.out _).mono ?_; rintro e wa ⟨rfl, hb⟩
           have HB := Lib.hid hb
           clear hb)
        | (go_at_call 10; with_reducible refine (HN.out _ HB.out).mono ?_; rintro e wb ⟨p, rfl, hb⟩
           have HX0 := Lib.hid hb
           clear hb))
    go_cut [8] (fun v wx => ∃ n : Nat, v = .int .i64 (n : Int) ∧ n ≤ n1 ∧ n ≤ 100 ∧ Rx w wx p x0 [])
    case first =>
      by_cases hmin : n1 ≤ 100
      · have hm : ¬ (100 : Int) < (n1 : Int) := by omega
        go_wp2
        go_meet
        exact ⟨n1, rfl, by omega, hmin, HX0.out⟩
      · have hm : (100 : Int) < (n1 : Int) := by omega
        go_wp2
        go_meet
        exact ⟨100, rfl, by omega, by omega, HX0.out⟩
    case rest =>
      obtain ⟨n, rfl, hn1, hn2, hb⟩ := hcut
      have HX1 := Lib.hid hb
      clear hb
      go_wp2
      go_loopw [9] (fun iv wr => ∃ (k : Nat), iv = .int .i64 (k : Int) ∧ k ≤ n ∧ Rx w wr p x0 (numb x0 (l1.take k))) (fun iv _ => n - (intOf iv).toNat)
      case atStart => exact ⟨0, rfl, by omega, HX1.out⟩
      case round =>
        clear HX0 HX1 HB HA HN
        obtain ⟨k, rfl, hk, hRx⟩ := hrel
        have HRx := Lib.hid hRx
        clear hRx
        by_cases hlt : k < n
        · have hkI : (k : Int) < (n : Int) := by omega
          have hkJ : (k : Int) < (n1 : Int) := by omega
          obtain ⟨x, hx⟩ : ∃ x, l1[k]? = some x := ⟨_, List.getElem?_eq_getElem (by have := HI1.out.1.1; omega)⟩
          have hT : l1.take (k + 1) = l1.take k ++ [x] := by rw [List.take_add_one, hx]; rfl
          have hTl : (l1.take k).length = k := by rw [List.length_take]; have := HI1.out.1.1; omega
          obtain ⟨xs, xb, xd, xc, xn⟩ := x
          have HAd : Hid (∀ w', Rx w w' p x0 (numb x0 (l1.take k)) → Calls Try.prog 12 #[.pointer (some ⟨p, 0, none⟩), .agg #[.int .i64 xs, .int .i64 xb, .string xd, .int .i64 xc, .int .i64 xn]] w' fun e w'' => e = .returned (.tuple #[.int .i64 (x0 + ((k : Int) + 1)), .int .i64 0]) ∧ Rx w w'' p x0 (numb x0 (l1.take (k + 1)))) := Lib.hid fun w' h => by
            have := h.add ⟨xs, xb, xd, xc, xn⟩ (by rw [numb_length, hTl]; omega)
            obtain ⟨k1, k2, k3⟩ := add_numb (b := x0) (l := l1.take k) ⟨xs, xb, xd, xc, xn⟩ (by rw [hTl]; omega)
            rw [k1, k2, k3, hTl, ← hT, show x0 + (k : Int) + 1 = x0 + ((k : Int) + 1) by omega] at this
            exact this
          have hw1 : IntKind.i64.wrap (x0 + ((k : Int) + 1)) = x0 + ((k : Int) + 1) := IntWalk.i64_in _ (by omega)
          obtain ⟨b1, o1, ha1, hb1, g0, g1, g2, g3, g4⟩ := (HI1.out.1.below HRx.out.be (Nat.le_refl _)).at hx
          simp only at g0 g1 g2 g3 g4
          subst ha1
          clear hx hT hTl
          go_wp2_with (
            go_at_call 12; with_reducible refine (HAd.out _ HRx.out).mono ?_; rintro e wc ⟨rfl, hb⟩
            have HR1 := Lib.hid hb
            clear hb)
          go_roundw
          case rel => exact ⟨k + 1, by go_num, by omega, HR1.out⟩
          case measure => simp [intOf]; omega
        · have hkn : n = k := by omega
          subst hkn
          clear hlt hk
          go_wp2
          go_loopw [12, 13] (fun ac iv wr => ∃ (a i : Nat), i ≤ n2 ∧ i ≤ 100 ∧ a ≤ n ∧ ac = .int .i64 (a : Int) ∧ iv = .int .i64 (i : Int) ∧ Rx w wr p (x0 + (a : Int)) (numb (x0 + (a : Int)) ((l1.take n).drop a))) (fun _ iv _ => 100 - (intOf iv).toNat)
          case atStart => exact ⟨0, 0, by omega, by omega, by omega, rfl, rfl, by have := HRx.out; simpa using this⟩
          case round =>
            clear HRx
            obtain ⟨a, i, hi1, hi2, ha, rfl, rfl, hRx⟩ := hrel
            have HRx := Lib.hid hRx
            clear hRx
            by_cases hil : i < n2 ∧ i < 100
            · obtain ⟨hi3, hi4⟩ := hil
              have hi5 : (i : Int) < (n2 : Int) := by omega
              have hi6 : (i : Int) < 100 := by omega
              obtain ⟨zk, hzk⟩ : ∃ z, l2[i]? = some z := ⟨_, List.getElem?_eq_getElem (by have := HR2.out.1; omega)⟩
              have hz8 := wf_u8 (HR2.out.2.2.2.1 zk (List.mem_of_getElem? hzk))
              obtain ⟨bk, ok, rfl, hbk, gk⟩ := HR2.out.at hzk
              have gk' := (HRx.out.be.cell (p := ⟨bk, ok + i, none⟩) hbk).trans gk
              clear gk hzk
              have hWk : ((a : Int) < zk - 3 ∧ zk - 3 ≤ (n : Int)) ∨ (zk - 3 ≤ (a : Int)) ∨ ((a : Int) < zk - 3 ∧ (n : Int) < zk - 3) := by omega
              rcases hWk with hk | hk | hk
              · as_aux_lemma =>
                obtain ⟨kk, hkk⟩ : ∃ kk : Nat, zk = (kk : Int) + 3 := ⟨(zk - 3).toNat, by omega⟩
                subst hkk
                have hk1 : a < kk := by omega
                have hk2 : kk ≤ n := by omega
                have HLn : Hid ((l1.take n).length = n) := Lib.hid (by rw [List.length_take]; have := HI1.out.1.1; omega)
                have HQ : Hid (ackB (x0 + (a : Int)) (numb (x0 + (a : Int)) ((l1.take n).drop a)) (x0 + (kk : Int)) = true ∧ ackA (x0 + (a : Int)) (numb (x0 + (a : Int)) ((l1.take n).drop a)) (x0 + (kk : Int)) = x0 + (kk : Int) ∧ ackL (x0 + (a : Int)) (numb (x0 + (a : Int)) ((l1.take n).drop a)) (x0 + (kk : Int)) = numb (x0 + (kk : Int)) ((l1.take n).drop kk)) := Lib.hid (ack_numb_yes hk1 (by have := HLn.out; omega))
                have HK : Hid (∀ w', Rx w w' p (x0 + (a : Int)) (numb (x0 + (a : Int)) ((l1.take n).drop a)) → Calls Try.prog 14 #[.pointer (some ⟨p, 0, none⟩), .int .i64 (x0 + (kk : Int))] w' fun e w'' => e = .returned (.bool true) ∧ Rx w w'' p (x0 + (kk : Int)) (numb (x0 + (kk : Int)) ((l1.take n).drop kk))) := Lib.hid fun w' h => by
                  have := h.ack (x0 + (kk : Int))
                  obtain ⟨k1, k2, k3⟩ := HQ.out
                  rw [k1, k2, k3] at this
                  exact this
                have hwk : IntKind.i64.wrap ((kk : Int) + 3 - 3) = (kk : Int) := by rw [show (kk : Int) + 3 - 3 = (kk : Int) by omega]; exact IntWalk.i64_in _ (by omega)
                have hwk2 : IntKind.i64.wrap (kk : Int) = (kk : Int) := IntWalk.i64_in _ (by omega)
                have hwq : IntKind.i64.wrap (x0 + (kk : Int)) = x0 + (kk : Int) := IntWalk.i64_in _ (by omega)
                have hd2 : decide ((a : Int) < (kk : Int)) = true := by simpa using hk1
                have hd3 : decide ((kk : Int) ≤ (n : Int)) = true := by simpa using hk2
                have HAA := Lib.hid (show kk ≤ n by omega)

                have HM : Hid (numb (x0 + (kk : Int)) ((l1.take n).drop kk) = numb (x0 + (kk : Int)) ((l1.take n).drop kk)) := Lib.hid rfl
                obtain ⟨m, hm⟩ : ∃ m, n = kk + m := ⟨n - kk, by have := HAA.out; omega⟩
                have HMl : Hid ((numb (x0 + (kk : Int)) ((l1.take n).drop kk)).length = m) := Lib.hid (by rw [numb_length, List.length_drop, List.length_take]; have := HI1.out.1.1; omega)
                have hw1 : IntKind.i64.wrap ((n : Int) - (kk : Int)) = (m : Int) := by rw [IntWalk.i64_in _ (by omega)]; omega
                have hw2 : IntKind.i64.wrap (x0 + (kk : Int)) = x0 + (kk : Int) := IntWalk.i64_in _ (by omega)
                have hw3 : IntKind.i64.wrap (x0 + (n : Int)) = x0 + (n : Int) := IntWalk.i64_in _ (by omega)
                have hmI : (m : Int) ≤ 100 := by omega
                have HLf : Hid (∀ w', Rx w w' p (x0 + (kk : Int)) (numb (x0 + (kk : Int)) ((l1.take n).drop kk)) → Calls Try.prog 16 #[.pointer (some ⟨p, 0, none⟩)] w' fun e w'' => ∃ a' c', e = .returned (.slice a' m c') ∧ m ≤ c' ∧ c' ≤ maxLen ∧ Rx w w'' p (x0 + (kk : Int)) (numb (x0 + (kk : Int)) ((l1.take n).drop kk)) ∧ Rd w'' a' m (numb (x0 + (kk : Int)) ((l1.take n).drop kk))) := Lib.hid fun w' h => by
                  have hM := HMl.out
                  refine (h.left (by omega)).mono ?_
                  rintro e w'' ⟨a', c', rfl, h1, h2, _, _⟩
                  have hc := h2.cap
                  have hr := h2.rd
                  rw [hM] at hc hr ⊢
                  exact ⟨a', c', rfl, hc.1, hc.2, h1, hr⟩
                have HAc : Hid (∀ w', Rx w w' p (x0 + (kk : Int)) (numb (x0 + (kk : Int)) ((l1.take n).drop kk)) → Calls Try.prog 21 #[.pointer (some ⟨p, 0, none⟩)] w' fun e w'' => e = .returned (.int .i64 (x0 + (kk : Int))) ∧ w' = w'') := Lib.hid fun w' h => h.acked
                have HLa : Hid (∀ w', Rx w w' p (x0 + (kk : Int)) (numb (x0 + (kk : Int)) ((l1.take n).drop kk)) → Calls Try.prog 19 #[.pointer (some ⟨p, 0, none⟩)] w' fun e w'' => e = .returned (.int .i64 (x0 + (n : Int))) ∧ ∃ q, w'' = w'.drewN q) := Lib.hid fun w' h => by
                  have := h.last
                  rw [HMl.out, show x0 + (kk : Int) + (m : Int) = x0 + (n : Int) by omega] at this
                  exact this
                have Hm := Lib.hid hm
                clear hm
                go_wp2_with (first
                  | (
                     go_at_call 14; with_reducible refine (HK.out _ HRx.out).mono ?_; rintro e wd ⟨rfl, hb⟩
                     have HR1 := Lib.hid hb
                     clear hb)
                  | (
                     go_at_call 16; with_reducible refine (HLf.out _ HR1.out).mono ?_; rintro e we ⟨a6, c6, rfl, h6, h7, hb, hr⟩
                     have HR3 := Lib.hid hb
                     have HRd := Lib.hid hr
                     have H67 := Lib.hid (And.intro h6 h7)
                     clear hb hr h6 h7)
                  | (
                     go_at_call 21; with_reducible refine (HAc.out _ HR3.out).mono ?_; rintro e wf ⟨rfl, rfl⟩)
                  | (
                     go_at_call 19; with_reducible refine (HLa.out _ HR3.out).mono ?_; rintro e wg ⟨rfl, q, rfl⟩))
                have HR4 : Hid (Rx w (we.drewN q) p (x0 + (kk : Int)) (numb (x0 + (kk : Int)) ((l1.take n).drop kk))) := Lib.hid (HR3.out.below ((Below.refl _ _).drewB q))
                have HRd4 : Hid (Rd (we.drewN q) a6 m (numb (x0 + (kk : Int)) ((l1.take n).drop kk))) := Lib.hid HRd.out
                generalize we.drewN q = wy at *
                go_loopw [115] (fun i wz => ∃ j : Nat, j ≤ m ∧ i = .int .i64 (j : Int) ∧ Below wy.heap.size wy wz) (fun i _ => m - (intOf i).toNat)
                case atStart => exact ⟨0, by omega, rfl, Below.refl _ _⟩
                case round =>
                  obtain ⟨j, hj, rfl, hBz⟩ := hrel
                  have HBz := Lib.hid hBz
                  clear hBz
                  by_cases hjl : j < m
                  · have hjI : (j : Int) < (m : Int) := by omega
                    have ht : ((kk : Int) + (j : Int)).toNat = kk + j := by omega
                    have hjn : (kk : Int) + (j : Int) < (n1 : Int) := by have := Hm.out; omega
                    have hw4 : IntKind.i64.wrap ((kk : Int) + (j : Int)) = (kk : Int) + (j : Int) := IntWalk.i64_in _ (by omega)
                    have hw5 : IntKind.i64.wrap ((kk : Int) + (j : Int) + 1) = (kk : Int) + (j : Int) + 1 := IntWalk.i64_in _ (by omega)
                    have hw6 : IntKind.i64.wrap (x0 + ((kk : Int) + (j : Int) + 1)) = x0 + ((kk : Int) + (j : Int) + 1) := IntWalk.i64_in _ (by omega)
                    obtain ⟨y, hy⟩ : ∃ y, l1[kk + j]? = some y := ⟨_, List.getElem?_eq_getElem (by have := HI1.out.1.1; have := Hm.out; omega)⟩
                    have hy2 : (numb (x0 + (kk : Int)) ((l1.take n).drop kk))[j]? = some (y.no (x0 + ((kk : Int) + (j : Int) + 1))) := by
                      rw [numb_get _ _ j y (by rw [List.getElem?_drop, List.getElem?_take, if_pos (by have := Hm.out; omega)]; exact hy), show x0 + (kk : Int) + (j : Int) + 1 = x0 + ((kk : Int) + (j : Int) + 1) by omega]
                    obtain ⟨ys, yb, yd, yc, yn⟩ := y
                    obtain ⟨b1, o1, ha1, hb1, g0, g1, g2, g3, g4⟩ := (HI1.out.1.below (HR4.out.be.trans (HBz.out.mono HR4.out.be.size)) (Nat.le_refl _)).at hy
                    obtain ⟨b2, o2, ha2, hb2, p0, p1, p2, p3, p4⟩ := (HRd4.out.below HBz.out (Nat.le_refl _)).at hy2
                    simp only [It.no] at p0 p1 p2 p3 p4 g0 g1 g2 g3 g4
                    subst ha1 ha2
                    have hm := it_guard
                    have hp := it_held
                    clear hy hy2
                    go_wp2
                    go_quiet (fail)
                    go_wp2
                    go_roundw
                    case rel => exact ⟨j + 1, by omega, by go_num, (HBz.out.alloc HBz.out.size _).drewB _⟩
                    case measure => simp [intOf]; omega
                  · have hjm : j = m := by omega
                    subst hjm
                    clear hjl
                    go_wp2
                    go_roundw
                    case rel => exact ⟨kk, i + 1, by omega, by omega, HAA.out, rfl, by go_num, HR4.out.below HBz.out⟩
                    case measure => simp [intOf]; omega
              · as_aux_lemma =>
                have HLn : Hid ((l1.take n).length = n) := Lib.hid (by rw [List.length_take]; have := HI1.out.1.1; omega)
                have HQ : Hid (ackB (x0 + (a : Int)) (numb (x0 + (a : Int)) ((l1.take n).drop a)) (x0 + (zk - 3)) = false ∧ ackA (x0 + (a : Int)) (numb (x0 + (a : Int)) ((l1.take n).drop a)) (x0 + (zk - 3)) = x0 + (a : Int) ∧ ackL (x0 + (a : Int)) (numb (x0 + (a : Int)) ((l1.take n).drop a)) (x0 + (zk - 3)) = numb (x0 + (a : Int)) ((l1.take n).drop a)) := Lib.hid (ack_numb_no (by have := HLn.out; omega) (by have := HLn.out; omega))
                have HK : Hid (∀ w', Rx w w' p (x0 + (a : Int)) (numb (x0 + (a : Int)) ((l1.take n).drop a)) → Calls Try.prog 14 #[.pointer (some ⟨p, 0, none⟩), .int .i64 (x0 + (zk - 3))] w' fun e w'' => e = .returned (.bool false) ∧ Rx w w'' p (x0 + (a : Int)) (numb (x0 + (a : Int)) ((l1.take n).drop a))) := Lib.hid fun w' h => by
                  have := h.ack (x0 + (zk - 3))
                  obtain ⟨k1, k2, k3⟩ := HQ.out
                  rw [k1, k2, k3] at this
                  exact this
                have hwk : IntKind.i64.wrap (zk - 3) = zk - 3 := IntWalk.i64_in _ (by omega)
                have hwq : IntKind.i64.wrap (x0 + (zk - 3)) = x0 + (zk - 3) := IntWalk.i64_in _ (by omega)
                have hd2 : decide ((a : Int) < zk - 3) = false := by simp; omega
                have HAA := Lib.hid (show a ≤ n by omega)

                have HM : Hid (numb (x0 + (a : Int)) ((l1.take n).drop a) = numb (x0 + (a : Int)) ((l1.take n).drop a)) := Lib.hid rfl
                obtain ⟨m, hm⟩ : ∃ m, n = a + m := ⟨n - a, by have := HAA.out; omega⟩
                have HMl : Hid ((numb (x0 + (a : Int)) ((l1.take n).drop a)).length = m) := Lib.hid (by rw [numb_length, List.length_drop, List.length_take]; have := HI1.out.1.1; omega)
                have hw1 : IntKind.i64.wrap ((n : Int) - (a : Int)) = (m : Int) := by rw [IntWalk.i64_in _ (by omega)]; omega
                have hw2 : IntKind.i64.wrap (x0 + (a : Int)) = x0 + (a : Int) := IntWalk.i64_in _ (by omega)
                have hw3 : IntKind.i64.wrap (x0 + (n : Int)) = x0 + (n : Int) := IntWalk.i64_in _ (by omega)
                have hmI : (m : Int) ≤ 100 := by omega
                have HLf : Hid (∀ w', Rx w w' p (x0 + (a : Int)) (numb (x0 + (a : Int)) ((l1.take n).drop a)) → Calls Try.prog 16 #[.pointer (some ⟨p, 0, none⟩)] w' fun e w'' => ∃ a' c', e = .returned (.slice a' m c') ∧ m ≤ c' ∧ c' ≤ maxLen ∧ Rx w w'' p (x0 + (a : Int)) (numb (x0 + (a : Int)) ((l1.take n).drop a)) ∧ Rd w'' a' m (numb (x0 + (a : Int)) ((l1.take n).drop a))) := Lib.hid fun w' h => by
                  have hM := HMl.out
                  refine (h.left (by omega)).mono ?_
                  rintro e w'' ⟨a', c', rfl, h1, h2, _, _⟩
                  have hc := h2.cap
                  have hr := h2.rd
                  rw [hM] at hc hr ⊢
                  exact ⟨a', c', rfl, hc.1, hc.2, h1, hr⟩
                have HAc : Hid (∀ w', Rx w w' p (x0 + (a : Int)) (numb (x0 + (a : Int)) ((l1.take n).drop a)) → Calls Try.prog 21 #[.pointer (some ⟨p, 0, none⟩)] w' fun e w'' => e = .returned (.int .i64 (x0 + (a : Int))) ∧ w' = w'') := Lib.hid fun w' h => h.acked
                have HLa : Hid (∀ w', Rx w w' p (x0 + (a : Int)) (numb (x0 + (a : Int)) ((l1.take n).drop a)) → Calls Try.prog 19 #[.pointer (some ⟨p, 0, none⟩)] w' fun e w'' => e = .returned (.int .i64 (x0 + (n : Int))) ∧ ∃ q, w'' = w'.drewN q) := Lib.hid fun w' h => by
                  have := h.last
                  rw [HMl.out, show x0 + (a : Int) + (m : Int) = x0 + (n : Int) by omega] at this
                  exact this
                have Hm := Lib.hid hm
                clear hm
                go_wp2_with (first
                  | (
                     go_at_call 14; with_reducible refine (HK.out _ HRx.out).mono ?_; rintro e wd ⟨rfl, hb⟩
                     have HR1 := Lib.hid hb
                     clear hb)
                  | (
                     go_at_call 16; with_reducible refine (HLf.out _ HR1.out).mono ?_; rintro e we ⟨a6, c6, rfl, h6, h7, hb, hr⟩
                     have HR3 := Lib.hid hb
                     have HRd := Lib.hid hr
                     have H67 := Lib.hid (And.intro h6 h7)
                     clear hb hr h6 h7)
                  | (
                     go_at_call 21; with_reducible refine (HAc.out _ HR3.out).mono ?_; rintro e wf ⟨rfl, rfl⟩)
                  | (
                     go_at_call 19; with_reducible refine (HLa.out _ HR3.out).mono ?_; rintro e wg ⟨rfl, q, rfl⟩))
                have HR4 : Hid (Rx w (we.drewN q) p (x0 + (a : Int)) (numb (x0 + (a : Int)) ((l1.take n).drop a))) := Lib.hid (HR3.out.below ((Below.refl _ _).drewB q))
                have HRd4 : Hid (Rd (we.drewN q) a6 m (numb (x0 + (a : Int)) ((l1.take n).drop a))) := Lib.hid HRd.out
                generalize we.drewN q = wy at *
                go_loopw [115] (fun i wz => ∃ j : Nat, j ≤ m ∧ i = .int .i64 (j : Int) ∧ Below wy.heap.size wy wz) (fun i _ => m - (intOf i).toNat)
                case atStart => exact ⟨0, by omega, rfl, Below.refl _ _⟩
                case round =>
                  obtain ⟨j, hj, rfl, hBz⟩ := hrel
                  have HBz := Lib.hid hBz
                  clear hBz
                  by_cases hjl : j < m
                  · have hjI : (j : Int) < (m : Int) := by omega
                    have ht : ((a : Int) + (j : Int)).toNat = a + j := by omega
                    have hjn : (a : Int) + (j : Int) < (n1 : Int) := by have := Hm.out; omega
                    have hw4 : IntKind.i64.wrap ((a : Int) + (j : Int)) = (a : Int) + (j : Int) := IntWalk.i64_in _ (by omega)
                    have hw5 : IntKind.i64.wrap ((a : Int) + (j : Int) + 1) = (a : Int) + (j : Int) + 1 := IntWalk.i64_in _ (by omega)
                    have hw6 : IntKind.i64.wrap (x0 + ((a : Int) + (j : Int) + 1)) = x0 + ((a : Int) + (j : Int) + 1) := IntWalk.i64_in _ (by omega)
                    obtain ⟨y, hy⟩ : ∃ y, l1[a + j]? = some y := ⟨_, List.getElem?_eq_getElem (by have := HI1.out.1.1; have := Hm.out; omega)⟩
                    have hy2 : (numb (x0 + (a : Int)) ((l1.take n).drop a))[j]? = some (y.no (x0 + ((a : Int) + (j : Int) + 1))) := by
                      rw [numb_get _ _ j y (by rw [List.getElem?_drop, List.getElem?_take, if_pos (by have := Hm.out; omega)]; exact hy), show x0 + (a : Int) + (j : Int) + 1 = x0 + ((a : Int) + (j : Int) + 1) by omega]
                    obtain ⟨ys, yb, yd, yc, yn⟩ := y
                    obtain ⟨b1, o1, ha1, hb1, g0, g1, g2, g3, g4⟩ := (HI1.out.1.below (HR4.out.be.trans (HBz.out.mono HR4.out.be.size)) (Nat.le_refl _)).at hy
                    obtain ⟨b2, o2, ha2, hb2, p0, p1, p2, p3, p4⟩ := (HRd4.out.below HBz.out (Nat.le_refl _)).at hy2
                    simp only [It.no] at p0 p1 p2 p3 p4 g0 g1 g2 g3 g4
                    subst ha1 ha2
                    have hm := it_guard
                    have hp := it_held
                    clear hy hy2
                    go_wp2
                    go_quiet (fail)
                    go_wp2
                    go_roundw
                    case rel => exact ⟨j + 1, by omega, by go_num, (HBz.out.alloc HBz.out.size _).drewB _⟩
                    case measure => simp [intOf]; omega
                  · have hjm : j = m := by omega
                    subst hjm
                    clear hjl
                    go_wp2
                    go_roundw
                    case rel => exact ⟨a, i + 1, by omega, by omega, HAA.out, rfl, by go_num, HR4.out.below HBz.out⟩
                    case measure => simp [intOf]; omega
              · as_aux_lemma =>
                have HLn : Hid ((l1.take n).length = n) := Lib.hid (by rw [List.length_take]; have := HI1.out.1.1; omega)
                have HQ : Hid (ackB (x0 + (a : Int)) (numb (x0 + (a : Int)) ((l1.take n).drop a)) (x0 + (zk - 3)) = false ∧ ackA (x0 + (a : Int)) (numb (x0 + (a : Int)) ((l1.take n).drop a)) (x0 + (zk - 3)) = x0 + (a : Int) ∧ ackL (x0 + (a : Int)) (numb (x0 + (a : Int)) ((l1.take n).drop a)) (x0 + (zk - 3)) = numb (x0 + (a : Int)) ((l1.take n).drop a)) := Lib.hid (ack_numb_no (by have := HLn.out; omega) (by have := HLn.out; omega))
                have HK : Hid (∀ w', Rx w w' p (x0 + (a : Int)) (numb (x0 + (a : Int)) ((l1.take n).drop a)) → Calls Try.prog 14 #[.pointer (some ⟨p, 0, none⟩), .int .i64 (x0 + (zk - 3))] w' fun e w'' => e = .returned (.bool false) ∧ Rx w w'' p (x0 + (a : Int)) (numb (x0 + (a : Int)) ((l1.take n).drop a))) := Lib.hid fun w' h => by
                  have := h.ack (x0 + (zk - 3))
                  obtain ⟨k1, k2, k3⟩ := HQ.out
                  rw [k1, k2, k3] at this
                  exact this
                have hwk : IntKind.i64.wrap (zk - 3) = zk - 3 := IntWalk.i64_in _ (by omega)
                have hwq : IntKind.i64.wrap (x0 + (zk - 3)) = x0 + (zk - 3) := IntWalk.i64_in _ (by omega)
                have hd2 : decide ((a : Int) < zk - 3) = true := by simp; omega
                have hd3 : decide (zk - 3 ≤ (n : Int)) = false := by simp; omega
                have HAA := Lib.hid (show a ≤ n by omega)

                have HM : Hid (numb (x0 + (a : Int)) ((l1.take n).drop a) = numb (x0 + (a : Int)) ((l1.take n).drop a)) := Lib.hid rfl
                obtain ⟨m, hm⟩ : ∃ m, n = a + m := ⟨n - a, by have := HAA.out; omega⟩
                have HMl : Hid ((numb (x0 + (a : Int)) ((l1.take n).drop a)).length = m) := Lib.hid (by rw [numb_length, List.length_drop, List.length_take]; have := HI1.out.1.1; omega)
                have hw1 : IntKind.i64.wrap ((n : Int) - (a : Int)) = (m : Int) := by rw [IntWalk.i64_in _ (by omega)]; omega
                have hw2 : IntKind.i64.wrap (x0 + (a : Int)) = x0 + (a : Int) := IntWalk.i64_in _ (by omega)
                have hw3 : IntKind.i64.wrap (x0 + (n : Int)) = x0 + (n : Int) := IntWalk.i64_in _ (by omega)
                have hmI : (m : Int) ≤ 100 := by omega
                have HLf : Hid (∀ w', Rx w w' p (x0 + (a : Int)) (numb (x0 + (a : Int)) ((l1.take n).drop a)) → Calls Try.prog 16 #[.pointer (some ⟨p, 0, none⟩)] w' fun e w'' => ∃ a' c', e = .returned (.slice a' m c') ∧ m ≤ c' ∧ c' ≤ maxLen ∧ Rx w w'' p (x0 + (a : Int)) (numb (x0 + (a : Int)) ((l1.take n).drop a)) ∧ Rd w'' a' m (numb (x0 + (a : Int)) ((l1.take n).drop a))) := Lib.hid fun w' h => by
                  have hM := HMl.out
                  refine (h.left (by omega)).mono ?_
                  rintro e w'' ⟨a', c', rfl, h1, h2, _, _⟩
                  have hc := h2.cap
                  have hr := h2.rd
                  rw [hM] at hc hr ⊢
                  exact ⟨a', c', rfl, hc.1, hc.2, h1, hr⟩
                have HAc : Hid (∀ w', Rx w w' p (x0 + (a : Int)) (numb (x0 + (a : Int)) ((l1.take n).drop a)) → Calls Try.prog 21 #[.pointer (some ⟨p, 0, none⟩)] w' fun e w'' => e = .returned (.int .i64 (x0 + (a : Int))) ∧ w' = w'') := Lib.hid fun w' h => h.acked
                have HLa : Hid (∀ w', Rx w w' p (x0 + (a : Int)) (numb (x0 + (a : Int)) ((l1.take n).drop a)) → Calls Try.prog 19 #[.pointer (some ⟨p, 0, none⟩)] w' fun e w'' => e = .returned (.int .i64 (x0 + (n : Int))) ∧ ∃ q, w'' = w'.drewN q) := Lib.hid fun w' h => by
                  have := h.last
                  rw [HMl.out, show x0 + (a : Int) + (m : Int) = x0 + (n : Int) by omega] at this
                  exact this
                have Hm := Lib.hid hm
                clear hm
                go_wp2_with (first
                  | (
                     go_at_call 14; with_reducible refine (HK.out _ HRx.out).mono ?_; rintro e wd ⟨rfl, hb⟩
                     have HR1 := Lib.hid hb
                     clear hb)
                  | (
                     go_at_call 16; with_reducible refine (HLf.out _ HR1.out).mono ?_; rintro e we ⟨a6, c6, rfl, h6, h7, hb, hr⟩
                     have HR3 := Lib.hid hb
                     have HRd := Lib.hid hr
                     have H67 := Lib.hid (And.intro h6 h7)
                     clear hb hr h6 h7)
                  | (
                     go_at_call 21; with_reducible refine (HAc.out _ HR3.out).mono ?_; rintro e wf ⟨rfl, rfl⟩)
                  | (
                     go_at_call 19; with_reducible refine (HLa.out _ HR3.out).mono ?_; rintro e wg ⟨rfl, q, rfl⟩))
                have HR4 : Hid (Rx w (we.drewN q) p (x0 + (a : Int)) (numb (x0 + (a : Int)) ((l1.take n).drop a))) := Lib.hid (HR3.out.below ((Below.refl _ _).drewB q))
                have HRd4 : Hid (Rd (we.drewN q) a6 m (numb (x0 + (a : Int)) ((l1.take n).drop a))) := Lib.hid HRd.out
                generalize we.drewN q = wy at *
                go_loopw [115] (fun i wz => ∃ j : Nat, j ≤ m ∧ i = .int .i64 (j : Int) ∧ Below wy.heap.size wy wz) (fun i _ => m - (intOf i).toNat)
                case atStart => exact ⟨0, by omega, rfl, Below.refl _ _⟩
                case round =>
                  obtain ⟨j, hj, rfl, hBz⟩ := hrel
                  have HBz := Lib.hid hBz
                  clear hBz
                  by_cases hjl : j < m
                  · have hjI : (j : Int) < (m : Int) := by omega
                    have ht : ((a : Int) + (j : Int)).toNat = a + j := by omega
                    have hjn : (a : Int) + (j : Int) < (n1 : Int) := by have := Hm.out; omega
                    have hw4 : IntKind.i64.wrap ((a : Int) + (j : Int)) = (a : Int) + (j : Int) := IntWalk.i64_in _ (by omega)
                    have hw5 : IntKind.i64.wrap ((a : Int) + (j : Int) + 1) = (a : Int) + (j : Int) + 1 := IntWalk.i64_in _ (by omega)
                    have hw6 : IntKind.i64.wrap (x0 + ((a : Int) + (j : Int) + 1)) = x0 + ((a : Int) + (j : Int) + 1) := IntWalk.i64_in _ (by omega)
                    obtain ⟨y, hy⟩ : ∃ y, l1[a + j]? = some y := ⟨_, List.getElem?_eq_getElem (by have := HI1.out.1.1; have := Hm.out; omega)⟩
                    have hy2 : (numb (x0 + (a : Int)) ((l1.take n).drop a))[j]? = some (y.no (x0 + ((a : Int) + (j : Int) + 1))) := by
                      rw [numb_get _ _ j y (by rw [List.getElem?_drop, List.getElem?_take, if_pos (by have := Hm.out; omega)]; exact hy), show x0 + (a : Int) + (j : Int) + 1 = x0 + ((a : Int) + (j : Int) + 1) by omega]
                    obtain ⟨ys, yb, yd, yc, yn⟩ := y
                    obtain ⟨b1, o1, ha1, hb1, g0, g1, g2, g3, g4⟩ := (HI1.out.1.below (HR4.out.be.trans (HBz.out.mono HR4.out.be.size)) (Nat.le_refl _)).at hy
                    obtain ⟨b2, o2, ha2, hb2, p0, p1, p2, p3, p4⟩ := (HRd4.out.below HBz.out (Nat.le_refl _)).at hy2
                    simp only [It.no] at p0 p1 p2 p3 p4 g0 g1 g2 g3 g4
                    subst ha1 ha2
                    have hm := it_guard
                    have hp := it_held
                    clear hy hy2
                    go_wp2
                    go_quiet (fail)
                    go_wp2
                    go_roundw
                    case rel => exact ⟨j + 1, by omega, by go_num, (HBz.out.alloc HBz.out.size _).drewB _⟩
                    case measure => simp [intOf]; omega
                  · have hjm : j = m := by omega
                    subst hjm
                    clear hjl
                    go_wp2
                    go_roundw
                    case rel => exact ⟨a, i + 1, by omega, by omega, HAA.out, rfl, by go_num, HR4.out.below HBz.out⟩
                    case measure => simp [intOf]; omega
            · have hnot : (¬ i < n2) ∨ (i < n2 ∧ ¬ i < 100) := by omega
              clear hil
              rcases hnot with h9 | ⟨h8, h9⟩
              · have g1 : decide ((i : Int) < (n2 : Int)) = false := by simpa using h9
                go_wp2
                go_ret
                exact ⟨rfl, HRx.out.be⟩
              · have g1 : (i : Int) < (n2 : Int) := by omega
                have g2 : decide ((i : Int) < 100) = false := by simp; omega
                go_wp2
                go_ret
                exact ⟨rfl, HRx.out.be⟩

set_option maxRecDepth 100000 in
theorem lifted (os : Os) (started : os.Started) (H : Type) (enc : TypeId × Value → H) :
    ReturnsInHanded {} Try.checked os 7 .any (Rows.mirrorLeftSpec.pre6 enc Try.prog Try.f7 Rows.mirrorLeftRow.domain false) (Rows.mirrorLeftSpec.post enc Try.prog Try.f7 false true false false) := by
  refine returnsInHanded_of_change (C := Try.checked) own started (by kernel_rfl) Try.func7
    (ChangeSpec.witness6 (enc := enc) (C := Try.checked) false ⟨#[], #[.int .i64 0, .slice none 0 0, .slice none 0 0], []⟩ 8 (by kernel_rfl) (by kernel_rfl) (by kernel_rfl) (by kernel_rfl)) ?_
  intro W base args ds gs before hval0 hW hcnd _
  have hval : ∀ (j : Nat) t v, Try.f7.params[j]? = some t → args[j]? = some v → Value.okWide Try.prog W .any base t v := hval0
  have hW' := hW
  obtain ⟨p, q, hA0, hV, rfl, hfz, hnd⟩ := hW
  have hA : DataW.TrodAll enc Try.prog W 0 (fun _ => true) true Try.f7.params.toList args.toList ds p := hA0
  rw [Try.params7] at hA hval
  obtain ⟨v0, vs0, d0, ds0, p0, q0, hargs, rfl, rfl, h0, r0'⟩ := trodAll_cons hA
  obtain ⟨v1, vs1, d1, ds1, p1, q1, rfl, rfl, rfl, h1, r1'⟩ := trodAll_cons r0'
  obtain ⟨v2, vs2, d2, ds2, p2, q2, rfl, rfl, rfl, h2, r2'⟩ := trodAll_cons r1'
  obtain ⟨rfl, rfl, rfl⟩ := trodAll_nil r2'
  obtain rfl : args = #[v0, v1, v2] := by cases args; simp_all
  obtain ⟨rfl, rfl⟩ := trodVars_none hV
  obtain ⟨x0, rfl, rfl, rfl, w0⟩ := open_int Try.underlying2 (hval 0 2 v0 rfl rfl) h0
  have k1 := h1
  have lt1 : ∀ x ∈ p1, x.block < W.heap.size := by obtain ⟨m, hm⟩ := k1; exact DataW.trod_lt m _ _ _ hm
  obtain ⟨a1, n1, c1, l1, rfl, w1⟩ := Mr.open_items h1 (okWide_slice Try.underlying36 (hval 1 36 v1 rfl rfl))
  have k2 := h2
  have lt2 : ∀ x ∈ p2, x.block < W.heap.size := by obtain ⟨m, hm⟩ := k2; exact DataW.trod_lt m _ _ _ hm
  obtain ⟨a2, n2, c2, l2, rfl, w2⟩ := Mr.open_bytes h2 (okWide_slice Try.underlying47 (hval 2 47 v2 rfl rfl))
  clear hA0 hval0
  refine (walk x0 a1 n1 c1 l1 a2 n2 c2 l2 W w0 w1 w2).mono fun e W' ⟨he, bel⟩ => ?_
  subst he
  exact ⟨_, rfl, _, _, _, [], _, [], hW', trodAll_mk1 (shut_bool Try.underlying4 _), (trodAll_cons_mk (shut_int Try.underlying2 w0) (trodAll_cons_mk (Below.trod laidOut (by kernel_rfl) (of_decide_eq_true (by kernel_rfl)) k1 bel lt1) (trodAll_cons_mk (Below.trod laidOut (by kernel_rfl) (of_decide_eq_true (by kernel_rfl)) k2 bel lt2) trodAll_mk0))), rfl, bel.frame _, fun h => by cases h⟩

theorem over : Rows.mirrorLeftRow.holds Try.pinned (OpenSpec.ofChange Rows.mirrorLeftSpec) :=
  OpenClaim.holds_of_wide 7 Try.f7 rfl rfl rfl rfl rfl rfl rfl ⟨rfl, rfl, rfl, rfl, rfl⟩ rfl rfl rfl rfl rfl (by kernel_rfl) Try.func7 (by kernel_rfl)
    (of_decide_eq_true (by kernel_rfl)) (by unfold Func.isWrapper; first | (rw [if_pos (by decide +kernel)]; kernel_rfl) | (rw [if_neg (by decide +kernel)]; exact ⟨rfl, rfl⟩))
    (fun os started H enc _ => lifted os started H enc)

/-- the statement -/
theorem proved : Rows.MirrorLeftSaid := over
#print axioms proved
end Go.Proofs.Ytcnmkojlledipaa.mirrorLeft
