/-
  The limits of a message's numbers, the lengths of its texts, and whether numbers are within limits.
-/
import Derived.Test.YtpoolpckabpnfaaGreatMlMem
import Derived.Test.YtpoolpckabpnfaaGreatCAwake
namespace Go.Proofs.YtpoolpckabpnfaaGreat.Ml
open Go.RowKit
open C (Row Own i64s strs row_below row_i64 row_str own_nil own_below)
set_option linter.unusedVariables false
set_option linter.unusedSimpArgs false
set_option maxRecDepth 20000

theorem wpList_append_i64 (w : World) {ops : Array Oper} {rest : List Oper} {o : Oper} {act : Act} {Q : Exit → Act → World → Prop} (hgd : o.guard = none) (s x : Operand)
    (ho : o.op = .call { callee := .builtin .append, args := #[s, x], argTypes := #[77, 77] })
    (B : Nat) (a : Option Addr) (n cap : Nat) (l : List Int) (hs : act.eval s = .slice a n cap) (hown : Own 2 w B a n cap (i64s l))
    (A : Option Addr) (m c : Nat) (y : List Int) (hx : act.eval x = .slice A m c) (hr : Row w A m c (i64s y)) (hsum : n + m ≤ 1048576) (hB : B ≤ w.heap.size)
    (h : ∀ a' cap' w', Own 2 w' B a' (n + m) cap' (i64s (l ++ y)) → Below B w w' → wpList Tryz.prog ops Q rest (act.put o.dst (.slice a' (n + m) cap')) w') : wpList Tryz.prog ops Q (o :: rest) act w := by
  refine wpList_plain hgd fun K hK => ?_
  obtain ⟨a', cap', w', hrun, h2, h3, _, _⟩ := C.run_append_i64 w o.type B a n cap l hown A m c y hr hsum hB
  unfold Oper.wp execOp
  simp only [ho, resolve, invoke, builtin, Sem.run_bind, Sem.run_pure, Result.andThen_ok, List.map_toArray, List.map_cons, List.map_nil, hs, hx, hrun]
  exact hK _ _ (h a' cap' w' h2 h3)

theorem bDrewN {B : Nat} {w w' : World} (h : Below B w w') (n : Nat) : Below B w (w'.drewN n) := ⟨h.os, h.tape, h.output, h.size, h.block⟩

/-- a row as it was just made -/
theorem ownM_lit {w : World} {g : Nat} {l : List Lm} (h : w.heap[g]? = some (.cells (lms l).toArray 138)) (hl : l.length ≤ 1000) : OwnM w (some ⟨g, 0, none⟩) l.length l := by
  refine .inr ⟨g, (lms l).toArray, rfl, h, Nat.le_refl _, by simp [maxLen]; omega, by simp [lms_length], ?_⟩
  rw [← lms_length]; simp
theorem rdM_one {w : World} {g : Nat} {x : Lm} (h : w.heap[g]? = some (.cells #[.int .i64 x.lo, .int .i64 x.hi] 138)) : RdM w (some ⟨g, 0, none⟩) 1 [x] := (ownM_lit (l := [x]) h (by simp)).rd

theorem rdM_big (w : World) : RdM (w.alloc (.cells #[.int .i64 0, .int .i64 4611686018427387904] 138)) (some ⟨w.heap.size, 0, none⟩) 1 [⟨0, big⟩] := rdM_one (heap_alloc_new w _)

/-- limits that are being gathered -/
structure LR (w wr : World) (a : Option Addr) (cap : Nat) (l : List Lm) : Prop where
  own : OwnM wr a cap l
  be : Below w.heap.size w wr
  new : w.heap.size ≤ blk w.heap.size a
theorem LR.alloc {w wr : World} {a : Option Addr} {cap : Nat} {l : List Lm} (h : LR w wr a cap l) (o : Obj) : LR w (wr.alloc o) a cap l :=
  ⟨h.own.below ((Below.refl _ _).alloc (Nat.le_refl _) o) (Nat.le_refl _), h.be.alloc h.be.size o, h.new⟩
theorem LR.app {w wr w' : World} {a a' : Option Addr} {n cap cap' : Nat} {l l' : List Lm} (h : LR w wr a cap l) (o : OwnM w' a' cap' l') (g : wr.grownBy w' (Value.slice a n cap).ownBlock) (an : Anew wr a a') : LR w w' a' cap' l' := by
  refine ⟨o, ?_, ?_⟩
  · exact Below.grown h.be g h.be.size fun k hk => by
      rw [own_row (p := w.heap.size) hk]; exact h.new
  · rcases an.blk w.heap.size with e | e
    · rw [e]; exact h.new
    · exact Nat.le_trans h.be.size e
theorem take_lims {k : Nat} (h : k < 4) : lims.take (6 + k) ++ [⟨0, big⟩] = lims.take (6 + k + 1) := by
  rcases k with _ | _ | _ | _ | k
  · rfl
  · rfl
  · rfl
  · rfl
  · omega
theorem len_lims {k : Nat} (h : k ≤ 4) : (lims.take (6 + k)).length = 6 + k := by simp [lims]; omega

set_option maxHeartbeats 1000000 in
theorem limits_any (w : World) : Calls Tryz.prog 75 #[] w fun e w' => ∃ a cap, e = .returned (.slice a 10 cap) ∧ RdM w' a 10 lims ∧ Below w.heap.size w w' := by
  go_enter Tryz.func75, Tryz.ntmps75
  go_wp2
  go_loopw [1, 9] (fun l i wr => ∃ (k : Nat) (a : Option Addr) (cap : Nat), k ≤ 4 ∧ i = .int .i64 (k : Int) ∧ l = .slice a (6 + k) cap ∧ LR w wr a cap (lims.take (6 + k))) (fun _ i _ => 4 - (intOf i).toNat)
  case atStart => exact ⟨0, _, _, by omega, rfl, rfl, ⟨ownM_lit (l := lims.take 6) (heap_alloc_new w _) (by simp [lims]), (Below.refl _ _).alloc (Nat.le_refl _) _, Nat.le_refl _⟩⟩
  case round =>
    obtain ⟨k, a, cap, hk, rfl, rfl, hr⟩ := hrel
    have HR := Lib.hid hr
    clear hr
    by_cases hlt : k < 4
    · have hltI : (k : Int) < 4 := by omega
      have HL := Lib.hid (len_lims hk)
      have HT := Lib.hid (take_lims hlt)
      go_wp2_with (at_builtin
                   refine wpList_append_M _ rfl (.tmp 11) (.tmp 13) rfl a (6 + k) cap _ rfl HL.out (HR.out.alloc _).own _ 1 1 [⟨0, big⟩] rfl (rdM_big wr) (by omega) ?_
                   intro a' c' w5 o g an
                   have H5 : Hid (LR w w5 a' c' (lims.take (6 + k + 1))) := Lib.hid ((HR.out.alloc _).app (by rw [← HT.out]; exact o) g an)
                   clear o g an)
      go_roundw
      case rel => exact ⟨k + 1, a', c', by omega, by go_num, rfl, H5.out⟩
      case measure => simp [intOf]; omega
    · obtain rfl : k = 4 := by omega
      go_wp2
      go_ret
      exact ⟨a, cap, rfl, HR.out.own.rd, HR.out.be⟩

set_option maxHeartbeats 1000000 in
theorem lengths_any (w : World) (a : Option Addr) (n cap : Nat) (ts : List ByteArray) (h : Row w a n cap (strs ts)) (hn : n ≤ 1000) :
    Calls Tryz.prog 76 #[.slice a n cap] w fun e w' => ∃ a' cap', e = .returned (.slice a' n cap') ∧ Own 2 w' w.heap.size a' n cap' (i64s (sizes ts)) ∧ Below w.heap.size w w' := by
  have H := Lib.hid h
  have HLn : Hid (ts.length = n) := Lib.hid (by have := h.1; rw [C.strs_length] at this; exact this)
  have hcap := h.2.1
  have hmax := h.2.2.1
  clear h
  go_enter Tryz.func76, Tryz.ntmps76
  go_wp2
  go_loopw [3, 8] (fun l i wr => ∃ (k : Nat) (a : Option Addr) (cap : Nat), k ≤ n ∧ i = .int .i64 (k : Int) ∧ l = .slice a k cap ∧ Own 2 wr w.heap.size a k cap (i64s (sizes (ts.take k))) ∧ Below w.heap.size w wr) (fun _ i _ => n - (intOf i).toNat)
  case atStart => exact ⟨0, none, 0, by omega, rfl, rfl, by simpa [sizes, i64s] using own_nil 2 w w.heap.size, Below.refl _ _⟩
  case round =>
    obtain ⟨k, a2, cap2, hk, rfl, rfl, ho, hb⟩ := hrel
    have HO := Lib.hid ho
    have HB := Lib.hid hb
    clear ho hb
    by_cases hlt : k < n
    · have hltI : (k : Int) < (n : Int) := by omega
      obtain ⟨b, off, t, rfl, hbw, ht, hc0⟩ := row_str H.out k hlt
      have hc : wr.cell? ⟨b, off + k, none⟩ = some (.string t) := by
        rw [HB.out.cell (p := ⟨b, off + k, none⟩) hbw]; exact hc0
      have HT := Lib.hid ht
      clear ht hc0 hbw
      go_wp2_with (at_builtin
                   refine wpList_append_i64 _ rfl (.tmp 12) (.tmp 15) rfl w.heap.size a2 k cap2 _ rfl (own_below HO.out ((Below.refl _ _).alloc (Nat.le_refl _) _) (Nat.le_refl _)) _ 1 1 [(t.size : Int)] rfl (C.row_i64_new wr (t.size : Int)) (by omega) (by have := HB.out.size; simp; omega) ?_
                   intro a3 c3 w3 o3 b3
                   have O3 := Lib.hid o3
                   have B3 := Lib.hid ((HB.out.alloc HB.out.size _).trans b3)
                   clear o3 b3)
      go_roundw
      case rel => exact ⟨k + 1, a3, c3, by omega, by go_num, rfl, by
        have := O3.out
        rw [C.take_one HT.out]
        simpa [sizes] using this, B3.out⟩
      case measure => simp [intOf]; omega
    · obtain rfl : k = n := by omega
      have hge : (k : Int) ≤ (k : Int) := Int.le_refl _
      go_wp2
      go_ret
      exact ⟨a2, cap2, rfl, by
        have := HO.out
        rw [List.take_of_length_le (by rw [HLn.out]; exact Nat.le_refl _)] at this
        exact this, HB.out⟩

set_option maxHeartbeats 2000000 in
theorem within_any (w : World) (a : Option Addr) (n cap : Nat) (ns : List Int) (b : Option Addr) (m c : Nat) (xs : List Lm) (h : Row w a n cap (i64s ns)) (g : RdM w b m xs) (hn : n ≤ 1000) (hm : m ≤ 1000) :
    Calls Tryz.prog 74 #[.slice a n cap, .slice b m c] w fun e w' => e = .returned (.bool (win ns xs)) ∧ Below w.heap.size w w' := by
  have H := Lib.hid h
  have G := Lib.hid g
  have HN : Hid (ns.length = n) := Lib.hid (by have := h.1; rw [C.i64s_length] at this; exact this)
  have HM : Hid (xs.length = m) := Lib.hid g.1
  have hcap := h.2.1
  have hmax := h.2.2.1
  clear h g
  by_cases he : n = m
  · subst he
    go_enter Tryz.func74, Tryz.ntmps74
    go_wp2
    go_loopw [14] (fun i wr => ∃ (k : Nat), k ≤ n ∧ i = .int .i64 (k : Int) ∧ (∀ (j : Nat) (v : Int) (x : Lm), j < k → ns[j]? = some v → xs[j]? = some x → x.lo ≤ v ∧ v ≤ x.hi) ∧ Below w.heap.size w wr) (fun i _ => n - (intOf i).toNat)
    case atStart => exact ⟨0, by omega, rfl, fun j v x hj => by omega, Below.refl _ _⟩
    case round =>
      obtain ⟨k, hk, rfl, hall, hb⟩ := hrel
      have HA := Lib.hid hall
      have HB := Lib.hid hb
      clear hall hb
      by_cases hlt : k < n
      · have hltI : (k : Int) < (n : Int) := by omega
        obtain ⟨b1, o1, v, rfl, hb1, hv, hc1⟩ := row_i64 H.out k hlt
        obtain ⟨⟨lo, hi⟩, hx⟩ : ∃ x, xs[k]? = some x := ⟨_, List.getElem?_eq_getElem (by rw [HM.out]; exact hlt)⟩
        obtain ⟨b2, o2, rfl, hb2, hc2, hc3⟩ := G.out.at hx
        simp only at hc2 hc3
        have d1 : wr.cell? ⟨b1, o1 + k, none⟩ = some (.int .i64 v) := (HB.out.cell (p := ⟨b1, o1 + k, none⟩) hb1).trans hc1
        have d2 : wr.cell? ⟨b2, o2 + k * 2, none⟩ = some (.int .i64 lo) := (HB.out.cell (p := ⟨b2, o2 + k * 2, none⟩) hb2).trans hc2
        have d3 : wr.cell? ⟨b2, o2 + k * 2 + 1, none⟩ = some (.int .i64 hi) := (HB.out.cell (p := ⟨b2, o2 + k * 2 + 1, none⟩) hb2).trans hc3
        have HV := Lib.hid hv
        have HX := Lib.hid hx
        have hbr1 : b1 < wr.heap.size := Nat.lt_of_lt_of_le hb1 HB.out.size
        clear hv hx hc1 hc2 hc3 hb1 hb2
        go_wp2
        by_cases h1 : v < lo
        · have e1 : decide (v < lo) = true := decide_eq_true h1
          have HO := Lib.hid (win_out HV.out HX.out (by simp only; omega))
          clear h1
          go_quiet (fail)
          go_wp2
          go_ret
          exact ⟨by rw [HO.out]; rfl, by repeat (first | with_reducible exact HB.out | refine Below.drew ?_ | refine bDrewN ?_ _ | refine Below.setCell ?_ (by have := HB.out.size; simp; try omega) _ | refine Below.alloc ?_ (by have := HB.out.size; simp; try omega) _)⟩
        · have e1 : decide (v < lo) = false := decide_eq_false h1
          by_cases h2 : hi < v
          · have e2 : decide (hi < v) = true := decide_eq_true h2
            have HO := Lib.hid (win_out HV.out HX.out (by simp only; omega))
            clear h1 h2
            go_quiet (fail)
            go_wp2
            go_ret
            exact ⟨by rw [HO.out]; rfl, by repeat (first | with_reducible exact HB.out | refine Below.drew ?_ | refine bDrewN ?_ _ | refine Below.setCell ?_ (by have := HB.out.size; simp; try omega) _ | refine Below.alloc ?_ (by have := HB.out.size; simp; try omega) _)⟩
          · have e2 : decide (hi < v) = false := decide_eq_false h2
            have HO : Hid (lo ≤ v ∧ v ≤ hi) := Lib.hid (by omega)
            clear h1 h2
            go_quiet (fail)
            go_wp2
            go_roundw
            case rel => exact ⟨k + 1, by omega, by go_num, fun j v' x' hj hv' hx' => by
              by_cases hjk : j = k
              · subst hjk
                rw [HV.out] at hv'; injection hv' with hv'; subst hv'
                rw [HX.out] at hx'; injection hx' with hx'; subst hx'
                exact HO.out
              · exact HA.out j v' x' (by omega) hv' hx', by repeat (first | with_reducible exact HB.out | refine Below.drew ?_ | refine bDrewN ?_ _ | refine Below.setCell ?_ (by have := HB.out.size; simp; try omega) _ | refine Below.alloc ?_ (by have := HB.out.size; simp; try omega) _)⟩
            case measure => simp [intOf]; omega
      · obtain rfl : k = n := by omega
        have hge : (k : Int) ≤ (k : Int) := Int.le_refl _
        go_wp2
        go_ret
        exact ⟨by
          have : win ns xs = true := win_all (HN.out.trans HM.out.symm) fun j v x h1 h2 => HA.out j v x (by rw [← HN.out]; exact (List.getElem?_eq_some_iff.1 h1).1) h1 h2
          rw [this]; rfl, HB.out⟩
  · have hwf : win ns xs = false := by
      cases hw : win ns xs with
      | false => rfl
      | true => have := win_len hw; rw [HN.out, HM.out] at this; exact absurd this he
    have HW := Lib.hid hwf
    have hne : ¬ ((n : Int) = (m : Int)) := by omega
    clear hwf
    go_enter Tryz.func74, Tryz.ntmps74
    go_wp2
    go_ret
    exact ⟨by rw [HW.out]; rfl, Below.refl _ _⟩
end Go.Proofs.YtpoolpckabpnfaaGreat.Ml
