/-
  What Barrier tells, and what becomes of the device in memory.
-/
import Derived.Test.YtpoolpckabpnfaaGreatSDev3
namespace Go.Proofs.YtpoolpckabpnfaaGreat
open Go.RowKit Go.Maps
set_option linter.unusedVariables false
set_option linter.unusedSimpArgs false
set_option maxRecDepth 20000

variable {dB sB mB n : Nat} {d : M.Dv}

theorem DevAt.same {w : World} {d' : M.Dv} (h : DevAt w dB sB mB n d) (h1 : ∀ i, d.S i = d'.S i) (h2 : ∀ i, d.P i = d'.P i) (h3 : d.dead = d'.dead) (h4 : d.fuse = d'.fuse) : DevAt w dB sB mB n d' := by
  obtain ⟨S, P, de, fu⟩ := d
  obtain ⟨S', P', de', fu'⟩ := d'
  obtain rfl : S = S' := funext h1
  obtain rfl : P = P' := funext h2
  obtain rfl : de = de' := h3
  obtain rfl : fu = fu' := h4
  exact h

/-- behind changes to blocks that are new -/
theorem But.trans' {l : List Nat} {a b c : World} {k : Nat} (h : But l a b) (h2 : But [k] b c) (hk : a.heap.size ≤ k) : But l a c :=
  ⟨h2.os.trans h.os, h2.tape.trans h.tape, h2.output.trans h.output, Nat.le_trans h.size h2.size, fun i hi hn => (h2.block i (Nat.lt_of_lt_of_le hi h.size) (by simp; omega)).trans (h.block i hi hn)⟩

theorem _root_.Go.World.ranges.but {w w' : World} {b r N : Nat} {D : DataW Unit} {left : Lit → Bool} {cnt : Nat} (h : w.ranges (H := Unit) Tryz.prog 3 secR b r N D left cnt) {l : List Nat} (hb : But l w w') (h1 : b ∉ l) (h2 : r ∉ l) : w'.ranges (H := Unit) Tryz.prog 3 secR b r N D left cnt := by
  have l1 := h.owns.lt
  have l2 := h.lt
  obtain ⟨es, clock, since, seen, c0, hb1, F, hs, hD, hr, rest⟩ := h
  exact ⟨es, clock, since, seen, c0, (hb.block b l1 h1).trans hb1, F, hs, hD, (hb.block r l2 h2).trans hr, rest⟩

/-- the sectors while a barrier is under way: those that are still to come are as they were -/
def M.part (d : M.Dv) (left : Lit → Bool) : Nat → M.Sec := fun j => if left (.int .i64 (j : Int)) then d.S j else M.sure d j

theorem part_start {D : DataW Unit} (h : Reads D d.P) (i : Nat) : d.S i = M.part d (has D) i := by
  unfold M.part M.sure
  cases hp : d.P i with
  | none => simp
  | some s => rw [h.2.1, hp]; simp
theorem part_end {left : Lit → Bool} (h : ∀ kl, left kl = false) (i : Nat) : M.part d left i = M.sure d i := by
  unfold M.part; rw [h]; rfl
theorem part_step {left : Lit → Bool} {j : Nat} {s : M.Sec} (hs : d.P j = some s) (i : Nat) : (if i = j then s else M.part d left i) = M.part d (fun z => left z && !z.sameKey (.int .i64 (j : Int))) i := by
  unfold M.part M.sure
  by_cases e : i = j
  · subst e
    rw [if_pos rfl, hs]
    have : (Lit.int .i64 (i : Int)).sameKey (.int .i64 (i : Int)) = true := by simp [Lit.sameKey]
    simp [this]
  · rw [if_neg e]
    have : (Lit.int .i64 (i : Int)).sameKey (.int .i64 (j : Int)) = false := sameKey_ne (by intro h; injection h with _ h; omega)
    simp [this]

set_option maxHeartbeats 2000000 in
theorem barrier_any (w : World) (h : DevAt w dB sB mB n d) :
    Calls Tryz.prog 105 #[.pointer (some ⟨dB, 0, none⟩)] w fun e w' => e = .returned (.int .i64 (M.barrierE d)) ∧ DevAt w' dB sB mB n (M.barrierD d) ∧ But [dB, sB, mB] w w' := by
  have HD := Lib.hid h
  have hdead := h.dead
  unfold M.barrierE M.barrierD
  cases hd : d.dead with
  | true =>
    rw [hd] at hdead
    have Hd := Lib.hid hd
    clear hd h
    go_enter Tryz.func105, Tryz.ntmps105
    go_wp2
    go_ret
    exact ⟨rfl, HD.out, But.refl _ _⟩
  | false =>
    rw [hd] at hdead
    have Hd := Lib.hid hd
    clear hd
    have HA := Lib.hid (act_any w h)
    unfold M.actE at HA ⊢
    simp only [Bool.false_eq_true, if_false]
    by_cases c4 : d.fuse = 0
    · simp only [if_pos c4] at HA ⊢
      clear h c4
      go_enter Tryz.func105, Tryz.ntmps105
      go_wp2_with (go_at_call 46; refine HA.out.mono ?_; rintro e w1 ⟨rfl, hd1, hb1⟩; have HD1 := Lib.hid hd1; have HB1 := Lib.hid hb1; clear hd1 hb1)
      go_ret
      exact ⟨rfl, HD1.out, HB1.out.mono (by simp)⟩
    · simp only [if_neg c4] at HA ⊢
      clear h c4
      have HSP := Lib.hid (And.intro (M.act_S d) (M.act_P d))
      generalize M.actD d = d1 at HA HSP ⊢
      go_enter Tryz.func105, Tryz.ntmps105
      go_wp2_with (first
        | (go_at_call 46; refine HA.out.mono ?_; rintro e w1 ⟨rfl, hd1, hb1⟩; have HD1 := Lib.hid hd1; have HB1 := Lib.hid hb1; have hmap := hd1.map; obtain ⟨N, D, hown, hrd⟩ := hd1.pend; have HO := Lib.hid hown; have HRd := Lib.hid hrd; clear hd1 hb1 hown hrd)
        | (at_range; refine wpList_range_own _ rfl (.tmp 18) 60 rfl 3 95 (int_keyed Tryz.underlying3) Tryz.underlying60 secR mB N D rfl HO.out ?_; intro w0 hrg0 hg0 hs0))
      go_frame
      have HB0 : Hid (But [dB, sB, mB] w w0) := Lib.hid ((HB1.out.mono (by simp)).grown hg0 (by simp))
      have HD0 : Hid (DevAt w0 dB sB mB n { d1 with S := M.part d1 (has D) }) := Lib.hid ((HD1.out.but ((But.refl [] _).grown hg0 (by simp)) (by simp) (by simp) (by simp)).same (part_start HRd.out) (fun _ => rfl) rfl rfl)
      have HRg0 := Lib.hid hrg0
      have Hr : Hid (w1.heap.size ≠ dB ∧ w1.heap.size ≠ sB ∧ w1.heap.size ≠ mB) := Lib.hid ⟨by have := HD1.out.ltD; omega, by have := HD1.out.lt; omega, by have := HD1.out.pend.lt; omega⟩
      have Hrw : Hid (w.heap.size ≤ w1.heap.size) := Lib.hid HB1.out.size
      generalize w1.heap.size = r at *
      clear hrg0 hg0 hs0 hmap hdead
      go_loopw [4, 5] (fun _ _ wr => ∃ (left : Lit → Bool) (cnt : Nat), wr.ranges (H := Unit) Tryz.prog 3 secR mB r N D left cnt ∧ DevAt wr dB sB mB n { d1 with S := M.part d1 left } ∧ But [dB, sB, mB] w wr) (fun _ _ wr => wr.rangeLeft mB r)
      case atStart => exact ⟨_, _, HRg0.out, HD0.out, HB0.out⟩
      case round =>
        obtain ⟨left, cnt, hrg, hdv, hbw⟩ := hrel
        obtain ⟨w9, hclr, hm9, hb9⟩ := mapis_clear hdv.pend 1
        have hc : ∀ ty, (Builtin.clear_ #[60] ty #[.map (some mB)]).run Tryz.prog wr = .ok (.tuple #[]) w9 := fun ty => hclr
        have hmap := hdv.map
        have HDv := Lib.hid hdv
        have HBw := Lib.hid hbw
        have HRg := Lib.hid hrg
        have H9 := Lib.hid (And.intro hm9 hb9)
        clear hclr hm9 hb9 hdv hbw hrg HA HB0 HD0 HRg0
        go_wp2_with (at_next; refine wpList_next_ranges _ rfl (.tmp 19) rfl 3 (int_keyed Tryz.underlying3) secR (Value.int .i64) (fun s : List UInt8 => .agg (u8s s).toArray) (fun key kl hk => by obtain ⟨x, hx, _⟩ := Maps.keyOf_i64 Tryz.underlying3 hk; exact ⟨x, hx⟩) (fun v y hv => by obtain ⟨s, _, hs, _⟩ := secR_inv hv; exact ⟨s, hs⟩) mB r N D left cnt rfl HRg.out ?_ ?_)
        · intro hc0 hl0
          have HL0 := Lib.hid hl0
          clear hc0 hl0
          go_wp2
          go_ret
          have hk := HDv.out.setMap H9.out.2 H9.out.1 (fun k s hk => by simp at hk)
          refine ⟨rfl, hk.same (fun i => ?_) (fun _ => rfl) rfl rfl, HBw.out.trans (H9.out.2.mono (by simp))⟩
          show M.part d1 left i = M.sure d i
          rw [part_end HL0.out]
          unfold M.sure
          rw [HSP.out.1, HSP.out.2]
        · intro x c kl yd yp w2 cnt2 hkey hlk hv hat hrg2 hlt hg2 hs2 hen
          obtain ⟨x', ex, rfl, hwx⟩ := Maps.keyOf_i64 Tryz.underlying3 hkey
          obtain rfl : x = x' := encZ_inj ex
          obtain ⟨s, hsl, hcs, hyy⟩ := secR_inv hv
          injection hyy with hy1 hy2
          subst hy1 hy2
          obtain rfl : c = s := u8s_inj (List.toArray_inj (Value.agg.inj hcs))
          have hPx : d1.P x = some c := by
            have hx1 := has_true_of_atKey hat
            rw [HRd.out.2.1] at hx1
            obtain ⟨t, ht⟩ := Option.isSome_iff_exists.1 hx1
            have h2 := HRd.out.2.2 x t ht (.lit (.string []))
            rw [hat] at h2
            injection h2 with h2
            injection h2 with h2
            rw [ht, h2]
          obtain ⟨hx0, hxn, _⟩ := HDv.out.wf.pend x c hPx
          obtain ⟨j, rfl⟩ : ∃ j : Nat, x = (j : Int) := ⟨x.toNat, by omega⟩
          have hjn : j < n := by omega
          have HD2 := Lib.hid (HDv.out.but ((But.refl [r] _).grown hg2 (by simp)) (by have := Hr.out.1; simp; omega) (by have := Hr.out.2.1; simp; omega) (by have := Hr.out.2.2; simp; omega))
          have HB2 : Hid (But [dB, sB, mB] w w2) := Lib.hid (HBw.out.grown hg2 (fun k hk => by injection hk with hk; subst hk; exact .inr Hrw.out))
          have HX := Lib.hid (And.intro hPx (And.intro hsl hjn))
          have HG2 := Lib.hid (And.intro hg2 (And.intro hrg2 hlt))
          clear ex hwx hcs hv hkey hlk hat hPx hsl hg2 hrg2 hlt hmap hc hs2
          go_wp2_with (first
            | (refine wpList_alloc_sec rfl rfl ?_; intro w3 hw3
               obtain ⟨g1, g2, g3, g4⟩ := sec_new w2 hw3
               have Hg := Lib.hid (And.intro g1 (And.intro g2 (And.intro g3 (g4 [w2.heap.size]))))
               clear hw3 g1 g2 g3 g4)
            | (refine wpList_store_sec rfl (.tmp 5) (.tmp 24) rfl w2.heap.size 0 rfl c rfl HX.out.2.1 Hg.out.2.1 ?_
               have hb4 := Hg.out.2.2.2.sets w2.heap.size 0 (u8s c) (.inl (by simp))
               have HRow := Lib.hid (World.rangeAt_setCells_same w3 w2.heap.size 0 (u8s c) (by rw [u8s_length, HX.out.2.1]; exact Hg.out.2.1))
               have HD4 := Lib.hid (HD2.out.but hb4 (by have := HD2.out.ltD; simp; omega) (by have := HD2.out.lt; simp; omega) (by have := HD2.out.pend.lt; simp; omega))
               have HB4 : Hid (But [dB, sB, mB] w (w3.setCells w2.heap.size 0 (u8s c))) := Lib.hid (HB2.out.trans' hb4 HB2.out.size)
               have HG4 := Lib.hid (HG2.out.2.1.but hb4 (by have := HG2.out.2.1.owns.lt; simp; omega) (by have := HG2.out.2.1.lt; simp; omega))
               clear hb4
               generalize w3.setCells w2.heap.size 0 (u8s c) = w4 at *))
          have hsec4 := HD4.out.sec
          have hj0 : (0 : Int) ≤ (j : Int) := by omega
          have hj1 : (j : Int) < (n : Int) := by omega
          refine wp_region_still_tail 7 (by kernel_rfl) (by kernel_rfl) ?_
          simp only [List.take_succ_cons, List.take_zero, List.drop_succ_cons, List.drop_zero]
          iterate 5 still_step
          refine wpStill_load_sec rfl (.tmp 5) rfl w2.heap.size 0 rfl c HX.out.2.1 (rangeAt_block HRow.out rfl) ?_
          still_step
          refine wpStill_nil ?_
          have HD5 := Lib.hid HD4.out.drew
          have HB5 := Lib.hid HB4.out.drew
          have HG5 := Lib.hid (HG4.out.but ((But.refl [] w4).drew) (by simp) (by simp))
          refine wpList_store_sec rfl (.tmp 31) (.tmp 30) rfl sB (j * 144) rfl c rfl HX.out.2.1 (fun k hk => by have := HD5.out.there (j * 144 + k) (by have : (j + 1) * 144 ≤ n * 144 := Nat.mul_le_mul_right _ HX.out.2.2; omega); simpa using this) ?_
          have HD6 := Lib.hid (HD5.out.setSec HX.out.2.2 (l := c) (by rw [HX.out.2.1]; omega))
          have HB6 := Lib.hid (HB5.out.sets sB (j * 144) (u8s c) (.inl (by simp)))
          have HG6 := Lib.hid (HG5.out.but ((But.refl [sB] _).sets sB (j * 144) (u8s c) (.inl (by simp))) (by have := HD5.out.sm; simp; omega) (by have := Hr.out.2.1; simpa using this))
          go_wp2
          go_roundw
          case rel =>
            refine ⟨_, ⟨cnt2, HG6.out⟩, HD6.out.same (fun i => ?_) (fun _ => rfl) rfl rfl, HB6.out⟩
            refine Eq.trans (b := if i = j then c else M.part d1 left i) ?_ (part_step HX.out.1 i)
            show (if i = j then c ++ (M.part d1 left i).drop c.length else M.part d1 left i) = _
            split
            · rw [List.drop_of_length_le (by rw [HX.out.2.1]; have := HDv.out.wf.len i; exact Nat.le_of_eq this), List.append_nil]
            · rfl
          case measure => rw [HG6.out.left_eq, HRg.out.left_eq]; exact HG2.out.2.2
end Go.Proofs.YtpoolpckabpnfaaGreat
