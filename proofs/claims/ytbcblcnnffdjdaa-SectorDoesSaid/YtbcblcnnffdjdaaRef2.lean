/-
  What the document's own Write makes of its device in memory.
-/
import Derived.Test.YtbcblcnnffdjdaaRef1
namespace Go.Proofs.Ytbcblcnnffdjdaa
open Go.RowKit Go.Maps
set_option linter.unusedVariables false
set_option linter.unusedSimpArgs false
set_option maxRecDepth 20000

variable {rB LB n : Nat} {d : M.Dv}

/-! a byte at a time -/
def fillTo (l z : List UInt8) (k : Nat) : List UInt8 := l.take k ++ z.drop k
theorem fill_len {l z : List UInt8} {k : Nat} (h1 : k ≤ l.length) (h2 : k ≤ z.length) : (fillTo l z k).length = z.length := by
  unfold fillTo; rw [List.length_append, List.length_take, List.length_drop]; omega
theorem fill_get {l z : List UInt8} {k : Nat} (h1 : k ≤ l.length) (j : Nat) : (fillTo l z k)[j]? = if j < k then l[j]? else z[j]? := by
  unfold fillTo
  by_cases h : j < k
  · rw [if_pos h, List.getElem?_append_left (by rw [List.length_take]; omega), List.getElem?_take_of_lt h]
  · rw [if_neg h, List.getElem?_append_right (by rw [List.length_take]; omega), List.length_take, List.getElem?_drop, show k + (j - min k l.length) = j by omega]
theorem fill_set {l z : List UInt8} {k : Nat} {c : UInt8} (h1 : l[k]? = some c) (h2 : k < z.length) : (fillTo l z k).set k c = fillTo l z (k + 1) := by
  have hk : k < l.length := (List.getElem?_eq_some_iff.1 h1).1
  apply List.ext_getElem?
  intro j
  rw [fill_get (by omega), List.getElem?_set]
  by_cases hj : k = j
  · subst hj
    rw [if_pos rfl, if_pos (by rw [fill_len (by omega) (by omega)]; exact h2), if_pos (by omega), h1]
  · rw [if_neg hj, fill_get (by omega)]
    by_cases hj2 : j < k
    · rw [if_pos hj2, if_pos (by omega)]
    · rw [if_neg hj2, if_neg (by omega)]

theorem range_set {w : World} {b k : Nat} {z : List UInt8} {c : UInt8} (h : w.rangeAt b 0 (u8s z)) (hk : k < z.length) : (w.setCell ⟨b, k, none⟩ (.int .u8 (c.toNat : Int))).rangeAt b 0 (u8s (z.set k c)) := fun j v hv => by
  have hj : j < z.length := by have := (List.getElem?_eq_some_iff.1 hv).1; rw [u8s_length, List.length_set] at this; exact this
  by_cases e : j = k
  · subst e
    have h0 := h j (u8 z[j]) (by simp [u8s, hj])
    rw [Nat.zero_add] at h0 ⊢
    rw [World.cell?_setCell_same _ _ _ h0]
    simp [u8s, hj] at hv
    rw [← hv]
    rfl
  · rw [World.cell?_setCell_other _ _ _ _ (by intro h; injection h with _ h; omega)]
    refine h j v ?_
    unfold u8s at hv ⊢
    rw [List.getElem?_map, List.getElem?_set_ne (by omega)] at hv
    rw [List.getElem?_map]
    exact hv
theorem there_set {w : World} {b o n : Nat} (h : w.there b o n) (p : Addr) (v : Value) : (w.setCell p v).there b o n := fun j hj => by
  obtain ⟨h1, h2⟩ := h j hj
  refine ⟨?_, by rw [World.frozen?_setCell]; exact h2⟩
  obtain ⟨u, hu⟩ := Option.isSome_iff_exists.1 h1
  by_cases e : p = ⟨b, o + j, none⟩
  · subst e; rw [World.cell?_setCell_same _ _ _ hu]; rfl
  · rw [World.cell?_setCell_other _ _ _ _ e, hu]; rfl

/-! sectors of the reference that are not written -/
theorem RSec.apart {w : World} {j : Nat} (h : RSec w LB j d) (hS : (d.S j).length = 144) {i o : Nat} (vs : List Value) (hne : j ≠ i) (h1 : i * 289 ≤ o) (h2 : o + vs.length ≤ i * 289 + 289) : RSec (w.setCells LB o vs) LB j d := by
  obtain ⟨g1, ⟨x, g2, g3, g4⟩, g5⟩ := h
  have hd : j * 289 + 289 ≤ i * 289 ∨ i * 289 + 289 ≤ j * 289 := by
    rcases Nat.lt_or_gt_of_ne hne with h | h
    · left; have : (j + 1) * 289 ≤ i * 289 := Nat.mul_le_mul_right _ h; omega
    · right; have : (i + 1) * 289 ≤ j * 289 := Nat.mul_le_mul_right _ h; omega
  refine ⟨World.rangeAt_setCells_apart g1 _ _ _ (.inr (by rw [u8s_length, hS]; omega)), ⟨x, g2, World.rangeAt_setCells_apart g3 _ _ _ (.inr (by rw [u8s_length, g2]; omega)), g4⟩, ?_⟩
  rw [World.cell?_setCells_out LB vs o w ⟨LB, j * 289 + 288, none⟩ (fun _ _ => by
    show j * 289 + 288 < o ∨ o + vs.length ≤ j * 289 + 288
    omega)]
  exact g5
theorem RSec.upd {w : World} {j i : Nat} (h : RSec w LB j d) (hne : j ≠ i) (x : M.Sec) : RSec w LB j { d with P := M.upd d.P (i : Int) x } := by
  obtain ⟨g1, ⟨x', g2, g3, g4⟩, g5⟩ := h
  have e : M.upd d.P (i : Int) x (j : Int) = d.P (j : Int) := by unfold M.upd; rw [if_neg (by omega)]
  exact ⟨g1, ⟨x', g2, g3, fun s hs => g4 s (e ▸ hs)⟩, by show _ = some (Value.bool (M.upd d.P (i : Int) x (j : Int)).isSome); rw [e]; exact g5⟩

/-- a sector's pending bytes and its mark are written -/
theorem RefAt.setP {w : World} (h : RefAt w rB LB n d) {i : Nat} (hi : i < n) {x : M.Sec} (hx : x.length = 144) : RefAt ((w.setCells LB (i * 289 + 144) (u8s x)).setCell ⟨LB, i * 289 + 288, none⟩ (.bool true)) rB LB n { d with P := M.upd d.P (i : Int) x } := by
  have hs1 : w.setCells LB (i * 289 + 144) (u8s x ++ [.bool true]) = (w.setCells LB (i * 289 + 144) (u8s x)).setCell ⟨LB, i * 289 + 288, none⟩ (.bool true) := by
    have : ∀ (l : List Value) (o : Nat) (w : World) (v : Value), w.setCells LB o (l ++ [v]) = (w.setCells LB o l).setCell ⟨LB, o + l.length, none⟩ v := by
      intro l
      induction l with
      | nil => intro o w v; rfl
      | cons a l ih => intro o w v; simp only [List.cons_append, World.setCells, List.length_cons]; rw [ih]; congr 2; omega
    rw [this, u8s_length, hx]
  rw [← hs1]
  have hin : i * 289 + 289 ≤ n * 289 := by have : (i + 1) * 289 ≤ n * 289 := Nat.mul_le_mul_right _ hi; omega
  have h1 := heap_setCells LB (u8s x ++ [.bool true]) (i * 289 + 144) w rB h.ne
  have hvl : (u8s x ++ [Value.bool true]).length = 145 := by rw [List.length_append, u8s_length, hx]; rfl
  exact { sec := by rw [World.cell?_of_block (w := w) (a := ⟨rB, 0, none⟩) h1]; exact h.sec
          dead := by rw [World.cell?_of_block (w := w) (a := ⟨rB, 1, none⟩) h1]; exact h.dead
          fuse := by rw [World.cell?_of_block (w := w) (a := ⟨rB, 2, none⟩) h1]; exact h.fuse
          fz := fun o => by rw [World.frozen?_of_block (w := w) (a := ⟨rB, o, none⟩) h1]; exact h.fz o
          ne := h.ne
          lt := by rw [size_setCells]; exact h.lt
          secs := fun j hj => by
            by_cases e : j = i
            · subst e
              obtain ⟨g1, _, _⟩ := h.secs j hj
              have hall := World.rangeAt_setCells_same w LB (j * 289 + 144) (u8s x ++ [.bool true]) (fun k hk => by
                rw [hvl] at hk
                have := h.there (j * 289 + 144 + k) (by omega)
                rw [Nat.zero_add] at this
                exact this)
              refine ⟨World.rangeAt_setCells_apart g1 _ _ _ (.inr (.inl (by rw [u8s_length, h.wf.len j]; omega))), ⟨x, hx, fun k v hk => hall k v (by
                rw [List.getElem?_append_left (List.getElem?_eq_some_iff.1 hk).1]; exact hk), fun s hs => ?_⟩, ?_⟩
              · simp only [M.upd, if_true, Option.some.injEq] at hs
                exact hs
              · have := hall 144 (.bool true) (by rw [List.getElem?_append_right (by rw [u8s_length, hx]; omega), u8s_length, hx]; rfl)
                rw [show j * 289 + 144 + 144 = j * 289 + 288 by omega] at this
                rw [this]
                simp [M.upd]
            · exact ((h.secs j hj).apart (h.wf.len j) (i := i) _ e (by omega) (by rw [hvl]; omega)).upd e x
          there := World.there_setCells h.there _ _ _
          wf := ⟨h.wf.len, fun k s hk => by
            simp only [M.upd] at hk
            split at hk
            · rename_i e
              injection hk with hk
              subst hk
              exact ⟨by omega, by omega, hx⟩
            · exact h.wf.pend k s hk, h.wf.lo, h.wf.hi⟩
          n512 := h.n512 }

set_option maxHeartbeats 2000000 in
theorem rwrite_any (w : World) (h : RefAt w rB LB n d) (i : Int) (hi1 : -9223372036854775808 ≤ i) (hi2 : i ≤ 9223372036854775807) (aB : Option Addr) (m c : Nat) (l : List UInt8) (hr : Row w aB m c (u8s l)) (hnb : u8s l = [] ∨ ∀ b off, aB = some ⟨b, off, none⟩ → b ∉ [rB]) :
    Calls Try.prog 14 #[.pointer (some ⟨rB, 0, none⟩), .int .i64 i, .slice aB m c] w fun e w' => e = .returned (.int .i64 (M.writeE n d i l)) ∧ RefAt w' rB LB n (M.writeD n d i l) ∧ But [rB, LB] w w' := by
  have hml : m = l.length := by rw [← hr.1, u8s_length]
  have HD := Lib.hid h
  have hdead := h.dead
  have hsec := h.sec
  have h512 := h.n512
  unfold M.writeE M.writeD
  cases hd : d.dead with
  | true =>
    have e1 : M.reach n d i = 30 := by unfold M.reach; rw [hd]; rfl
    rw [e1]
    simp only [show ¬ (30 : Int) = 0 by omega, if_false]
    rw [hd] at hdead
    clear e1 hd h hr hml
    go_enter Try.func14, Try.ntmps14
    go_wp2
    go_ret
    exact ⟨rfl, HD.out, But.refl _ _⟩
  | false =>
    rw [hd] at hdead
    by_cases c1 : i < 0
    · have e1 : M.reach n d i = 2 := by unfold M.reach; rw [hd, if_neg (by simp), if_pos (.inl c1)]
      rw [e1]
      simp only [show ¬ (2 : Int) = 0 by omega, if_false]
      clear e1 hd h hr hml
      go_enter Try.func14, Try.ntmps14
      go_wp2
      go_ret
      exact ⟨rfl, HD.out, But.refl _ _⟩
    · have c1' : 0 ≤ i := by omega
      by_cases c2 : (n : Int) ≤ i
      · have e1 : M.reach n d i = 2 := by unfold M.reach; rw [hd, if_neg (by simp), if_pos (.inr c2)]
        rw [e1]
        simp only [show ¬ (2 : Int) = 0 by omega, if_false]
        clear e1 hd h hr hml c1
        go_enter Try.func14, Try.ntmps14
        go_wp2
        go_ret
        exact ⟨rfl, HD.out, But.refl _ _⟩
      · have c2' : i < (n : Int) := by omega
        have e1 : M.reach n d i = 0 := by unfold M.reach; rw [hd, if_neg (by simp), if_neg (by omega)]
        rw [e1]
        simp only [if_true]
        obtain ⟨i, rfl⟩ : ∃ j : Nat, i = (j : Int) := ⟨i.toNat, by omega⟩
        have Hin : Hid (i < n) := Lib.hid (by omega)
        clear e1 c1 c2
        by_cases c3 : 144 < l.length
        · simp only [if_pos c3]
          have c3' : (144 : Int) < (m : Int) := by omega
          have Hml := Lib.hid hml
          clear hml c3 hr h hd
          go_enter Try.func14, Try.ntmps14
          go_wp2
          go_ret
          exact ⟨rfl, HD.out, But.refl _ _⟩
        · simp only [if_neg c3]
          have c3' : ¬ (144 : Int) < (m : Int) := by omega
          have HA := Lib.hid (ract_any w h)
          unfold M.actE at HA ⊢
          by_cases c4 : d.fuse = 0
          · simp only [if_pos c4] at HA ⊢
            have Hml := Lib.hid hml
            clear hml c3 hr h c4 hd
            go_enter Try.func14, Try.ntmps14
            go_wp2_with (go_at_call 34; refine HA.out.mono ?_; rintro e w1 ⟨rfl, hd1, hb1⟩; have HD1 := Lib.hid hd1; have HB1 := Lib.hid hb1; clear hd1 hb1)
            go_ret
            exact ⟨rfl, HD1.out, HB1.out.mono (by simp)⟩
          · simp only [if_neg c4] at HA ⊢
            have HRow := Lib.hid hr
            have Hl : Hid (l.length ≤ 144 ∧ m = l.length) := Lib.hid ⟨by omega, hml⟩
            clear c3 hr h c4 hml hd
            have hact : Hid ((M.actD d).P = d.P) := Lib.hid (M.act_P d)
            generalize M.actD d = d1 at HA hact ⊢
            go_enter Try.func14, Try.ntmps14
            go_wp2_with (first
              | (go_at_call 34; refine HA.out.mono ?_; rintro e w1 ⟨rfl, hd1, hb1⟩; have HD1 := Lib.hid hd1; have HB1 := Lib.hid hb1; clear hd1 hb1)
              | (refine wpList_build_67 rfl rfl ?_)
              | (refine wpList_alloc_67 rfl rfl ?_; intro w2 hw2
                 obtain ⟨g1, g2, g3, g4⟩ := arr_new w1 hw2
                 have Hg := Lib.hid (And.intro g1 (And.intro g2 (And.intro g3 (g4 [w1.heap.size]))))
                 clear hw2 g1 g2 g3 g4)
              | (refine wpList_store_67 rfl (.tmp 8) (.tmp 33) rfl w1.heap.size 0 rfl M.zero rfl M.zero_len Hg.out.2.1 ?_
                 have hb3 := Hg.out.2.2.2.sets w1.heap.size 0 (u8s M.zero) (.inl (by simp))
                 have HD3 := Lib.hid (HD1.out.but hb3 (by have := HD1.out.ltR; simp; omega) (by have := HD1.out.lt; simp; omega))
                 have HB3 : Hid (But [rB, LB] w (w2.setCells w1.heap.size 0 (u8s M.zero))) := Lib.hid ((HB1.out.mono (by simp)).trans' hb3 HB1.out.size)
                 have HR3 : Hid (Row (w2.setCells w1.heap.size 0 (u8s M.zero)) aB m c (u8s l)) := Lib.hid (row_but HRow.out (HB1.out.trans' hb3 HB1.out.size) hnb)
                 have HT3 := Lib.hid (World.there_setCells Hg.out.2.1 w1.heap.size 0 (u8s M.zero))
                 have HG3 : Hid ((w2.setCells w1.heap.size 0 (u8s M.zero)).rangeAt w1.heap.size 0 (u8s (fillTo l M.zero 0))) := Lib.hid (World.rangeAt_setCells_same w2 w1.heap.size 0 (u8s M.zero) (by rw [u8s_length, M.zero_len]; exact Hg.out.2.1))
                 have HH : Hid (w1.heap.size ≠ rB ∧ w1.heap.size ≠ LB ∧ w.heap.size ≤ w1.heap.size ∧ (u8s l = [] ∨ ∀ b off, aB = some ⟨b, off, none⟩ → b ∉ [w1.heap.size])) := Lib.hid ⟨by have := HD1.out.ltR; omega, by have := HD1.out.lt; omega, HB1.out.size, row_old HRow.out (by simpa using HB1.out.size)⟩
                 clear hb3
                 generalize w2.setCells w1.heap.size 0 (u8s M.zero) = w3 at *))
            generalize w1.heap.size = H at *
            go_loopw [9] (fun t wr => ∃ k : Nat, k ≤ l.length ∧ t = .int .i64 k ∧ RefAt wr rB LB n d1 ∧ But [rB, LB] w wr ∧ Row wr aB m c (u8s l) ∧ wr.there H 0 144 ∧ wr.rangeAt H 0 (u8s (fillTo l M.zero k))) (fun t _ => l.length - (intOf t).toNat)
            case atStart => exact ⟨0, by omega, rfl, HD3.out, HB3.out, HR3.out, HT3.out, HG3.out⟩
            case round =>
              obtain ⟨k, hk, rfl, hdv, hbw, hrw, htw, hgw⟩ := hrel
              have HDv := Lib.hid hdv
              have HBw := Lib.hid hbw
              have HRw := Lib.hid hrw
              have HTw := Lib.hid htw
              have HGw := Lib.hid hgw
              clear hdv hbw hrw htw hgw HD3 HB3 HR3 HT3 HG3
              have hk0 : (0 : Int) ≤ (k : Int) := by omega
              have hk144 : (k : Int) ≤ 144 := by have := Hl.out.1; omega
              by_cases hke : k = l.length
              · have hge : ¬ ((k : Int) < (m : Int)) := by have := Hl.out.2; omega
                have hsec3 := HDv.out.sec
                have Hke := Lib.hid hke
                clear hke
                have hpad : fillTo l M.zero k = M.pad l := by
                  rw [Hke.out]
                  unfold fillTo M.pad M.zero
                  rw [List.take_length, List.drop_replicate]
                have hpl := M.pad_len Hl.out.1
                rw [hpad] at HGw
                have HPL := Lib.hid hpl
                clear hpad hpl
                go_wp2_with fail
                refine wp_region_still_tail 8 (by kernel_rfl) (by kernel_rfl) ?_
                simp only [List.take_succ_cons, List.take_zero, List.drop_succ_cons, List.drop_zero]
                iterate 5 still_step
                refine wpStill_load_67 rfl (.tmp 8) rfl H 0 rfl (M.pad l) HPL.out (rangeAt_block HGw.out rfl) ?_
                iterate 2 still_step
                refine wpStill_nil ?_
                change wpList _ _ _ _ _ wr.drew
                have HD4 := Lib.hid HDv.out.drew
                have HB4 := Lib.hid HBw.out.drew
                have hin : i * 289 + 289 ≤ n * 289 := by have : (i + 1) * 289 ≤ n * 289 := Nat.mul_le_mul_right _ Hin.out; omega
                have Hnn := Lib.hid hin
                clear hin
                generalize wr.drew = w4 at *
                refine wpList_store_67 rfl (.tmp 53) (.tmp 51) rfl LB (i * 289 + 144) rfl (M.pad l) rfl HPL.out (fun j hj => by
                  have := HD4.out.there (i * 289 + 144 + j) (by have := Hnn.out; omega)
                  rw [Nat.zero_add] at this
                  exact this) ?_
                have HW := Lib.hid (HD4.out.setP Hin.out HPL.out)
                have hsec5 : (w4.setCells LB (i * 289 + 144) (u8s (M.pad l))).cell? ⟨rB, 0, none⟩ = some (.slice (some ⟨LB, 0, none⟩) n n) := by
                  rw [World.cell?_of_block (w := w4) (a := ⟨rB, 0, none⟩) (heap_setCells _ _ _ _ _ HD4.out.ne)]; exact HD4.out.sec
                have hc5 : (w4.setCells LB (i * 289 + 144) (u8s (M.pad l))).cell? ⟨LB, i * 289 + 288, none⟩ = some (.bool (d1.P (i : Int)).isSome) := by
                  rw [World.cell?_setCells_out LB _ _ w4 ⟨LB, i * 289 + 288, none⟩ (fun _ _ => .inr (by rw [u8s_length, HPL.out]; show i * 289 + 144 + 144 ≤ i * 289 + 288; omega))]
                  exact (HD4.out.secs i Hin.out).is
                have hf5 : (w4.setCells LB (i * 289 + 144) (u8s (M.pad l))).frozen? ⟨LB, i * 289 + 288, none⟩ = false := by
                  rw [World.frozen?_setCells]
                  have := (HD4.out.there (i * 289 + 288) (by have := Hnn.out; omega)).2
                  rw [Nat.zero_add] at this
                  exact this
                have HB5 : Hid (But [rB, LB] w (w4.setCells LB (i * 289 + 144) (u8s (M.pad l)))) := Lib.hid (HB4.out.sets _ _ _ (.inl (by simp)))
                generalize w4.setCells LB (i * 289 + 144) (u8s (M.pad l)) = w5 at *
                go_wp2
                go_ret
                refine ⟨rfl, ?_, HB5.out.set _ (.inl (by simp))⟩
                have := HW.out
                rw [hact.out] at this
                exact this
              · have hlt : (k : Int) < (m : Int) := by have := Hl.out.2; omega
                have hkl : k < l.length := by omega
                have hkz : k < 144 := by have := Hl.out.1; omega
                clear hke
                obtain ⟨c0, hc0⟩ : ∃ c0, l[k]? = some c0 := ⟨l[k], List.getElem?_eq_getElem hkl⟩
                obtain ⟨bB, oB, rfl, hBlt, hBc⟩ : ∃ bB oB, aB = some ⟨bB, oB, none⟩ ∧ bB < wr.heap.size ∧ wr.cell? ⟨bB, oB + k, none⟩ = some (.int .u8 (c0.toNat : Int)) := by
                  rcases HRw.out.2.2.2 with h0 | ⟨b, off, e, hb, hcc⟩
                  · have := u8s_length l
                    rw [h0] at this
                    simp at this
                    omega
                  · refine ⟨b, off, e, hb, ?_⟩
                    rw [hcc k (by have := Hl.out.2; omega)]
                    simp [u8s, u8, hc0]
                obtain ⟨⟨u0, hu0⟩, hfz0⟩ : (∃ u0, wr.cell? ⟨H, k, none⟩ = some u0) ∧ wr.frozen? ⟨H, k, none⟩ = false := by
                  have := HTw.out k hkz
                  rw [Nat.zero_add] at this
                  exact ⟨Option.isSome_iff_exists.1 this.1, this.2⟩
                have HB6 : Hid (But [rB, LB] w (wr.setCell ⟨H, k, none⟩ (.int .u8 (c0.toNat : Int)))) := Lib.hid (HBw.out.set _ (.inr HH.out.2.2.1))
                have HD6 := Lib.hid (HDv.out.but ((But.refl [H] wr).set (p := ⟨H, k, none⟩) (.int .u8 (c0.toNat : Int)) (.inl (by simp))) (by have := HH.out.1; simp; omega) (by have := HH.out.2.1; simp; omega))
                have HR6 := Lib.hid (row_but HRw.out ((But.refl [H] wr).set (p := ⟨H, k, none⟩) (.int .u8 (c0.toNat : Int)) (.inl (by simp))) HH.out.2.2.2)
                have HT6 := Lib.hid (there_set HTw.out ⟨H, k, none⟩ (.int .u8 (c0.toNat : Int)))
                have HG6 := Lib.hid (range_set (c := c0) HGw.out (k := k) (by rw [fill_len (by omega) (by rw [M.zero_len]; omega), M.zero_len]; exact hkz))
                rw [fill_set hc0 (by rw [M.zero_len]; exact hkz)] at HG6
                clear hc0
                go_wp2_with fail
                go_roundw
                case rel => exact ⟨k + 1, by omega, by go_num, HD6.out, HB6.out, HR6.out, HT6.out, HG6.out⟩
                case measure => simp [intOf]; omega
end Go.Proofs.Ytbcblcnnffdjdaa
