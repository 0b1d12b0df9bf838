/-
  What is left, for the document's own device; and two lists of numbers are compared.
-/
import Derived.Test.YtofhijnfbilieaaGreatJS
import Derived.Test.YtofhijnfbilieaaGreatJD
import Derived.BigQuiet
import Derived.Deep.RegionHeldLaw
namespace Go.Proofs.YtofhijnfbilieaaGreat
open Go.RowKit Go.Maps
set_option linter.unusedVariables false
set_option linter.unusedSimpArgs false
set_option maxRecDepth 20000

theorem row_int {w : World} {a : Option Addr} {m c : Nat} {l : List Int} (h : Row w a m c (ints l)) {k : Nat} {x : Int} (hx : l[k]? = some x) : ∃ b off, a = some ⟨b, off, none⟩ ∧ b < w.heap.size ∧ ∀ w', Below w.heap.size w w' → w'.cell? ⟨b, off + k, none⟩ = some (.int .i64 x) := by
  have hk := (List.getElem?_eq_some_iff.1 hx).1
  obtain ⟨h1, h2, h3, h4⟩ := h
  have hl : (ints l).length = l.length := by simp [ints]
  rcases h4 with h4 | ⟨b, off, ha, hb, hc⟩
  · rw [h4] at hl; simp at hl; omega
  · refine ⟨b, off, ha, hb, fun w' hw => ?_⟩
    rw [hw.cell (by exact hb), hc k (by omega)]
    simp [ints, hx, encZ]

def flat (l : List (Int × Int)) : List Value := l.flatMap fun x => [.int .i64 x.1, .int .i64 x.2]
theorem flat_len (l : List (Int × Int)) : (flat l).length = l.length * 2 := by
  induction l with
  | nil => rfl
  | cons x l ih => unfold flat at ih ⊢; simp only [List.flatMap_cons, List.length_append, ih, List.length_cons, List.length_nil]; omega
theorem flat_get : ∀ (l : List (Int × Int)) (i : Nat) (x : Int × Int), l[i]? = some x → (flat l)[i * 2]? = some (.int .i64 x.1) ∧ (flat l)[i * 2 + 1]? = some (.int .i64 x.2)
  | [], i, x, h => by simp at h
  | y :: l, 0, x, h => by
    have : y = x := by simpa using h
    subst this
    exact ⟨rfl, rfl⟩
  | y :: l, i + 1, x, h => by
    obtain ⟨h1, h2⟩ := flat_get l i x (by simpa using h)
    have e : flat (y :: l) = .int .i64 y.1 :: .int .i64 y.2 :: flat l := rfl
    rw [e, show (i + 1) * 2 = i * 2 + 1 + 1 by omega]
    simp only [List.getElem?_cons_succ]
    exact ⟨h1, h2⟩
theorem flat_app (l m : List (Int × Int)) : flat (l ++ m) = flat l ++ flat m := by simp [flat]

def KOwn (w : World) (B : Nat) (a : Option Addr) (n cap : Nat) (l : List (Int × Int)) : Prop :=
  w.ownsRow B 110 2 (.slice a n cap) n (flat l) ∧ l.length = n ∧ n ≤ 17592186044416
theorem KOwn.row {w : World} {B : Nat} {a : Option Addr} {n cap : Nat} {l : List (Int × Int)} (h : KOwn w B a n cap l) : KRow w a n cap l ∧ ∀ b off, a = some ⟨b, off, none⟩ → B ≤ b ∧ off = 0 := by
  obtain ⟨h1, h2, h3⟩ := h
  rcases h1.2 with ⟨hv, h'⟩ | ⟨g, c, cur, hv, hB, hh, hn, hm, hs, ht⟩
  · injection hv with e1 e2 e3
    subst e1 e3
    refine ⟨⟨h2, by omega, by simp [maxLen], .inl (List.eq_nil_of_length_eq_zero (by omega))⟩, by simp⟩
  · injection hv with e1 e2 e3
    subst e1 e3
    refine ⟨⟨h2, hn, hm, .inr ⟨g, 0, rfl, (h1.lt g rfl).2, fun i x hi => ?_⟩⟩, fun b off hb => ?_⟩
    · have hi2 := (List.getElem?_eq_some_iff.1 hi).1
      obtain ⟨f1, f2⟩ := flat_get l i x hi
      rw [Nat.zero_add]
      exact ⟨(World.ownsRow.cellAt h1 _ (by omega)).trans f1, (World.ownsRow.cellAt h1 _ (by omega)).trans f2⟩
    · injection hb with hb
      injection hb with hb1 hb2
      omega
theorem KOwn.but {w w' : World} {B : Nat} {a : Option Addr} {n cap : Nat} {l : List (Int × Int)} (h : KOwn w B a n cap l) {m : List Nat} (hb : But m w w') (hl : ∀ x ∈ m, x < B) : KOwn w' B a n cap l := by
  obtain ⟨h1, h2⟩ := h
  have hlt := h1.lt
  refine ⟨⟨h1.1, ?_⟩, h2⟩
  rcases h1.2 with h' | ⟨g, c, cur, hv, hg, hh, r⟩
  · exact .inl h'
  · have := hlt g (by rw [hv]; rfl)
    exact .inr ⟨g, c, cur, hv, hg, by rw [hb.block g this.2 (fun hm => by have := hl g hm; omega)]; exact hh, r⟩
theorem pair_info : (Tryz.prog.info? 110).map (fun i => (i.zero, i.size, i.bytes)) = some (some (.agg #[.int .i64 0, .int .i64 0]), 2, 16) := by kernel_rfl

theorem run_append_pair (w : World) (ty : TypeId) (B : Nat) (a : Option Addr) (n cap : Nat) (l : List (Int × Int)) (hown : KOwn w B a n cap l) (g c : Nat) (x : Int × Int) (hr : w.cell? ⟨g, 0, none⟩ = some (.int .i64 x.1) ∧ w.cell? ⟨g, 1, none⟩ = some (.int .i64 x.2))
    (hsum : n + 1 ≤ 1048576) (hB : B ≤ w.heap.size) :
    ∃ a' cap' w', (Builtin.append_ #[46, 46] ty #[.slice a n cap, .slice (some ⟨g, 0, none⟩) 1 c]).run Tryz.prog w = .ok (.slice a' (n + 1) cap') w' ∧ KOwn w' B a' (n + 1) cap' (l ++ [x]) ∧ Below B w w' := by
  obtain ⟨g1, g2, g3⟩ := hown
  obtain ⟨i0, hi0, hz0, hs0, hb0⟩ := info_parts pair_info
  obtain ⟨v', w', hrun, h5, h6, _, h7⟩ := run_append_own_at (P := Tryz.prog) w B 46 ty 110 i0 (.agg #[.int .i64 0, .int .i64 0]) 2 16 Tryz.underlying46 hi0 hz0 hs0 hb0 rfl (by omega) _ n (flat l) g1 ⟨g, 0, none⟩ 1 c [.int .i64 x.1, .int .i64 x.2]
    rfl (fun j u hu => by
      rw [Addr.add_mid]
      match j, hu with
      | 0, hu => injection hu with hu; subst hu; exact hr.1
      | 1, hu => injection hu with hu; subst hu; exact hr.2
      | j + 2, hu => simp at hu) (by simp [Value.oneCell']) (by simp only [maxLen]; omega) (by omega) hB
  obtain ⟨a', cap', rfl⟩ : ∃ a' cap', v' = .slice a' (n + 1) cap' := by
    rcases h5.2 with ⟨rfl, h0⟩ | ⟨g, c', cur, rfl, _⟩
    · exact ⟨none, 0, by rw [h0]⟩
    · exact ⟨_, _, rfl⟩
  exact ⟨a', cap', w', hrun, ⟨by rw [flat_app]; exact h5, by rw [List.length_append, g2]; rfl, by omega⟩, (Below.refl _ _).grown h6 hB fun k hk => (g1.lt k hk).1⟩

theorem wpList_append_pair {ops : Array Oper} {rest : List Oper} {o : Oper} {a : Act} {w : World} {Q : Exit → Act → World → Prop} (hg : o.guard = none) (x y : Operand) (ho : o.op = Op.call { callee := Callee.builtin Builtin.append, args := #[x, y], argTypes := #[46, 46] })
    (B : Nat) (A : Option Addr) (n cap : Nat) (l : List (Int × Int)) (hx : a.eval x = .slice A n cap) (hown : KOwn w B A n cap l) (g c : Nat) (u : Int × Int) (hy : a.eval y = .slice (some ⟨g, 0, none⟩) 1 c) (hr : w.cell? ⟨g, 0, none⟩ = some (.int .i64 u.1) ∧ w.cell? ⟨g, 1, none⟩ = some (.int .i64 u.2))
    (hsum : n + 1 ≤ 1048576) (hB : B ≤ w.heap.size)
    (h : ∀ A' cap' w', KOwn w' B A' (n + 1) cap' (l ++ [u]) → Below B w w' → wpList Tryz.prog ops Q rest (a.put o.dst (.slice A' (n + 1) cap')) w') : wpList Tryz.prog ops Q (o :: rest) a w := by
  refine wpList_plain hg fun K hK => ?_
  obtain ⟨A', cap', w', hrun, r1, r3⟩ := run_append_pair w o.type B A n cap l hown g c u hr hsum hB
  unfold Oper.wp
  simp [execOp, ho, resolve, invoke, builtin, hx, hy, hrun, Result.andThen]
  exact hK _ _ (h A' cap' w' r1 r3)

theorem step_append_pair {ops : Array Oper} {o : Oper} {a : Act} {w : World} {K : Act → World → Prop} {Q : Exit → Act → World → Prop} {E : Prop}
    (hg : o.guard = none) (x y : Operand) (ho : o.op = Op.call { callee := Callee.builtin Builtin.append, args := #[x, y], argTypes := #[46, 46] })
    (B : Nat) (A : Option Addr) (n cap : Nat) (l : List (Int × Int)) (hx : a.eval x = .slice A n cap) (hown : KOwn w B A n cap l) (g c : Nat) (u : Int × Int) (hy : a.eval y = .slice (some ⟨g, 0, none⟩) 1 c) (hr : w.cell? ⟨g, 0, none⟩ = some (.int .i64 u.1) ∧ w.cell? ⟨g, 1, none⟩ = some (.int .i64 u.2))
    (hsum : n + 1 ≤ 1048576) (hB : B ≤ w.heap.size)
    (h : ∀ A' cap' w', KOwn w' B A' (n + 1) cap' (l ++ [u]) → Below B w w' → K (a.put o.dst (.slice A' (n + 1) cap')) w') : if Region.wanted o (yielded ops a.tmps) = true then Oper.wp Tryz.prog o a w K Q else E := by
  have hw : Region.wanted o (yielded ops a.tmps) = true := by simp [Region.wanted, hg]
  rw [if_pos hw]
  obtain ⟨A', cap', w', hrun, r1, r3⟩ := run_append_pair w o.type B A n cap l hown g c u hr hsum hB
  unfold Oper.wp
  simp [execOp, ho, resolve, invoke, builtin, hx, hy, hrun, Result.andThen]
  exact h A' cap' w' r1 r3
theorem pair_cells (w : World) (x : Int × Int) : (w.alloc (.cells #[.int .i64 x.1, .int .i64 x.2] 110)).cell? ⟨w.heap.size, 0, none⟩ = some (.int .i64 x.1) ∧ (w.alloc (.cells #[.int .i64 x.1, .int .i64 x.2] 110)).cell? ⟨w.heap.size, 1, none⟩ = some (.int .i64 x.2) := by
  rw [World.cell?_alloc_mark, World.cell?_alloc_mark]
  exact ⟨rfl, rfl⟩

theorem kown_lit (w : World) (B : Nat) (hB : B ≤ w.heap.size) : KOwn (w.alloc (.cells #[] 110)) B (some ⟨w.heap.size, 0, none⟩) 0 0 [] :=
  ⟨World.ownsRow_lit w #[] 0 hB (by simp only [maxLen]; omega) (by simp), rfl, by omega⟩

theorem krow_below {w : World} {aK : Option Addr} {mK cK : Nat} {ks : List (Int × Int)} (h : KRow w aK mK cK ks) {q : Nat} {x : Int × Int} (hx : ks[q]? = some x) :
    ∃ b off, aK = some ⟨b, off, none⟩ ∧ ∀ w', Below w.heap.size w w' → w'.cell? ⟨b, off + q * 2, none⟩ = some (.int .i64 x.1) ∧ w'.cell? ⟨b, off + q * 2 + 1, none⟩ = some (.int .i64 x.2) := by
  have hne : ks ≠ [] := by rintro rfl; simp at hx
  obtain ⟨_, _, _, h4⟩ := h
  rcases h4 with h4 | ⟨b, off, ha, hlt, hc⟩
  · exact absurd h4 hne
  · exact ⟨b, off, ha, fun w' hb => by rw [hb.cell (by exact hlt), hb.cell (by exact hlt)]; exact hc q x hx⟩

set_option maxHeartbeats 1000000 in
theorem keeps_any (w : World) (aK : Option Addr) (mK cK : Nat) (ks : List (Int × Int)) (hk : KRow w aK mK cK ks) (hm : mK ≤ 600) :
    Calls Tryz.prog 14 #[.slice aK mK cK] w fun e w' => ∃ a cap, e = .returned (.slice a mK cap) ∧ KRow w' a mK cap ks ∧ (∀ b off, a = some ⟨b, off, none⟩ → w.heap.size ≤ b) ∧ Below w.heap.size w w' := by
  have HK := Lib.hid hk
  have hmk : mK = ks.length := hk.1.symm
  have Hmk := Lib.hid hmk
  clear hk hmk
  go_enter Tryz.func14, Tryz.ntmps14
  go_wp2_with fail
  have HO := Lib.hid (kown_lit w w.heap.size (Nat.le_refl _))
  have HB1 := Lib.hid ((Below.refl w.heap.size w).alloc (Nat.le_refl _) (.cells #[] 110))
  go_loopw [3, 4] (fun t u wr => ∃ (k : Nat) (A : Option Addr) (cap : Nat), k ≤ mK ∧ u = .int .i64 k ∧ t = .slice A k cap ∧ Below w.heap.size w wr ∧ KOwn wr w.heap.size A k cap (ks.take k)) (fun _ u _ => mK - (intOf u).toNat)
  case atStart => exact ⟨0, _, _, by omega, rfl, rfl, HB1.out, HO.out⟩
  case round =>
    obtain ⟨k, A, cap, hk, rfl, rfl, hbw, how⟩ := hrel
    have HBw := Lib.hid hbw
    have HOw := Lib.hid how
    clear hbw how HB1 HO
    have hk0 : (0 : Int) ≤ (k : Int) := by omega
    by_cases hke : k = mK
    · subst hke
      have hge : ¬ ((k : Int) < (k : Int)) := by omega
      go_wp2_with fail
      go_ret
      have := HOw.out.row
      rw [List.take_of_length_le (by have := Hmk.out; omega)] at this
      exact ⟨_, _, rfl, this.1, fun b off hb => (this.2 b off hb).1, HBw.out⟩
    · have hlt : (k : Int) < (mK : Int) := by omega
      have hlt6 : (k : Int) < 600 := by omega
      obtain ⟨x, hx⟩ : ∃ x, ks[k]? = some x := ⟨_, List.getElem?_eq_getElem (by have := Hmk.out; omega)⟩
      obtain ⟨b1, o1, rfl, hcell⟩ := krow_below HK.out hx
      have HS : Hid (ks.take (k + 1) = ks.take k ++ [x]) := Lib.hid (by rw [List.take_add_one, hx]; rfl)
      obtain ⟨x1, x2⟩ := x
      have HKc := Lib.hid hcell
      obtain ⟨hc1, hc2⟩ := hcell wr HBw.out
      clear hx hke hcell
      go_wp2_with fail
      have HKS : Hid (∀ w', Below w.heap.size w w' → (w'.cell? ⟨b1, o1 + k * 2, none⟩ = some (.int .i64 x1) ∧ w'.cell? ⟨b1, o1 + k * 2 + 1, none⟩ = some (.int .i64 x2))) := Lib.hid (fun w' hw => HKc.out w' hw)
      have HDr : Hid (Below w.heap.size w wr.drew) := Lib.hid HBw.out.drew
      have HAl : Hid (∀ o, Below w.heap.size w (wr.drew.alloc o)) := Lib.hid (fun o => HDr.out.alloc HDr.out.size o)
      have HOd : Hid (∀ o, KOwn (wr.drew.alloc o) w.heap.size A k cap (ks.take k)) := Lib.hid (fun o => HOw.out.but (But.alloc (But.drew (But.refl [] wr)) o) (by simp))
      go_region_held_law (fun w' => w'.cell? ⟨b1, o1 + k * 2, none⟩ = some (.int .i64 x1) ∧ w'.cell? ⟨b1, o1 + k * 2 + 1, none⟩ = some (.int .i64 x2))
        (first
          | exact HKS.out _ HBw.out
          | exact HKS.out _ HDr.out
          | exact HKS.out _ (HAl.out _)
          | exact HKS.out _ ((HAl.out _).trans hb8))
        ((refine step_append_pair (by rfl) (.tmp 16) (.tmp 28) (by rfl) w.heap.size A k cap (ks.take k) (by rfl) (HOd.out _) wr.heap.size 1 (x1, x2) (by rfl) (pair_cells wr.drew (x1, x2)) (by omega) (HAl.out _).size ?_
          intro A8 cap8 w8 hown8 hb8))
      have HO8 := Lib.hid hown8
      have HB8 := Lib.hid ((HAl.out _).trans hb8)
      clear hown8 hb8
      go_wp2
      go_roundw
      case rel => exact ⟨k + 1, _, _, by omega, by go_num, rfl, HB8.out, by rw [HS.out]; exact HO8.out⟩
      case measure => simp [intOf]; omega
end Go.Proofs.YtofhijnfbilieaaGreat
