/-
  The cell is put with a state.
-/
import Derived.Test.YtmcalgnpinolmaaGreatLog3
import Derived.Deep.RegionHeld3
namespace Go.Proofs.YtmcalgnpinolmaaGreat
open Go.RowKit
set_option linter.unusedVariables false
set_option linter.unusedSimpArgs false
set_option maxRecDepth 20000

variable {dB sB mB n : Nat} {d : M.Dv} {lB first N : Nat} {rv : Value} {h t l : Int}

theorem below_dn {B : Nat} {a w : World} (h : Below B a w) (q : Nat) : Below B a (w.drewN q) := h.trans (below_drewN B w q)

/-- what a state becomes -/
def M.pick (e : Int) (x y : Int) : Int := if e = 0 then x else y
theorem M.pick_ok (x y : Int) : M.pick 0 x y = x := rfl
theorem M.pick_no {e : Int} (he : e ≠ 0) (x y : Int) : M.pick e x y = y := if_neg he

set_option maxHeartbeats 2000000 in
theorem putS_any (w : World) (hd : DevAt w dB sB mB n d) (cB a b : Nat) (c : M.Cl) (hc : CellAt w cB dB a b c) (g : LogC w lB dB first N (.pointer (some ⟨cB, 0, none⟩)) h t l rv)
    (hs : cB ≠ dB ∧ cB ≠ sB ∧ cB ≠ mB) (hl : lB ≠ dB ∧ lB ≠ sB ∧ lB ≠ mB ∧ lB ≠ cB) (ho : c.o ≤ 1) (hg : 0 ≤ c.gen ∧ c.gen < 4611686018427387904) (hab : a ≤ 1000 ∧ b ≤ 1000) (h' t' l' : Int) (hi : M.InT h' t' l')
    (i : Nat) (hpos : M.pos c.o a b = i) (sl : List UInt8) (hsl : M.slot (c.gen + 1) (M.txtL h' t' l') = sl) (ev : Int) (hev : M.putE n d i sl = ev) :
    Calls Tryz.prog 62 #[.pointer (some ⟨lB, 0, none⟩), .agg #[.int .i64 h', .int .i64 t', .int .i64 l']] w fun e w' => e = .returned (.int .i64 ev) ∧ DevAt w' dB sB mB n (M.putD n d i sl) ∧
      CellAt w' cB dB a b (M.putC ev c (M.txtL h' t' l')) ∧ LogC w' lB dB first N (.pointer (some ⟨cB, 0, none⟩)) (M.pick ev h' h) (M.pick ev t' t) (M.pick ev l' l) rv ∧ But [dB, sB, mB, cB, lB] w w' := by
  have ht := M.txtL_size h' t' l'
  have hw1 : (w.alloc (.cells #[.int .i64 h', .int .i64 t', .int .i64 l'] 128)).heap[w.heap.size]? = some (.cells #[.int .i64 h', .int .i64 t', .int .i64 l'] 128 (0, 0)) := heap_alloc_new w _
  have HT := Lib.hid (text_any (w.alloc (.cells #[.int .i64 h', .int .i64 t', .int .i64 l'] 128)).drew h' t' l' hi)
  have HB1 : Hid (Below w.heap.size w (w.alloc (.cells #[.int .i64 h', .int .i64 t', .int .i64 l'] 128)).drew) := Lib.hid (((Below.refl _ _).alloc (Nat.le_refl _) _).drew)
  have hk : ∀ w', Below (w.heap.size + 1) (w.alloc (.cells #[.int .i64 h', .int .i64 t', .int .i64 l'] 128)) w' → w'.cell? ⟨lB, 3, none⟩ = some (.pointer (some ⟨cB, 0, none⟩)) ∧ w'.cell? ⟨w.heap.size, 0, none⟩ = some (.int .i64 h') ∧ w'.cell? ⟨w.heap.size, 1, none⟩ = some (.int .i64 t') ∧ w'.cell? ⟨w.heap.size, 2, none⟩ = some (.int .i64 l') := fun w' hb => by
    have hx := (hb.block w.heap.size (by omega)).trans hw1
    refine ⟨?_, ?_, ?_, ?_⟩
    · have := (g.below ((Below.refl w.heap.size w).alloc (Nat.le_refl _) (.cells #[.int .i64 h', .int .i64 t', .int .i64 l'] 128)) g.lt).below hb (by have := g.lt; omega)
      exact this.p3
    · simp [World.cell?, hx]
    · simp [World.cell?, hx]
    · simp [World.cell?, hx]
  have HK := Lib.hid hk
  have H0 := Lib.hid (hk _ ((Below.refl _ _).drew))
  have HD := Lib.hid hd
  have HC := Lib.hid hc
  have HG := Lib.hid g
  have Hs := Lib.hid hs
  have Hl := Lib.hid hl
  have Hg := Lib.hid hg
  have Ho := Lib.hid ho
  have Ha := Lib.hid hab
  have Ht := Lib.hid ht
  have HP := Lib.hid hpos
  have HS := Lib.hid hsl
  have HE := Lib.hid hev
  clear hk hw1 hd hc g hs hl hg ho hab hi ht hpos hsl hev
  generalize M.txtL h' t' l' = tx at *
  go_enter Tryz.func62, Tryz.ntmps62
  go_wp2_with fail
  go_region_held3 (fun w' => w'.cell? ⟨lB, 3, none⟩ = some (.pointer (some ⟨cB, 0, none⟩)) ∧ w'.cell? ⟨w.heap.size, 0, none⟩ = some (.int .i64 h') ∧ w'.cell? ⟨w.heap.size, 1, none⟩ = some (.int .i64 t') ∧ w'.cell? ⟨w.heap.size, 2, none⟩ = some (.int .i64 l'))
    (first
      | exact H0.out
      | exact HK1.out
      | exact HK2.out)
    (first
      | (go_at_call 89; with_reducible refine HT.out.mono ?_; rintro e w1 ⟨rfl, hb⟩
         have Hb : Hid (Below w.heap.size w w1) := Lib.hid (HB1.out.trans (hb.mono (by simp)))
         have HK1 := Lib.hid (HK.out w1 ((((Below.refl _ _).drew)).trans (hb.mono (by simp))))
         have Hz : Hid (w.heap.size < w1.heap.size) := Lib.hid (by have := hb.size; simp at this; omega)
         clear hb)
      | (go_at_call 88; refine (put_any w1 (HD.out.but ((But.refl [] w).below Hb.out (Nat.le_refl _)) (by simp) (by simp) (by simp)) cB a b c (HC.out.below Hb.out HC.out.lt) Hs.out Ho.out Hg.out Ha.out tx (by have := Ht.out; omega)).mono ?_
         rintro e w2 ⟨rfl, hd2, hc2, hb2⟩
         rw [HP.out, HS.out] at hd2 hc2 ⊢
         rw [HE.out] at hc2 ⊢
         have HD2 := Lib.hid hd2
         have HC2 := Lib.hid hc2
         have HG1 := Lib.hid (HG.out.below Hb.out HG.out.lt)
         have HG2 := Lib.hid (HG1.out.but hb2 (by have := Hl.out; simp; omega))
         have HB2 : Hid (But [dB, sB, mB, cB, lB] w w2) := Lib.hid (((But.refl [dB, sB, mB, cB, lB] w).below Hb.out (Nat.le_refl _)).trans (hb2.mono (by simp)))
         have HK2 : Hid (w2.cell? ⟨lB, 3, none⟩ = some (.pointer (some ⟨cB, 0, none⟩)) ∧ w2.cell? ⟨w.heap.size, 0, none⟩ = some (.int .i64 h') ∧ w2.cell? ⟨w.heap.size, 1, none⟩ = some (.int .i64 t') ∧ w2.cell? ⟨w.heap.size, 2, none⟩ = some (.int .i64 l')) := Lib.hid (by
           obtain ⟨z0, z1, z2, z3⟩ := HK1.out
           have e1 := HD.out.ltD
           have e2 := HD.out.lt
           have e3 := HD.out.pend.lt
           have e4 := HC.out.lt
           exact ⟨HG2.out.p3, by rw [hb2.cell Hz.out (by simp; omega)]; exact z1, by rw [hb2.cell Hz.out (by simp; omega)]; exact z2, by rw [hb2.cell Hz.out (by simp; omega)]; exact z3⟩)
         clear hd2 hc2 hb2))
  by_cases he : ev = 0
  · subst he
    obtain ⟨z0, z1, z2, z3⟩ := HK2.out
    have f := HG2.out.fz
    have q4 := HG2.out.p4
    have q5 := HG2.out.p5
    have q6 := HG2.out.p6
    clear HK1 HK HB1 H0 HT
    go_wp2_with fail
    have HG3 := Lib.hid (HG2.out.setS h' t' l')
    have hbq : But [lB] w2 (((w2.setCell ⟨lB, 4, none⟩ (.int .i64 h')).setCell ⟨lB, 5, none⟩ (.int .i64 t')).setCell ⟨lB, 6, none⟩ (.int .i64 l')) := (((But.refl [lB] w2).set _ (.inl (by simp))).set _ (.inl (by simp))).set _ (.inl (by simp))
    go_ret
    exact ⟨rfl, HD2.out.but hbq (by have := Hl.out; simp; omega) (by have := Hl.out; simp; omega) (by have := Hl.out; simp; omega), HC2.out.but hbq (by have := Hl.out; simp; omega), HG3.out, HB2.out.trans (hbq.mono (by simp))⟩
  · have hne : (ev != 0) = true := by simpa using he
    have HN := Lib.hid he
    clear he
    go_wp2_with fail
    go_ret
    exact ⟨rfl, HD2.out, HC2.out, by rw [M.pick_no HN.out, M.pick_no HN.out, M.pick_no HN.out]; exact HG2.out, HB2.out⟩
end Go.Proofs.YtmcalgnpinolmaaGreat
