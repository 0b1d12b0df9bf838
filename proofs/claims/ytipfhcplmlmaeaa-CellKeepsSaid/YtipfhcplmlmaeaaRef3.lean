/-
  What a sector says as a slot, by the document's own functions.
-/
import Derived.Test.YtipfhcplmlmaeaaRef2
import Derived.Test.YtipfhcplmlmaeaaCel3
import Derived.Test.YtipfhcplmlmaeaaCRefd
namespace Go.Proofs.Ytipfhcplmlmaeaa
open Go.RowKit
set_option linter.unusedVariables false
set_option linter.unusedSimpArgs false
set_option maxRecDepth 20000

theorem mul_four (z0 z1 z2 z3 : Nat) (h0 : z0 < 256) (h1 : z1 < 256) (h2 : z2 < 256) (h3 : z3 < 256) :
    (z0 : Int) * 16777216 + (z1 : Int) * 65536 + (z2 : Int) * 256 + (z3 : Int) = ((z0 * 16777216 + z1 * 65536 + z2 * 256 + z3 : Nat) : Int) := by omega

def zrec : Value := .agg #[.int .i64 0, .slice none 0 0, .slice none 0 0]

/-- two records of zeros, as Unframed lays them -/
def two0 (w : World) : World := (w.alloc (.cells #[.int .i64 0, .slice none 0 0, .slice none 0 0] 56)).alloc (.cells #[.int .i64 0, .slice none 0 0, .slice none 0 0] 56)
theorem two0_below (w : World) : Below w.heap.size w (two0 w) := ((Below.refl _ _).alloc (Nat.le_refl _) _).alloc (by simp) _

theorem unf_short (w : World) (b off n cap : Nat) (z0 z1 z2 z3 z4 : Nat) (h : Five w b off n cap z0 z1 z2 z3 z4) (hlt : b < w.heap.size) (hn : n ≤ 1000) (hk : n < 5 + z4) :
    Calls Try.prog 48 #[.slice (some ⟨b, off, none⟩) n cap] w fun e w' => e = .returned (.tuple #[zrec, .bool false]) ∧ Below w.heap.size w w' := by
  obtain ⟨g0, g1, g2, g3, g4', b0, b1, b2, b3, b4, n5, nc⟩ := h
  have g4 : (two0 w).cell? ⟨b, off + 4, none⟩ = some (.int .u8 (z4 : Int)) := by rw [(two0_below w).cell (p := ⟨b, off + 4, none⟩) hlt]; exact g4'
  have hB := Lib.hid (two0_below w)
  unfold two0 at g4 hB
  have hk1 : (z4 : Int) < 256 := by omega
  have hk0 : (0 : Int) ≤ (z4 : Int) := by omega
  have hgt : (n : Int) < 5 + (z4 : Int) := by omega
  have hn5 : (5 : Int) ≤ (n : Int) := by omega
  clear hk nc n5 g0 g1 g2 g3 g4'
  go_enter Try.func48, Try.ntmps48
  go_wp2_with fail
  refine bodyPost_ret (v := .tuple #[zrec, .bool false]) (by simp [zrec, results, Try.results48, go_sem]) rfl ?_
  exact ⟨rfl, hB.out⟩

theorem unf_bad (w : World) (b off n cap : Nat) (z0 z1 z2 z3 z4 : Nat) (h : Five w b off n cap z0 z1 z2 z3 z4) (hlt : b < w.heap.size) (hn : n ≤ 1000) (hn6 : 6 ≤ n) (hk : 5 + z4 ≤ n) (S : Int) (hS : (S != (z0 : Int) * 16777216 + (z1 : Int) * 65536 + (z2 : Int) * 256 + (z3 : Int)) = true)
    (hc : ∀ q, Calls Try.prog 44 #[.slice (some ⟨b, off + 4, none⟩) (5 + z4 - 4) (cap - 4)] ((two0 w).drewN q) fun e w'' => e = .returned (.int .u32 S) ∧ (two0 w).drewN q = w'') :
    Calls Try.prog 48 #[.slice (some ⟨b, off, none⟩) n cap] w fun e w' => e = .returned (.tuple #[zrec, .bool false]) ∧ Below w.heap.size w w' := by
  obtain ⟨h0, h1, h2, h3, h4, b0, b1, b2, b3, b4, n5, nc⟩ := h
  have g0 : (two0 w).cell? ⟨b, off, none⟩ = some (.int .u8 (z0 : Int)) := by rw [(two0_below w).cell (p := ⟨b, off, none⟩) hlt]; exact h0
  have g1 : (two0 w).cell? ⟨b, off + 1, none⟩ = some (.int .u8 (z1 : Int)) := by rw [(two0_below w).cell (p := ⟨b, off + 1, none⟩) hlt]; exact h1
  have g2 : (two0 w).cell? ⟨b, off + 2, none⟩ = some (.int .u8 (z2 : Int)) := by rw [(two0_below w).cell (p := ⟨b, off + 2, none⟩) hlt]; exact h2
  have g3 : (two0 w).cell? ⟨b, off + 3, none⟩ = some (.int .u8 (z3 : Int)) := by rw [(two0_below w).cell (p := ⟨b, off + 3, none⟩) hlt]; exact h3
  have g4 : (two0 w).cell? ⟨b, off + 4, none⟩ = some (.int .u8 (z4 : Int)) := by rw [(two0_below w).cell (p := ⟨b, off + 4, none⟩) hlt]; exact h4
  have hB := Lib.hid (two0_below w)
  have HC := Lib.hid hc
  unfold two0 at g0 g1 g2 g3 g4 hB HC
  have hk1 : (z4 : Int) < 256 := by omega
  have hk0 : (0 : Int) ≤ (z4 : Int) := by omega
  have hgt : 5 + (z4 : Int) ≤ (n : Int) := by omega
  have hgt2 : 5 + (z4 : Int) ≤ (cap : Int) := by omega
  have hn5 : (5 : Int) ≤ (n : Int) := by omega
  have hc4 : ¬ cap = 4 := by omega
  have hc5 : ¬ cap = 5 := by omega
  clear hk nc n5 h0 h1 h2 h3 h4 hc
  go_enter Try.func48, Try.ntmps48
  go_wp2_with fail
  go_quiet (fail)
  go_wp2_with (go_at_call 44; refine (HC.out _).mono ?_; rintro e w' ⟨rfl, rfl⟩)
  refine bodyPost_ret (v := .tuple #[zrec, .bool false]) (by simp [zrec, results, Try.results48, go_sem]) rfl ?_
  exact ⟨rfl, (((hB.out.trans (below_drewN _ _ _)).setCell (Nat.le_refl _) _).setCell (Nat.le_refl _) _).setCell (Nat.le_refl _) _⟩

theorem two0_rec (w : World) : C.Rec3 (two0 w) w.heap.size 0 none 0 0 none 0 0 := by
  unfold two0
  refine ⟨?_, ?_, ?_, ?_, ?_, ?_⟩ <;> go_simp

/-- a record's three parts, written over -/
theorem rec_over {w : World} {N : Nat} {k : Int} {aN : Option Addr} {nN cN : Nat} {aT : Option Addr} {nT cT : Nat} (h : C.Rec3 w N k aN nN cN aT nT cT) (v0 v1 v2 : Value) :
    (((w.setCell ⟨N, 0, none⟩ v0).setCell ⟨N, 1, none⟩ v1).setCell ⟨N, 2, none⟩ v2).cell? ⟨N, 0, none⟩ = some v0 ∧ (((w.setCell ⟨N, 0, none⟩ v0).setCell ⟨N, 1, none⟩ v1).setCell ⟨N, 2, none⟩ v2).cell? ⟨N, 1, none⟩ = some v1 ∧
    (((w.setCell ⟨N, 0, none⟩ v0).setCell ⟨N, 1, none⟩ v1).setCell ⟨N, 2, none⟩ v2).cell? ⟨N, 2, none⟩ = some v2 := by
  obtain ⟨g1, g2, g3, g4, g5, g6⟩ := h
  refine ⟨?_, ?_, ?_⟩
  · rw [World.cell?_setCell_other _ _ _ _ (by simp), World.cell?_setCell_other _ _ _ _ (by simp)]
    exact World.cell?_setCell_same _ _ _ g1
  · rw [World.cell?_setCell_other _ _ _ _ (by simp)]
    exact World.cell?_setCell_same _ _ _ (show _ = some (Value.slice aN nN cN) by rw [World.cell?_setCell_other _ _ _ _ (by simp)]; exact g2)
  · exact World.cell?_setCell_same _ _ _ (show _ = some (Value.slice aT nT cT) by rw [World.cell?_setCell_other _ _ _ _ (by simp), World.cell?_setCell_other _ _ _ _ (by simp)]; exact g3)

/-- what Unframed tells -/
def UPost (w : World) (l : List UInt8) (e : Ending) (w' : World) : Prop :=
  Below w.heap.size w w' ∧ ((∃ r aN nN cN aT nT cT, C.M.dec l = some r ∧ C.RecOwn w' w.heap.size r aN nN cN aT nT cT ∧ e = .returned (.tuple #[.agg #[.int .i64 r.kind, .slice aN nN cN, .slice aT nT cT], .bool true])) ∨ (C.M.dec l = none ∧ e = .returned (.tuple #[zrec, .bool false])))

set_option maxHeartbeats 1000000 in
theorem unf_rec (w : World) (b off n cap : Nat) (z0 z1 z2 z3 z4 : Nat) (h : Five w b off n cap z0 z1 z2 z3 z4) (hlt : b < w.heap.size) (hn : n ≤ 1000) (hn6 : 6 ≤ n) (hk : 5 + z4 ≤ n) (l5 : List UInt8)
    (hc : ∀ q, Calls Try.prog 44 #[.slice (some ⟨b, off + 4, none⟩) (5 + z4 - 4) (cap - 4)] ((two0 w).drewN q) fun e w'' => e = .returned (.int .u32 ((z0 : Int) * 16777216 + (z1 : Int) * 65536 + (z2 : Int) * 256 + (z3 : Int))) ∧ (two0 w).drewN q = w'')
    (hd : ∀ q, Calls Try.prog 57 #[.slice (some ⟨b, off + 5, none⟩) z4 (cap - 5)] ((two0 w).drewN q) (C.DPost ((two0 w).drewN q) l5)) :
    Calls Try.prog 48 #[.slice (some ⟨b, off, none⟩) n cap] w (UPost w l5) := by
  obtain ⟨h0, h1, h2, h3, h4, b0, b1, b2, b3, b4, n5, nc⟩ := h
  have g0 : (two0 w).cell? ⟨b, off, none⟩ = some (.int .u8 (z0 : Int)) := by rw [(two0_below w).cell (p := ⟨b, off, none⟩) hlt]; exact h0
  have g1 : (two0 w).cell? ⟨b, off + 1, none⟩ = some (.int .u8 (z1 : Int)) := by rw [(two0_below w).cell (p := ⟨b, off + 1, none⟩) hlt]; exact h1
  have g2 : (two0 w).cell? ⟨b, off + 2, none⟩ = some (.int .u8 (z2 : Int)) := by rw [(two0_below w).cell (p := ⟨b, off + 2, none⟩) hlt]; exact h2
  have g3 : (two0 w).cell? ⟨b, off + 3, none⟩ = some (.int .u8 (z3 : Int)) := by rw [(two0_below w).cell (p := ⟨b, off + 3, none⟩) hlt]; exact h3
  have g4 : (two0 w).cell? ⟨b, off + 4, none⟩ = some (.int .u8 (z4 : Int)) := by rw [(two0_below w).cell (p := ⟨b, off + 4, none⟩) hlt]; exact h4
  have hB := Lib.hid (two0_below w)
  have hR := Lib.hid (two0_rec w)
  have hSz : Hid ((two0 w).heap.size = w.heap.size + 2) := Lib.hid (by unfold two0; simp)
  have HC := Lib.hid hc
  have HD := Lib.hid hd
  unfold two0 at g0 g1 g2 g3 g4 HC HD
  have hk1 : (z4 : Int) < 256 := by omega
  have hk0 : (0 : Int) ≤ (z4 : Int) := by omega
  have hgt : 5 + (z4 : Int) ≤ (n : Int) := by omega
  have hgt2 : 5 + (z4 : Int) ≤ (cap : Int) := by omega
  have hn5 : (5 : Int) ≤ (n : Int) := by omega
  have hc4 : ¬ cap = 4 := by omega
  have hc5 : ¬ cap = 5 := by omega
  clear hk nc n5 h0 h1 h2 h3 h4 hc hd
  go_enter Try.func48, Try.ntmps48
  go_wp2_with fail
  go_quiet (fail)
  go_wp2_with (go_at_call 44; refine (HC.out _).mono ?_; rintro e w' ⟨rfl, rfl⟩)
  refine (HD.out _).mono ?_
  rintro e w1 ⟨hb, ⟨r, v, hdc, ⟨aN, nN, cN, aT, nT, cT, rfl, ho1, ho2⟩, rfl⟩ | ⟨hdc, he⟩⟩
  · have hb2 : Below (w.heap.size + 2) (two0 w) w1 := (below_drewN _ (two0 w) nq).trans (hSz.out ▸ hb)
    have hr1 := C.rec3_below hR.out hb2 (by omega)
    have HRo : Hid (C.RecOwn w1 (w.heap.size + 2) r aN nN cN aT nT cT) := Lib.hid ⟨hSz.out ▸ ho1, hSz.out ▸ ho2⟩
    have hr2 : C.Rec3 (w1.alloc (.cells #[.int .i64 r.kind, .slice aN nN cN, .slice aT nT cT] 56)) w.heap.size 0 none 0 0 none 0 0 := C.rec3_below hr1 ((Below.refl w1.heap.size w1).alloc (Nat.le_refl _) _) (by have := hb2.size; have := hSz.out; omega)
    have Hr2 := Lib.hid hr2
    obtain ⟨r1, r2, r3, r4, r5, r6⟩ := hr2
    have HB1 : Hid (Below w.heap.size w (w1.alloc (.cells #[.int .i64 r.kind, .slice aN nN cN, .slice aT nT cT] 56))) := Lib.hid ((hB.out.trans (hb2.mono (by omega))).alloc (by have := hb2.size; have := hSz.out; omega) _)
    have HDc := Lib.hid hdc
    have HRo2 : Hid (C.RecOwn (w1.alloc (.cells #[.int .i64 r.kind, .slice aN nN cN, .slice aT nT cT] 56)) (w.heap.size + 2) r aN nN cN aT nT cT) := Lib.hid (HRo.out.below ((Below.refl w1.heap.size w1).alloc (Nat.le_refl _) _) (Nat.le_refl _))
    clear hdc ho1 ho2 hb hb2 hr1
    go_wp2_with fail
    obtain ⟨q1, q2, q3⟩ := rec_over Hr2.out (.int .i64 r.kind) (.slice aN nN cN) (.slice aT nT cT)
    refine bodyPost_ret (v := .tuple #[.agg #[.int .i64 r.kind, .slice aN nN cN, .slice aT nT cT], .bool true]) (by simp [results, Try.results48, go_sem, q1, q2, q3]) rfl ?_
    have hro := ((HRo2.out.set (p := ⟨w.heap.size, 0, none⟩) (.int .i64 r.kind) (by simp)).set (p := ⟨w.heap.size, 1, none⟩) (.slice aN nN cN) (by simp)).set (p := ⟨w.heap.size, 2, none⟩) (.slice aT nT cT) (by simp)
    exact ⟨((HB1.out.setCell (Nat.le_refl _) _).setCell (Nat.le_refl _) _).setCell (Nat.le_refl _) _, .inl ⟨r, aN, nN, cN, aT, nT, cT, HDc.out, ⟨C.own_mono hro.nums (by omega), C.own_mono hro.texts (by omega)⟩, rfl⟩⟩
  · unfold C.zeroRec at he
    subst he
    have hb2 : Below (w.heap.size + 2) (two0 w) w1 := (below_drewN _ (two0 w) nq).trans (hSz.out ▸ hb)
    have hr1 := C.rec3_below hR.out hb2 (by omega)
    have hr2 : C.Rec3 (w1.alloc (.cells #[.int .i64 0, .slice none 0 0, .slice none 0 0] 56)) w.heap.size 0 none 0 0 none 0 0 := C.rec3_below hr1 ((Below.refl w1.heap.size w1).alloc (Nat.le_refl _) _) (by have := hb2.size; have := hSz.out; omega)
    have Hr2 := Lib.hid hr2
    obtain ⟨r1, r2, r3, r4, r5, r6⟩ := hr2
    have HB1 : Hid (Below w.heap.size w (w1.alloc (.cells #[.int .i64 0, .slice none 0 0, .slice none 0 0] 56))) := Lib.hid ((hB.out.trans (hb2.mono (by omega))).alloc (by have := hb2.size; have := hSz.out; omega) _)
    have HDc := Lib.hid hdc
    clear hdc hb hb2 hr1
    go_wp2_with fail
    obtain ⟨q1, q2, q3⟩ := rec_over Hr2.out (.int .i64 0) (.slice none 0 0) (.slice none 0 0)
    refine bodyPost_ret (v := .tuple #[zrec, .bool false]) (by simp [zrec, results, Try.results48, go_sem, q1, q2, q3]) rfl ?_
    exact ⟨((HB1.out.setCell (Nat.le_refl _) _).setCell (Nat.le_refl _) _).setCell (Nat.le_refl _) _, .inr ⟨HDc.out, rfl⟩⟩
end Go.Proofs.Ytipfhcplmlmaeaa
