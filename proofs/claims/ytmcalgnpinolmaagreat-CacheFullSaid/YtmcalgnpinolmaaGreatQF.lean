/-
  CacheFull: the literal, the states.
  CacheFull: what becomes of the entries.
  CacheFull: the walk.
-/
import Derived.Test.YtmcalgnpinolmaaGreatQE
namespace Go.Proofs.YtmcalgnpinolmaaGreat
open Go.RowKit Go.Maps
set_option linter.unusedVariables false
set_option linter.unusedSimpArgs false
set_option maxRecDepth 20000
namespace Q
variable {w0 : World} {B : Bk} {G : Gm} {V V' : Vi} {K K' : Int}

def dataF : ByteArray := ⟨#[100, 97, 116, 97, 100, 97, 116, 97]⟩
def entF (b s : Int) : En := ⟨b, 1, s, dataF, true, -1, 0⟩

theorem putF (w : World) (h : Cs w B G V K) (hK : K ≤ 600000000) (b s : Int) (hb0 : -9223372036854775808 ≤ b) (hb1 : b ≤ 9223372036854775807) (hs0 : 0 ≤ s) (hs1 : s ≤ 1000) (sB cB : Nat) (hs : w.cell? ⟨sB, 0, none⟩ = some (.int .i64 s)) (hf : w.frozen? ⟨sB, 0, none⟩ = false) (hc : w.cell? ⟨cB, 0, none⟩ = some (.pointer (some ⟨B.qB, 0, none⟩))) (hne : cB ≠ sB) (hsB : sB ∉ B.l) :
    Calls Tryz.prog 33 #[.int .i64 b, .pointer (some ⟨sB, 0, none⟩), .pointer (some ⟨cB, 0, none⟩)] w fun e w' => e = .returned (.int .i64 (putE G.nb G.N V (entF b (s + 1)))) ∧ After (w.setCell ⟨sB, 0, none⟩ (.int .i64 (s + 1))) B G (putVi G.nb G.N V (entF b (s + 1))) (K + 2002) w' := by
  have hl : sB < w.heap.size := World.block_lt_of_cell? w _ hs
  have hbs : But [sB] w (w.setCell ⟨sB, 0, none⟩ (.int .i64 (s + 1))) := (But.refl _ _).set _ (.inl (by simp))
  have HP : Hid (Calls Tryz.prog 23 #[.pointer (some ⟨B.qB, 0, none⟩), .agg #[.int .i64 b, .int .i64 1, .int .i64 (s + 1), .string ⟨#[100, 97, 116, 97, 100, 97, 116, 97]⟩, .bool true, .int .i64 (-1), .int .i64 0]] (w.setCell ⟨sB, 0, none⟩ (.int .i64 (s + 1))) fun e w' => e = .returned (.int .i64 (putE G.nb G.N V (entF b (s + 1)))) ∧ After (w.setCell ⟨sB, 0, none⟩ (.int .i64 (s + 1))) B G (putVi G.nb G.N V (entF b (s + 1))) (K + 2002) w') := Lib.hid (put_cs _ (h.but hbs (by intro x hx; simp; intro e; subst e; exact hsB hx)) hK (entF b (s + 1)) hb0 hb1)
  clear h hbs
  go_enter Tryz.func33, Tryz.ntmps33
  go_wp2_with (go_at_call 23; with_reducible refine HP.out.mono ?_; rintro e w1 ⟨rfl, h1⟩; have H1 := Lib.hid h1; clear h1)
  go_ret
  exact ⟨rfl, H1.out⟩

/-- a cache of the call's own, a variable that points to it, and a number -/
structure Pf (w0 w : World) (B : Bk) (G : Gm) (V : Vi) (K : Int) (qB cB sB : Nat) (s : Int) : Prop where
  rq : Rq w0 w B G V K
  eq : B.qB = qB
  cl : w.cell? ⟨cB, 0, none⟩ = some (.pointer (some ⟨qB, 0, none⟩))
  sq : w.cell? ⟨sB, 0, none⟩ = some (.int .i64 s)
  fz : w.frozen? ⟨sB, 0, none⟩ = false
  nm : cB ∉ B.l ∧ sB ∉ B.l ∧ cB ≠ sB ∧ w0.heap.size ≤ sB
theorem Pf.but {w w' : World} {qB cB sB : Nat} {s : Int} {l : List Nat} (h : Pf w0 w B G V K qB cB sB s) (hb : But l w w') (h1 : cB ∉ l) (h2 : sB ∉ l) (h3 : ∀ x ∈ B.l, x ∉ l) (h4 : ∀ x ∈ l, w0.heap.size ≤ x) : Pf w0 w' B G V K qB cB sB s :=
  ⟨⟨h.rq.cs.but hb h3, h.rq.be.trans (hb.to_below h4 h.rq.be.size), h.rq.od⟩, h.eq, by rw [hb.cell (World.block_lt_of_cell? w _ h.cl) h1]; exact h.cl, by rw [hb.cell (World.block_lt_of_cell? w _ h.sq) h2]; exact h.sq,
    by rw [hb.frozen (World.block_lt_of_cell? w _ h.sq) h2]; exact h.fz, h.nm⟩
theorem Pf.below {w w' : World} {qB cB sB : Nat} {s : Int} (h : Pf w0 w B G V K qB cB sB s) (hb : Below w.heap.size w w') : Pf w0 w' B G V K qB cB sB s := h.but (But.of_below hb) (by simp) (by simp) (by simp) (by simp)
theorem Pf.after {w w' : World} {qB cB sB : Nat} {s : Int} (h : Pf w0 w B G V K qB cB sB s) (a : After w B G V' K' w') : ∃ B', Pf w0 w' B' G V' K' qB cB sB s ∧ But B.l w w' := by
  obtain ⟨r, h1, h2, h3⟩ := h.rq.after a
  have hl := World.block_lt_of_cell? w _ h.cl
  have hl2 := World.block_lt_of_cell? w _ h.sq
  simp at hl hl2
  refine ⟨B.row r, ⟨h1, h.eq, by rw [h3.cell hl h.nm.1]; exact h.cl, by rw [h3.cell hl2 h.nm.2.1]; exact h.sq, by rw [h3.frozen hl2 h.nm.2.1]; exact h.fz, fun hm => ?_, fun hm => ?_, h.nm.2.2⟩, h3⟩
  · rcases row_l h2 _ hm with g | g
    · exact h.nm.1 g
    · omega
  · rcases row_l h2 _ hm with g | g
    · exact h.nm.2.1 g
    · omega
theorem Pf.putF {w : World} {qB cB sB : Nat} {s x : Int} (h : Pf w0 w B G V K qB cB sB s) (hK : K ≤ 600000000) (b : Int) (hb0 : -9223372036854775808 ≤ b) (hb1 : b ≤ 9223372036854775807) (hs0 : 0 ≤ s) (hs1 : s ≤ 1000) (hx : putE G.nb G.N V (entF b (s + 1)) = x ∧ putVi G.nb G.N V (entF b (s + 1)) = V') :
    Calls Tryz.prog 33 #[.int .i64 b, .pointer (some ⟨sB, 0, none⟩), .pointer (some ⟨cB, 0, none⟩)] w fun e w' => e = .returned (.int .i64 x) ∧ ∃ B', Pf w0 w' B' G V' (K + 2002) qB cB sB (s + 1) ∧ But (sB :: B.l) w w' := by
  have hc := h.cl
  rw [← h.eq] at hc
  have hbs : But [sB] w (w.setCell ⟨sB, 0, none⟩ (.int .i64 (s + 1))) := (But.refl _ _).set _ (.inl (by simp))
  refine (Q.putF w h.rq.cs hK b s hb0 hb1 hs0 hs1 sB cB h.sq h.fz hc h.nm.2.2.1 h.nm.2.1).mono ?_
  rintro e w' ⟨rfl, ha⟩
  rw [hx.1, hx.2] at *
  have h2 : Pf w0 (w.setCell ⟨sB, 0, none⟩ (.int .i64 (s + 1))) B G V K qB cB sB (s + 1) := by
    have hl2 := World.block_lt_of_cell? w _ h.sq
    refine ⟨⟨h.rq.cs.but hbs (by intro x hx; simp; intro e; subst e; exact h.nm.2.1 hx), h.rq.be.trans (hbs.to_below (by simp; exact h.nm.2.2.2) h.rq.be.size), h.rq.od⟩, h.eq, ?_, ?_, ?_, h.nm⟩
    · rw [hbs.cell (World.block_lt_of_cell? w _ h.cl) (by simpa using h.nm.2.2.1)]; exact h.cl
    · exact World.cell?_setCell_same _ _ _ (by rw [h.sq])
    · rw [World.frozen?_setCell]; exact h.fz
  obtain ⟨B', h3, h4⟩ := h2.after ha
  exact ⟨rfl, B', h3, (hbs.mono (by simp)).trans (h4.mono (fun x hx => List.mem_cons_of_mem _ hx))⟩
end Q
end Go.Proofs.YtmcalgnpinolmaaGreat
namespace Go.Proofs.YtmcalgnpinolmaaGreat
open Go.RowKit Go.Maps
set_option linter.unusedVariables false
set_option linter.unusedSimpArgs false
set_option maxRecDepth 20000
namespace Q
variable {V V' : Vi}

def FV (k : Nat) : Vi := ⟨fun b => if 0 ≤ b ∧ b < (k : Int) then some (entF b (b + 1)) else none, ⟨if k = 0 then 0 else 1, (k : Int), 0, 0, 0, 0⟩⟩

theorem FV_zero : FV 0 = ⟨vis none0, kp0⟩ := by
  unfold FV kp0
  congr 1
  funext b
  rw [if_neg (by omega)]
  rfl
theorem cnt_low (n k : Nat) : cnt n (fun b => decide (0 ≤ b ∧ b < (k : Int))) = min n k := by
  induction n with
  | zero => simp [cnt]
  | succ n ih =>
    unfold cnt
    rw [ih]
    by_cases h : n < k
    · simp [h]; omega
    · simp [h]; omega
theorem FV_num {k : Nat} (h : k ≤ 32) : num 32 (FV k).e = k := by
  have e : num 32 (FV k).e = cnt 32 (fun b => decide (0 ≤ b ∧ b < (k : Int))) := cnt_congr (fun b _ _ => by
    unfold FV
    simp only
    by_cases hb : 0 ≤ b ∧ b < (k : Int)
    · rw [if_pos hb, decide_eq_true hb]; rfl
    · rw [if_neg hb, decide_eq_false hb]; rfl)
  rw [e, cnt_low]
  omega
theorem chkF (b s : Int) (hb : 0 ≤ b ∧ b < 32) (hs : 1 ≤ s ∧ s ≤ 1000) : checkE 32 (entF b s) = 0 := by
  unfold checkE In1 In0 entF
  have e : dataF.size = 8 := rfl
  simp only [e]
  rw [if_neg (by simp; omega), if_neg (by simp), if_neg (by omega)]
theorem behindF (k : Kp) (b s : Int) : behind k (entF b s) = ⟨1, s, k.t0, k.t1, k.t2, k.t3⟩ := rfl

theorem ord_up {a b : Int} (h : a < b) : 0 < ord 1 b 1 a := by
  unfold ord
  rw [if_neg (by omega), if_neg (by omega), if_neg (by omega), if_pos h]
  omega
theorem FV_ord {k : Nat} {b s : Int} (h : (k : Int) < s) : 0 < ord (entF b s).ep (entF b s).sq (FV k).k.ep (FV k).k.sq := by
  show 0 < ord 1 s (if k = 0 then 0 else 1) (k : Int)
  by_cases h0 : k = 0
  · rw [if_pos h0]
    unfold ord
    rw [if_neg (by omega), if_pos (by omega)]
    omega
  · rw [if_neg h0]; exact ord_up h
theorem FV_in {k : Nat} {b : Int} (h : 0 ≤ b ∧ b < (k : Int)) : (FV k).e b = some (entF b (b + 1)) := if_pos h
theorem FV_out {k : Nat} {b : Int} (h : ¬ (0 ≤ b ∧ b < (k : Int))) : (FV k).e b = none := if_neg h

/-- one more block, as long as there is room -/
theorem FV_put {N k : Nat} (hN : N ≤ 38) (hk : k < N - 6) : putE 32 N (FV k) (entF (k : Int) ((k : Int) + 1)) = 0 ∧ putVi 32 N (FV k) (entF (k : Int) ((k : Int) + 1)) = FV (k + 1) := by
  have h := put_yes (nb := 32) (N := N) (V := FV k) (x := entF (k : Int) ((k : Int) + 1)) (chkF _ _ (by omega) (by omega)) (FV_ord (by omega))
    (by unfold fullV; rw [FV_num (by omega)]; omega)
  refine ⟨h.1, h.2.trans ?_⟩
  have e : updV (FV k).e (k : Int) (some (entF (k : Int) ((k : Int) + 1))) = (FV (k + 1)).e := by
    funext b
    unfold updV
    by_cases hb : b = (k : Int)
    · subst hb
      rw [if_pos rfl, FV_in (by omega)]
    · rw [if_neg hb]
      by_cases h2 : 0 ≤ b ∧ b < (k : Int)
      · rw [FV_in h2, FV_in (by omega)]
      · rw [FV_out h2, FV_out (by omega)]
  show (⟨updV (FV k).e (k : Int) (some (entF (k : Int) ((k : Int) + 1))), behind (FV k).k (entF (k : Int) ((k : Int) + 1))⟩ : Vi) = ⟨(FV (k + 1)).e, (FV (k + 1)).k⟩
  rw [e, behindF]
  show (⟨_, ⟨1, (k : Int) + 1, 0, 0, 0, 0⟩⟩ : Vi) = ⟨_, ⟨if k + 1 = 0 then 0 else 1, ((k + 1 : Nat) : Int), 0, 0, 0, 0⟩⟩
  rw [if_neg (by omega)]
  rfl

theorem lowest_dirty {nb : Nat} {e : Vm} (h : ∀ b x, e b = some x → x.dirty = true) : lowest nb e = none := by
  unfold lowest
  have : (allV nb e).filter (fun x => !x.dirty) = [] := by
    rw [List.filter_eq_nil_iff]
    intro x hx
    obtain ⟨b, _, _, hb⟩ := mem_allV.1 hx
    simp [h b x hb]
  rw [this]; rfl
theorem lowest_only {nb : Nat} {e : Vm} {b : Int} {y : En} (hb : 0 ≤ b ∧ b < (nb : Int)) (h : e b = some y) (hd : y.dirty = false) (ho : ∀ c z, c ≠ b → e c = some z → z.dirty = true) : lowest nb e = some y := by
  have hy : y ∈ (allV nb e).filter (fun x => !x.dirty) := by
    rw [List.mem_filter]
    exact ⟨mem_allV.2 ⟨b, hb.1, hb.2, h⟩, by simp [hd]⟩
  have hall : ∀ z ∈ (allV nb e).filter (fun x => !x.dirty), z = y := fun z hz => by
    rw [List.mem_filter] at hz
    obtain ⟨c, _, _, hc⟩ := mem_allV.1 hz.1
    by_cases hcb : c = b
    · subst hcb; rw [h] at hc; injection hc with hc; exact hc.symm
    · have := ho c z hcb hc
      simp [this] at hz
  unfold lowest
  cases hl : (allV nb e).filter (fun x => !x.dirty) with
  | nil => rw [hl] at hy; cases hy
  | cons x l =>
    rw [hl] at hall
    show some (minL x l) = some y
    congr 1
    rcases minL_mem x l with g | g
    · rw [g]; exact hall x (by simp)
    · exact hall _ (List.mem_cons_of_mem _ g)

theorem FV_dirty {k : Nat} : ∀ b x, (FV k).e b = some x → x.dirty = true := by
  intro b x h
  unfold FV at h
  simp only at h
  split at h
  · injection h with h; subst h; rfl
  · cases h

/-- no block more -/
theorem FV_more {N k : Nat} (hN : N ≤ 37) (h8 : 8 ≤ N) (hk : k = N - 6) {b : Int} (hb : (k : Int) ≤ b ∧ b < 32) : putE 32 N (FV k) (entF b ((k : Int) + 1)) = 12 ∧ putVi 32 N (FV k) (entF b ((k : Int) + 1)) = FV k :=
  put_full (chkF _ _ (by omega) (by omega)) (FV_ord (by omega))
    ⟨FV_out (by show ¬ (0 ≤ b ∧ b < (k : Int)); omega), by rw [FV_num (by omega)]; omega⟩ (lowest_dirty FV_dirty)

/-- one of its own, once more; clean; and one more in its place -/
def F1 (k : Nat) (b : Int) : Vi := layV (FV k) (entF b ((k : Int) + 1 + 1))
def F2 (k : Nat) (b : Int) : Vi := cleanVi (F1 k b) b 1 ((k : Int) + 1 + 1)
def F3 (k : Nat) (b m : Int) : Vi := layV (dropV (F2 k b) b) (entF m ((k : Int) + 1 + 1 + 1))
theorem F1_at {k : Nat} {b : Int} : (F1 k b).e b = some (entF b ((k : Int) + 1 + 1)) := if_pos rfl
theorem F1_put {N k : Nat} (hN : N ≤ 37) (h8 : 8 ≤ N) (hk : k = N - 6) {b : Int} (hb : 0 ≤ b ∧ b < (k : Int)) : putE 32 N (FV k) (entF b ((k : Int) + 1 + 1)) = 0 ∧ putVi 32 N (FV k) (entF b ((k : Int) + 1 + 1)) = F1 k b :=
  put_yes (chkF _ _ (by omega) (by omega)) (FV_ord (by omega))
    (fun h => by have h1 := h.1; rw [show (FV k).e (entF b ((k : Int) + 1 + 1)).b = some (entF b (b + 1)) from FV_in hb] at h1; cases h1)
theorem F1_num {k : Nat} (hk : k ≤ 32) {b : Int} (hb : 0 ≤ b ∧ b < (k : Int)) : num 32 (F1 k b).e = k := by
  refine Eq.trans (cnt_congr (fun c _ _ => ?_)) (FV_num hk)
  by_cases hc : c = b
  · subst hc
    rw [F1_at, FV_in hb]; rfl
  · show (updV (FV k).e b _ c).isSome = _
    unfold updV
    rw [if_neg hc]
theorem F2_e {k : Nat} {b : Int} : (F2 k b).e = updV (F1 k b).e b (some ⟨b, 1, (k : Int) + 1 + 1, dataF, false, -1, 0⟩) := by
  show stepV (F1 k b).e (.clean b 1 ((k : Int) + 1 + 1)) = _
  unfold stepV
  simp only [F1_at]
  rw [if_pos ⟨rfl, rfl⟩]; rfl
theorem F1_clean {k : Nat} {b : Int} : cleanE (F1 k b) b 1 ((k : Int) + 1 + 1) = 0 := by
  unfold cleanE
  simp only [F1_at]
  rw [if_pos ⟨rfl, rfl⟩]
theorem F2_num {k : Nat} (hk : k ≤ 32) {b : Int} (hb : 0 ≤ b ∧ b < (k : Int)) : num 32 (F2 k b).e = k := by
  rw [F2_e]
  refine Eq.trans (cnt_congr (fun c _ _ => ?_)) (F1_num hk hb)
  unfold updV
  by_cases hc : c = b
  · subst hc; rw [if_pos rfl, F1_at]; rfl
  · rw [if_neg hc]
theorem F2_out {k : Nat} {b m : Int} (hb : 0 ≤ b ∧ b < (k : Int)) (hm : (k : Int) ≤ m) : (F2 k b).e m = none := by
  rw [F2_e]
  unfold updV
  rw [if_neg (by omega)]
  show (if m = b then _ else (FV k).e m) = none
  rw [if_neg (by omega)]
  exact FV_out (by omega)
theorem F3_put {N k : Nat} (hN : N ≤ 37) (h8 : 8 ≤ N) (hk : k = N - 6) {b m : Int} (hb : 0 ≤ b ∧ b < (k : Int)) (hm : (k : Int) ≤ m ∧ m < 32) : putE 32 N (F2 k b) (entF m ((k : Int) + 1 + 1 + 1)) = 0 ∧ putVi 32 N (F2 k b) (entF m ((k : Int) + 1 + 1 + 1)) = F3 k b m :=
  put_low (y := ⟨b, 1, (k : Int) + 1 + 1, dataF, false, -1, 0⟩) (chkF _ _ (by omega) (by omega)) (by
      have e1 : (F2 k b).k.ep = 1 := rfl
      have e2 : (F2 k b).k.sq = (k : Int) + 1 + 1 := rfl
      rw [e1, e2]
      exact ord_up (b := (k : Int) + 1 + 1 + 1) (a := (k : Int) + 1 + 1) (by omega))
    ⟨F2_out hb hm.1, by rw [F2_num (by omega) hb]; omega⟩
    (lowest_only (b := b) (by omega) (by rw [F2_e]; exact if_pos rfl) rfl (fun c z hc hz => by
      rw [F2_e] at hz
      unfold updV at hz
      rw [if_neg hc] at hz
      change updV (FV k).e b _ c = some z at hz
      unfold updV at hz
      rw [if_neg hc] at hz
      exact FV_dirty c z hz))
theorem F3_num {k : Nat} (hk : k ≤ 31) {b m : Int} (hb : 0 ≤ b ∧ b < (k : Int)) (hm : (k : Int) ≤ m ∧ m < 32) : num 32 (F3 k b m).e = k ∧ (F3 k b m).e b = none ∧ (F3 k b m).e m = some (entF m ((k : Int) + 1 + 1 + 1)) := by
  have e1 : (dropV (F2 k b) b).e b = none := if_pos rfl
  have e2 : (dropV (F2 k b) b).e m = none := by show (if m = b then _ else _) = none; rw [if_neg (by omega)]; exact F2_out hb hm.1
  have h2 := F2_num (k := k) (by omega) hb
  have n1 : num 32 (F2 k b).e = num 32 (dropV (F2 k b) b).e + 1 := cnt_set (b := b) hb.1 (by omega) (by rw [e1]; rfl) (by rw [F2_e]; show (updV _ b _ b).isSome = true; rw [show updV (F1 k b).e b (some _) b = some _ from if_pos rfl]; rfl) (fun c hc => by show _ = (updV (F2 k b).e b none c).isSome; unfold updV; rw [if_neg hc])
  have n2 : num 32 (F3 k b m).e = num 32 (dropV (F2 k b) b).e + 1 := cnt_set (b := m) (by omega) (by omega) (by rw [e2]; rfl) (by show (updV _ m _ m).isSome = true; rw [show updV (dropV (F2 k b) b).e m (some _) m = some _ from if_pos rfl]; rfl) (fun c hc => by show (updV (dropV (F2 k b) b).e m _ c).isSome = _; unfold updV; rw [if_neg hc])
  refine ⟨by omega, ?_, if_pos rfl⟩
  show (if b = m then _ else _) = none
  rw [if_neg (by omega)]; exact e1
end Q
end Go.Proofs.YtmcalgnpinolmaaGreat
namespace Go.Proofs.YtmcalgnpinolmaaGreat
open Go.RowKit Go.Maps
set_option linter.unusedVariables false
set_option linter.unusedSimpArgs false
set_option maxRecDepth 20000
namespace Q
variable {w0 : World} {B : Bk} {G : Gm} {V V' : Vi} {K K' : Int}

theorem Pf.mono {w : World} {qB cB sB : Nat} {s : Int} (h : Pf w0 w B G V K qB cB sB s) (hk : K ≤ K') : Pf w0 w B G V K' qB cB sB s := ⟨h.rq.mono hk, h.eq, h.cl, h.sq, h.fz, h.nm⟩

theorem law_open_r (w w1 : World) (hb : Below w.heap.size w w1) (r : Nat) (hr : r < 23) :
    Calls Tryz.prog 12 #[.int .u8 (r : Int)] w1 fun e w' => ∃ B : Bk, e = .returned (.tuple #[.pointer (some ⟨B.dB, 0, none⟩), .pointer (some ⟨B.qB, 0, none⟩), .int .i64 ((r : Int) + 8)]) ∧ Rq w w' B ⟨r + 10, 2, r + 8, 0, 1, 32⟩ (FV 0) 2 ∧ Below w1.heap.size w1 w' := by
  refine (law_open w w1 hb (r : Int) (by simp [Lit.wf, IntKind.min, IntKind.max, IntKind.signed, IntKind.bits]; omega)).mono ?_
  rintro e w' ⟨B, N, h1, h2, h3, rfl, h4, _, h5⟩
  rw [Int.tmod_eq_of_lt (by omega) (by omega)] at h3
  obtain rfl : N = r + 8 := by omega
  rw [FV_zero]
  refine ⟨B, ?_, h4, h5⟩
  rw [h3]

set_option maxHeartbeats 8000000 in
theorem full_any (x0 x1 : Int) (w : World) (f0 : (Lit.int .u8 x0).wf = true) (f1 : (Lit.int .u8 x1).wf = true) :
    Calls Tryz.prog 10 #[.int .u8 x0, .int .u8 x1] w fun e w' => e = .returned (.bool true) ∧ Below w.heap.size w w' := by
  obtain ⟨r, hr, hrm⟩ := u8_mod x0 23 (by decide) f0 (kI := 23) rfl
  obtain ⟨q, hq, hqm⟩ := u8_mod x1 (30 - r) (by omega) f1 (kI := 32 - ((r : Int) + 2)) (by omega)
  obtain ⟨p, hp, hpm⟩ := u8_mod x1 (r + 2) (by omega) f1 (kI := (r : Int) + 2) (by omega)
  have hx1 : 0 ≤ x1 ∧ x1 ≤ 255 := by
    simp [Lit.wf, IntKind.min, IntKind.max, IntKind.signed, IntKind.bits] at f1
    omega
  obtain ⟨hx10, hx11⟩ := hx1
  have HA := Lib.hid (awake_any w)
  have HLO := Lib.hid (fun w1 hb => law_open_r w w1 hb r hr)
  have Hr := Lib.hid hr
  have Hq := Lib.hid hq
  have Hp := Lib.hid hp
  have hrI : (r : Int) < 23 := by omega
  have hr0 : (0 : Int) ≤ (r : Int) := by omega
  have hq0 : (0 : Int) ≤ (q : Int) := by omega
  have hqI : (q : Int) < 30 := by omega
  have hp0 : (0 : Int) ≤ (p : Int) := by omega
  have hn6 : (r : Int) + 8 - 6 = (r : Int) + 2 := by omega
  have hd1 : ¬ (32 - ((r : Int) + 2) = 0) := by omega
  have hd2 : ¬ ((r : Int) + 2 = 0) := by omega
  have hmf : ∀ (fn : Fn) (first cap : Array Value) (w : World), (Instr.makeFunc fn first cap).run Tryz.prog w = .ok (.func fn first cap) w := fun _ _ _ _ => rfl
  clear f0 f1 hr hq hp
  go_enter Tryz.func10, Tryz.ntmps10
  go_wp2_with (first
    | (go_at_call 11; with_reducible refine HA.out.mono ?_; rintro e w1 ⟨rfl, hb1⟩; have HLO1 := Lib.hid (HLO.out w1 hb1); clear hb1)
    | (go_at_call 12; with_reducible refine HLO1.out.mono ?_; rintro e w2 ⟨B, rfl, hR, hb2⟩
       have HR := Lib.hid (hR.below ((Below.refl w2.heap.size w2).alloc (Nat.le_refl _) (.cells #[.pointer (some ⟨B.qB, 0, none⟩)] 25)))
       have HLt := Lib.hid hR.cs.lt
       have hRm := room_cs _ HR.out.cs
       rw [show (((r + 8 - 6 : Nat) : Int)) = (r : Int) + 2 from by omega] at hRm
       have HRm := Lib.hid hRm
       clear hR hb2 hRm)
    | (go_at_call 24; with_reducible refine HRm.out.mono ?_; rintro e w3 ⟨rfl, rfl⟩))
  have HPf0 : Hid (Pf w ((w2.alloc (.cells #[.pointer (some ⟨B.qB, 0, none⟩)] 25)).alloc (.cells #[.int .i64 0] 2)) B ⟨r + 10, 2, r + 8, 0, 1, 32⟩ (FV 0) 2 B.qB w2.heap.size (w2.heap.size + 1) ((0 : Nat) : Int)) := Lib.hid (by
    have hb := (Below.refl (w2.alloc (.cells #[.pointer (some ⟨B.qB, 0, none⟩)] 25)).heap.size (w2.alloc (.cells #[.pointer (some ⟨B.qB, 0, none⟩)] 25))).alloc (Nat.le_refl _) (.cells #[.int .i64 0] 2)
    have hl := HLt.out
    have hw := HR.out.be.size
    simp at hw
    refine ⟨HR.out.below hb, rfl, ?_, ?_, ?_, fun hm => Nat.lt_irrefl _ (hl _ hm), fun hm => by have := hl _ hm; omega, by omega, by omega⟩
    · rw [hb.cell (by simp), World.cell?_alloc_mark]; rfl
    · rw [show w2.heap.size + 1 = (w2.alloc (.cells #[.pointer (some ⟨B.qB, 0, none⟩)] 25)).heap.size by simp, World.cell?_alloc_mark]; rfl
    · have h := heap_alloc_new (w2.alloc (.cells #[.pointer (some ⟨B.qB, 0, none⟩)] 25)) (.cells #[.int .i64 0] 2)
      rw [show (w2.alloc (.cells #[.pointer (some ⟨B.qB, 0, none⟩)] 25)).heap.size = w2.heap.size + 1 by simp] at h
      unfold World.frozen?
      simp only [h]
      simp)
  clear HR HRm HLO HLO1
  go_loopw [11] (fun i wr => ∃ (k : Nat) (B1 : Bk), k ≤ r + 2 ∧ i = .int .i64 k ∧ Pf w wr B1 ⟨r + 10, 2, r + 8, 0, 1, 32⟩ (FV k) (2 + 2002 * (k : Int)) B.qB w2.heap.size (w2.heap.size + 1) (k : Int)) (fun i _ => (r + 2) - (RowKit.intOf i).toNat)
  case atStart => exact ⟨0, B, by omega, rfl, HPf0.out.mono (by simp)⟩
  case round =>
    obtain ⟨k, B1, hk, rfl, hP⟩ := hrel
    have pc := hP.cl
    by_cases hkl : k < r + 2
    · have hkI : (k : Int) < (r : Int) + 2 := by omega
      have hk0 : (0 : Int) ≤ (k : Int) := by omega
      have Hr := Hr.out
      have HP := Lib.hid (hP.putF (V' := FV (k + 1)) (x := 0) (by omega) (k : Int) (by omega) (by omega) (by omega) (by omega) (FV_put (N := r + 8) (by omega) (by omega)))
      have Hk := Lib.hid hkl
      clear hP hkl hk Hr
      go_wp2_with (go_at_call 33; with_reducible refine HP.out.mono ?_; rintro e w3 ⟨rfl, B2, hp2, _⟩
                   have HP2 := Lib.hid hp2
                   clear hp2)
      go_roundw
      case rel => exact ⟨k + 1, B2, by have := Hk.out; omega, by go_num, by have := HP2.out; rw [show ((k + 1 : Nat) : Int) = (k : Int) + 1 from by omega]; exact this.mono (by omega)⟩
      case measure => have := Hk.out; simp [RowKit.intOf]; omega
    · obtain rfl : k = r + 2 := by omega
      have hke : ((r + 2 : Nat) : Int) = (r : Int) + 2 := by omega
      have hkI : ¬ ((r : Int) + 2 < (r : Int) + 2) := by omega
      have Hr' := Hr.out
      have Hq' := Hq.out
      have Hp' := Hp.out
      have HP1 := Lib.hid (hP.putF (V' := FV (r + 2)) (x := 12) (by omega) ((r : Int) + 2 + (q : Int)) (by omega) (by omega) (by omega) (by omega) (FV_more (N := r + 8) (by omega) (by omega) (by omega) ⟨by omega, by omega⟩))
      have HF1 := Lib.hid (F1_put (N := r + 8) (k := r + 2) (b := (p : Int)) (by omega) (by omega) (by omega) ⟨by omega, by omega⟩)
      have HF1n := Lib.hid (F1_num (k := r + 2) (b := (p : Int)) (by omega) ⟨by omega, by omega⟩)
      have HF3 := Lib.hid (F3_put (N := r + 8) (k := r + 2) (b := (p : Int)) (m := (r : Int) + 2 + (q : Int)) (by omega) (by omega) (by omega) ⟨by omega, by omega⟩ ⟨by omega, by omega⟩)
      have HF3n := Lib.hid (F3_num (k := r + 2) (b := (p : Int)) (m := (r : Int) + 2 + (q : Int)) (by omega) ⟨by omega, by omega⟩ ⟨by omega, by omega⟩)
      obtain ⟨S, hS⟩ : ∃ S : Int, S = ((r + 2 : Nat) : Int) + 1 + 1 := ⟨_, rfl⟩
      have HS := Lib.hid hS
      clear hP hkl hk Hr' Hq' Hp' hS
      go_wp2_with (first
        | (go_at_call 33; with_reducible refine HP1.out.mono ?_; rintro e w3 ⟨rfl, B2, hp2, _⟩
           have HP2 := Lib.hid (hp2.putF (V' := F1 (r + 2) (p : Int)) (x := 0) (by have := Hr.out; omega) (p : Int) (by omega) (by have := Hp.out; have := Hr.out; omega) (by omega) (by have := Hr.out; omega) HF1.out)
           clear hp2)
        | (go_at_call 33; with_reducible refine HP2.out.mono ?_; rintro e w4 ⟨rfl, B3, hp3, _⟩
           have pc4 := hp3.cl
           have hq3 := hp3.eq
           have hall := all_cs w4 hp3.rq.cs
           rw [hq3, show num (32 : Nat) (F1 (r + 2) (p : Int)).e = r + 2 from HF1n.out] at hall
           have HAll := Lib.hid hall
           have HP3 := Lib.hid hp3
           clear hp3 hall hq3)
        | (go_at_call 20; with_reducible refine HAll.out.mono ?_; rintro e w5 ⟨a5, c5, rfl, _, hb5⟩
           have HP5 := Lib.hid (HP3.out.below hb5)
           have pc5 := HP5.out.cl
           have HGe : Hid (Calls Tryz.prog 25 #[.pointer (some ⟨B.qB, 0, none⟩), .int .i64 (p : Int)] w5 fun e w' => e = .returned (.tuple #[.agg #[.int .i64 (p : Int), .int .i64 1, .int .i64 S, .string ⟨#[100, 97, 116, 97, 100, 97, 116, 97]⟩, .bool true, .int .i64 (-1), .int .i64 0], .bool true]) ∧ Below w5.heap.size w5 w') := Lib.hid (by
             have hge := get_cs w5 HP5.out.rq.cs (p : Int) (by omega) (by have := Hp.out; have := Hr.out; omega)
             rw [F1_at, HP5.out.eq, ← HS.out] at hge
             exact hge)
           clear hb5)
        | (go_at_call 25; with_reducible refine HGe.out.mono ?_; rintro e w6 ⟨rfl, hb6⟩
           have HP6 := Lib.hid ((HP5.out.below hb6).below ((Below.refl w6.heap.size w6).alloc (Nat.le_refl _) (.cells #[.int .i64 (p : Int), .int .i64 1, .int .i64 S, .string ⟨#[100, 97, 116, 97, 100, 97, 116, 97]⟩, .bool true, .int .i64 (-1), .int .i64 0] 37)))
           have pc6 := HP6.out.cl
           have hcl := clean_cs (w6.alloc (.cells #[.int .i64 (p : Int), .int .i64 1, .int .i64 S, .string ⟨#[100, 97, 116, 97, 100, 97, 116, 97]⟩, .bool true, .int .i64 (-1), .int .i64 0] 37)) HP6.out.rq.cs (by have := Hr.out; omega) (p : Int) 1 S (by omega) (by have := Hp.out; have := Hr.out; omega)
           rw [HP6.out.eq, show cleanE (F1 (r + 2) (p : Int)) (p : Int) 1 S = 0 from by rw [HS.out]; exact F1_clean, show cleanVi (F1 (r + 2) (p : Int)) (p : Int) 1 S = F2 (r + 2) (p : Int) from by rw [HS.out]; rfl] at hcl
           have HCl := Lib.hid hcl
           clear hb6 hcl)
        | (go_at_call 26; with_reducible refine HCl.out.mono ?_; rintro e w7 ⟨rfl, ha7⟩
           obtain ⟨B7, hp7, _⟩ := HP6.out.after ha7
           have HP7 := Lib.hid (hp7.putF (V' := F3 (r + 2) (p : Int) ((r : Int) + 2 + (q : Int))) (x := 0) (by have := Hr.out; omega) ((r : Int) + 2 + (q : Int)) (by omega) (by have := Hr.out; omega) (by omega) (by have := Hr.out; omega) HF3.out)
           clear hp7 ha7)
        | (go_at_call 33; with_reducible refine HP7.out.mono ?_; rintro e w8 ⟨rfl, B8, hp8, _⟩
           have pc8 := hp8.cl
           have hq8 := hp8.eq
           have hall := all_cs w8 hp8.rq.cs
           rw [hq8, show num (32 : Nat) (F3 (r + 2) (p : Int) ((r : Int) + 2 + (q : Int))).e = r + 2 from HF3n.out.1] at hall
           have HAll2 := Lib.hid hall
           have HP8 := Lib.hid hp8
           clear hp8 hall hq8)
        | (go_at_call 20; with_reducible refine HAll2.out.mono ?_; rintro e w9 ⟨a9, c9, rfl, _, hb9⟩
           have HP9 := Lib.hid (HP8.out.below hb9)
           have pc9 := HP9.out.cl
           have HGe2 : Hid (Calls Tryz.prog 25 #[.pointer (some ⟨B.qB, 0, none⟩), .int .i64 (p : Int)] w9 fun e w' => e = .returned (.tuple #[.agg #[.int .i64 0, .int .i64 0, .int .i64 0, .string ⟨#[]⟩, .bool false, .int .i64 0, .int .i64 0], .bool false]) ∧ Below w9.heap.size w9 w') := Lib.hid (by
             have hge := get_cs w9 HP9.out.rq.cs (p : Int) (by omega) (by have := Hp.out; have := Hr.out; omega)
             rw [HF3n.out.2.1, HP9.out.eq] at hge
             exact hge)
           clear hb9)
        | (go_at_call 25; with_reducible refine HGe2.out.mono ?_; rintro e w10 ⟨rfl, hb10⟩
           have HP10 := Lib.hid ((HP9.out.below hb10).below ((Below.refl w10.heap.size w10).alloc (Nat.le_refl _) (.cells #[.int .i64 0, .int .i64 0, .int .i64 0, .string ⟨#[]⟩, .bool false, .int .i64 0, .int .i64 0] 37)))
           have pc10 := HP10.out.cl
           have HGe3 : Hid (Calls Tryz.prog 25 #[.pointer (some ⟨B.qB, 0, none⟩), .int .i64 ((r : Int) + 2 + (q : Int))] (w10.alloc (.cells #[.int .i64 0, .int .i64 0, .int .i64 0, .string ⟨#[]⟩, .bool false, .int .i64 0, .int .i64 0] 37)) fun e w' => e = .returned (.tuple #[.agg #[.int .i64 ((r : Int) + 2 + (q : Int)), .int .i64 1, .int .i64 (S + 1), .string ⟨#[100, 97, 116, 97, 100, 97, 116, 97]⟩, .bool true, .int .i64 (-1), .int .i64 0], .bool true]) ∧ Below (w10.alloc (.cells #[.int .i64 0, .int .i64 0, .int .i64 0, .string ⟨#[]⟩, .bool false, .int .i64 0, .int .i64 0] 37)).heap.size (w10.alloc (.cells #[.int .i64 0, .int .i64 0, .int .i64 0, .string ⟨#[]⟩, .bool false, .int .i64 0, .int .i64 0] 37)) w') := Lib.hid (by
             have hge := get_cs (w10.alloc (.cells #[.int .i64 0, .int .i64 0, .int .i64 0, .string ⟨#[]⟩, .bool false, .int .i64 0, .int .i64 0] 37)) HP10.out.rq.cs ((r : Int) + 2 + (q : Int)) (by omega) (by have := Hr.out; omega)
             rw [HF3n.out.2.2, HP10.out.eq, ← HS.out] at hge
             exact hge)
           clear hb10)
        | (go_at_call 25; with_reducible refine HGe3.out.mono ?_; rintro e w11 ⟨rfl, hb11⟩
           have HP11 := Lib.hid (HP10.out.below hb11)
           clear hb11))
      go_ret
      refine ⟨rfl, HP11.out.rq.be.trans (((Below.refl w11.heap.size w11).alloc (Nat.le_refl _) _).mono HP11.out.rq.be.size)⟩
end Q
end Go.Proofs.YtmcalgnpinolmaaGreat
