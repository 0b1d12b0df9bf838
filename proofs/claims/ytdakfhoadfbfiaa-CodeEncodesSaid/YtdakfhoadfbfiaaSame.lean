/-
  The statements' own comparison of two records answers whether they are the same. CONDITIONS: none up to a million numbers and texts.
-/
import Derived.Test.YtdakfhoadfbfiaaEncs
import Derived.Deep.QuietTactic
import Derived.BigQuiet
namespace Go.Proofs.Ytdakfhoadfbfiaa
open Go.RowKit
set_option linter.unusedVariables false
set_option linter.unusedSimpArgs false
set_option maxRecDepth 20000

theorem str_ne {a b : ByteArray} (h : a ≠ b) : (a.toList == b.toList) = false := by
  rw [Bool.eq_false_iff]
  intro he
  have := eq_of_beq he
  rw [ByteArray.toList_eq, ByteArray.toList_eq] at this
  exact h (ByteArray.ext (Array.ext' this))

/-- the two boxes -/
def boxes (w : World) (v v' : Array Value) : World := (w.alloc (.cells v 25)).alloc (.cells v' 25)

theorem boxes_below (w : World) (v v' : Array Value) (n : Nat) : Below w.heap.size w ((boxes w v v').drewN n) :=
  (((Below.refl _ w).alloc (Nat.le_refl _) _).alloc (by simp) _).trans ⟨rfl, rfl, rfl, Nat.le_refl _, fun _ _ => rfl⟩

theorem boxes_cell (w : World) (a b c a' b' c' : Value) (n : Nat) :
    ((boxes w #[a, b, c] #[a', b', c']).drewN n).cell? ⟨w.heap.size, 0, none⟩ = some a ∧ ((boxes w #[a, b, c] #[a', b', c']).drewN n).cell? ⟨w.heap.size, 1, none⟩ = some b ∧ ((boxes w #[a, b, c] #[a', b', c']).drewN n).cell? ⟨w.heap.size, 2, none⟩ = some c ∧
    ((boxes w #[a, b, c] #[a', b', c']).drewN n).cell? ⟨w.heap.size + 1, 0, none⟩ = some a' ∧ ((boxes w #[a, b, c] #[a', b', c']).drewN n).cell? ⟨w.heap.size + 1, 1, none⟩ = some b' ∧ ((boxes w #[a, b, c] #[a', b', c']).drewN n).cell? ⟨w.heap.size + 1, 2, none⟩ = some c' := by
  unfold boxes
  refine ⟨?_, ?_, ?_, ?_, ?_, ?_⟩ <;> go_simp

/-- lists that are alike in length and differ, differ somewhere first -/
theorem first_diff {α : Type} [DecidableEq α] : ∀ (l m : List α), l.length = m.length → l ≠ m → ∃ k x y, l[k]? = some x ∧ m[k]? = some y ∧ x ≠ y ∧ l.take k = m.take k
  | [], [], _, h => absurd rfl h
  | x :: l, y :: m, hl, h => by
    by_cases e : x = y
    · subst e
      obtain ⟨k, a, b, h1, h2, h3, h4⟩ := first_diff l m (by simpa using hl) (fun e => h (by rw [e]))
      exact ⟨k + 1, a, b, by simpa using h1, by simpa using h2, h3, by simp [h4]⟩
    · exact ⟨0, x, y, rfl, rfl, e, rfl⟩

def SPost (r s : M.Rc) (e : Ending) : Prop := (e = .returned (.bool true) ∧ r.nums = s.nums ∧ r.texts = s.texts) ∨ (e = .returned (.bool false) ∧ (r.nums ≠ s.nums ∨ r.texts ≠ s.texts))

theorem below_drewN (B : Nat) (w : World) (n : Nat) : Below B w (w.drewN n) := ⟨rfl, rfl, rfl, Nat.le_refl _, fun _ _ => rfl⟩

theorem take_diff {α : Type} {l m : List α} {k : Nat} {x y : α} (hx : l[k]? = some x) (hy : m[k]? = some y) (h : x ≠ y) : l ≠ m := by
  intro e; subst e; rw [hx] at hy; injection hy with hy; exact h hy

set_option maxHeartbeats 2000000 in
theorem same_any (w : World) (r s : M.Rc) (aN : Option Addr) (nN cN : Nat) (aT : Option Addr) (nT cT : Nat) (bN : Option Addr) (mN dN : Nat) (bT : Option Addr) (mT dT : Nat) (h : RecAt w r aN nN cN aT nT cT) (h' : RecAt w s bN mN dN bT mT dT)
    (hk : r.kind = s.kind) (hn : nN = mN) (ht : nT = mT) (hln : nN ≤ 1000000) (hlt : nT ≤ 1000000) :
    Calls Try.prog 21 #[.agg #[.int .i64 r.kind, .slice aN nN cN, .slice aT nT cT], .agg #[.int .i64 s.kind, .slice bN mN dN, .slice bT mT dT]] w fun e w' => SPost r s e ∧ Below w.heap.size w w' := by
  subst hn ht
  have Hk := Lib.hid hk
  have H := Lib.hid h
  have H' := Lib.hid h'
  clear h h' hk
  have hkk : (r.kind == s.kind) = true := by rw [beq_iff_eq]; exact Hk.out
  have hkk2 : (r.kind != s.kind) = false := by simp [Hk.out]
  have hnI : (nN : Int) ≤ 1000000 := by omega
  have htI : (nT : Int) ≤ 1000000 := by omega
  have hnn : (nN != nN) = false := by simp
  have HB := Lib.hid (((Below.refl w.heap.size w).alloc (Nat.le_refl _) (.cells #[.int .i64 r.kind, .slice aN nN cN, .slice aT nT cT] 25)).alloc (by simp) (.cells #[.int .i64 s.kind, .slice bN nN dN, .slice bT nT dT] 25))
  have HC := Lib.hid (boxes_cell w (.int .i64 r.kind) (.slice aN nN cN) (.slice aT nT cT) (.int .i64 s.kind) (.slice bN nN dN) (.slice bT nT dT) 0)
  go_enter Try.func21, Try.ntmps21
  go_wp2
  go_loopw [5] (fun i wr => ∃ k : Nat, k ≤ nN ∧ i = .int .i64 k ∧ r.nums.take k = s.nums.take k ∧ Below (w.heap.size + 2) (boxes w #[.int .i64 r.kind, .slice aN nN cN, .slice aT nT cT] #[.int .i64 s.kind, .slice bN nN dN, .slice bT nT dT]) wr) (fun i _ => nN - (intOf i).toNat)
  case atStart => exact ⟨0, by omega, rfl, rfl, Below.refl _ _⟩
  case round =>
    obtain ⟨k, hkl, rfl, heq, hb⟩ := hrel
    have Hb := Lib.hid hb
    have Heq := Lib.hid heq
    clear hb heq
    obtain ⟨c1, c2, c3, c4, c5, c6⟩ := HC.out
    have e1 : wr.cell? ⟨w.heap.size, 1, none⟩ = some (.slice aN nN cN) := by rw [Hb.out.cell (by simp)]; exact c2
    have e2 : wr.cell? ⟨w.heap.size + 1, 1, none⟩ = some (.slice bN nN dN) := by rw [Hb.out.cell (by simp)]; exact c5
    have e3 : wr.cell? ⟨w.heap.size, 2, none⟩ = some (.slice aT nT cT) := by rw [Hb.out.cell (by simp)]; exact c3
    have e4 : wr.cell? ⟨w.heap.size + 1, 2, none⟩ = some (.slice bT nT dT) := by rw [Hb.out.cell (by simp)]; exact c6
    clear c1 c2 c3 c4 c5 c6
    have hk0 : (0 : Int) ≤ (k : Int) := by omega
    by_cases hlt : k < nN
    · have hltI : (k : Int) < (nN : Int) := by omega
      obtain ⟨b, off, x, rfl, hbx, hx, hcx⟩ := row_i64 H.out.nums k hlt
      obtain ⟨b', off', y, rfl, hby, hy, hcy⟩ := row_i64 H'.out.nums k hlt
      have f1 : wr.cell? ⟨b, off + k, none⟩ = some (.int .i64 x) := by
        rw [Hb.out.cell (p := ⟨b, off + k, none⟩) (by simp; omega)]; exact (HB.out.cell (p := ⟨b, off + k, none⟩) hbx).trans hcx
      have f2 : wr.cell? ⟨b', off' + k, none⟩ = some (.int .i64 y) := by
        rw [Hb.out.cell (p := ⟨b', off' + k, none⟩) (by simp; omega)]; exact (HB.out.cell (p := ⟨b', off' + k, none⟩) hby).trans hcy
      have Hx := Lib.hid hx
      have Hy := Lib.hid hy
      clear hx hy hcx hcy hbx hby
      by_cases hxy : x = y
      · have hd1 : (x != y) = false := by simp [hxy]
        have Hxy := Lib.hid hxy
        clear hxy
        go_wp2_with fail
        go_quiet (fail)
        go_wp2_with fail
        go_roundw
        case rel => exact ⟨k + 1, by omega, by go_num, by rw [take_one Hx.out, take_one Hy.out, Heq.out, Hxy.out], Hb.out.trans (below_drewN _ _ _)⟩
        case measure => simp [intOf]; omega
      · have hd1 : (x != y) = true := by simp [hxy]
        have Hxy := Lib.hid hxy
        clear hxy
        go_wp2_with fail
        go_quiet (fail)
        go_wp2_with fail
        go_ret
        exact ⟨.inr ⟨rfl, .inl (take_diff Hx.out Hy.out Hxy.out)⟩, HB.out.trans ((Hb.out.mono (by omega)).trans (below_drewN _ _ _))⟩
    · obtain rfl : k = nN := by omega
      have hge : (k : Int) ≤ (k : Int) := Int.le_refl _
      have Hnums : Hid (r.nums = s.nums) := by
        have := Heq.out
        rwa [List.take_of_length_le (by rw [← H.out.lenN]; exact Nat.le_refl _), List.take_of_length_le (by rw [← H'.out.lenN]; exact Nat.le_refl _)] at this
      clear Heq e2
      go_wp2_with fail
      go_loopw [6] (fun i wr => ∃ j : Nat, j ≤ nT ∧ i = .int .i64 j ∧ r.texts.take j = s.texts.take j ∧ Below (w.heap.size + 2) (boxes w #[.int .i64 r.kind, .slice aN k cN, .slice aT nT cT] #[.int .i64 s.kind, .slice bN k dN, .slice bT nT dT]) wr) (fun i _ => nT - (intOf i).toNat)
      case atStart => exact ⟨0, by omega, rfl, rfl, Hb.out⟩
      case round =>
        clear e1 e3 e4 Hb
        obtain ⟨j, hjl, rfl, heq, hb⟩ := hrel
        have Hb := Lib.hid hb
        have Heq := Lib.hid heq
        clear hb heq
        obtain ⟨c1, c2, c3, c4, c5, c6⟩ := HC.out
        have e3 : wr.cell? ⟨w.heap.size, 2, none⟩ = some (.slice aT nT cT) := by rw [Hb.out.cell (by simp)]; exact c3
        have e4 : wr.cell? ⟨w.heap.size + 1, 2, none⟩ = some (.slice bT nT dT) := by rw [Hb.out.cell (by simp)]; exact c6
        clear c1 c2 c3 c4 c5 c6
        have hj0 : (0 : Int) ≤ (j : Int) := by omega
        by_cases hjt : j < nT
        · have hltI : (j : Int) < (nT : Int) := by omega
          obtain ⟨b, off, x, rfl, hbx, hx, hcx⟩ := row_str H.out.texts j hjt
          obtain ⟨b', off', y, rfl, hby, hy, hcy⟩ := row_str H'.out.texts j hjt
          have f1 : wr.cell? ⟨b, off + j, none⟩ = some (.string x) := by
            rw [Hb.out.cell (p := ⟨b, off + j, none⟩) (by simp; omega)]; exact (HB.out.cell (p := ⟨b, off + j, none⟩) hbx).trans hcx
          have f2 : wr.cell? ⟨b', off' + j, none⟩ = some (.string y) := by
            rw [Hb.out.cell (p := ⟨b', off' + j, none⟩) (by simp; omega)]; exact (HB.out.cell (p := ⟨b', off' + j, none⟩) hby).trans hcy
          have Hx := Lib.hid hx
          have Hy := Lib.hid hy
          clear hx hy hcx hcy hbx hby
          by_cases hxy : x = y
          · have hd1 : (x.toList == y.toList) = true := by simp [hxy]
            have Hxy := Lib.hid hxy
            clear hxy
            go_wp2_with fail
            go_quiet (fail)
            go_wp2_with fail
            go_roundw
            case rel => exact ⟨j + 1, by omega, by go_num, by rw [take_one Hx.out, take_one Hy.out, Heq.out, Hxy.out], Hb.out.trans (below_drewN _ _ _)⟩
            case measure => simp [intOf]; omega
          · have hd1 : (x.toList == y.toList) = false := str_ne hxy
            have Hxy := Lib.hid hxy
            clear hxy
            go_wp2_with fail
            go_quiet (fail)
            go_wp2_with fail
            go_ret
            exact ⟨.inr ⟨rfl, .inr (take_diff Hx.out Hy.out Hxy.out)⟩, HB.out.trans ((Hb.out.mono (by omega)).trans (below_drewN _ _ _))⟩
        · obtain rfl : j = nT := by omega
          have hge2 : (j : Int) ≤ (j : Int) := Int.le_refl _
          have Htexts : Hid (r.texts = s.texts) := by
            have := Heq.out
            rwa [List.take_of_length_le (by rw [← H.out.lenT]; exact Nat.le_refl _), List.take_of_length_le (by rw [← H'.out.lenT]; exact Nat.le_refl _)] at this
          clear Heq
          go_wp2_with fail
          go_ret
          exact ⟨.inl ⟨rfl, Hnums.out, Htexts.out⟩, HB.out.trans (Hb.out.mono (by omega))⟩

theorem same_yes (w : World) (r : M.Rc) (aN : Option Addr) (nN cN : Nat) (aT : Option Addr) (nT cT : Nat) (bN : Option Addr) (mN dN : Nat) (bT : Option Addr) (mT dT : Nat) (h : RecAt w r aN nN cN aT nT cT) (h' : RecAt w r bN mN dN bT mT dT)
    (hln : nN ≤ 1000000) (hlt : nT ≤ 1000000) :
    Calls Try.prog 21 #[.agg #[.int .i64 r.kind, .slice aN nN cN, .slice aT nT cT], .agg #[.int .i64 r.kind, .slice bN mN dN, .slice bT mT dT]] w fun e w' => e = .returned (.bool true) ∧ Below w.heap.size w w' := by
  refine (same_any w r r aN nN cN aT nT cT bN mN dN bT mT dT h h' rfl (h.lenN.trans h'.lenN.symm) (h.lenT.trans h'.lenT.symm) hln hlt).mono ?_
  rintro e w' ⟨h1 | h1, hb⟩
  · exact ⟨h1.1, hb⟩
  · rcases h1.2 with h2 | h2 <;> exact absurd rfl h2

theorem same_no (w : World) (r s : M.Rc) (aN : Option Addr) (nN cN : Nat) (aT : Option Addr) (nT cT : Nat) (bN : Option Addr) (mN dN : Nat) (bT : Option Addr) (mT dT : Nat) (h : RecAt w r aN nN cN aT nT cT) (h' : RecAt w s bN mN dN bT mT dT)
    (hln : nN ≤ 1000000) (hlt : nT ≤ 1000000) (hne : r ≠ s) :
    Calls Try.prog 21 #[.agg #[.int .i64 r.kind, .slice aN nN cN, .slice aT nT cT], .agg #[.int .i64 s.kind, .slice bN mN dN, .slice bT mT dT]] w fun e w' => e = .returned (.bool false) ∧ Below w.heap.size w w' := by
  by_cases hs : r.kind = s.kind ∧ nN = mN ∧ nT = mT
  · obtain ⟨h1, h2, h3⟩ := hs
    refine (same_any w r s aN nN cN aT nT cT bN mN dN bT mT dT h h' h1 h2 h3 hln hlt).mono ?_
    rintro e w' ⟨h4 | h4, hb⟩
    · exfalso
      apply hne
      cases r
      cases s
      simp only at h1 h4
      rw [h1, h4.2.1, h4.2.2]
    · exact ⟨h4.1, hb⟩
  · clear h h' hne
    by_cases h1 : r.kind = s.kind
    · have g1 : (r.kind != s.kind) = false := by simp [h1]
      have g1' : (r.kind == s.kind) = true := by simp [h1]
      by_cases h2 : nN = mN
      · have g2 : ((nN : Int) != (mN : Int)) = false := by simp [h2]
        have g2' : ((nN : Int) == (mN : Int)) = true := by simp [h2]
        have h3 : nT ≠ mT := fun e => hs ⟨h1, h2, e⟩
        have g3 : ((nT : Int) != (mT : Int)) = true := by simp; omega
        have g3' : ((nT : Int) == (mT : Int)) = false := by rw [beq_eq_false_iff_ne]; omega
        clear hs h1 h2 h3
        go_enter Try.func21, Try.ntmps21
        go_wp2
        go_ret
        exact ⟨rfl, ((Below.refl _ _).alloc (Nat.le_refl _) _).alloc (by simp) _⟩
      · have g2 : ((nN : Int) != (mN : Int)) = true := by simp; omega
        have g2' : ((nN : Int) == (mN : Int)) = false := by rw [beq_eq_false_iff_ne]; omega
        clear hs h1 h2
        go_enter Try.func21, Try.ntmps21
        go_wp2
        go_ret
        exact ⟨rfl, ((Below.refl _ _).alloc (Nat.le_refl _) _).alloc (by simp) _⟩
    · have g1 : (r.kind != s.kind) = true := by simp [h1]
      have g1' : (r.kind == s.kind) = false := by rw [beq_eq_false_iff_ne]; exact h1
      clear hs h1
      go_enter Try.func21, Try.ntmps21
      go_wp2
      go_ret
      exact ⟨rfl, ((Below.refl _ _).alloc (Nat.le_refl _) _).alloc (by simp) _⟩
end Go.Proofs.Ytdakfhoadfbfiaa
