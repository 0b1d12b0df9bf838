/-
  What a sector says as a slot, by the document's own function Read; and what 'clash' tells.
-/
import Derived.Test.YtipfhcplmlmaeaaRef3
namespace Go.Proofs.Ytipfhcplmlmaeaa
open Go.RowKit
set_option linter.unusedVariables false
set_option linter.unusedSimpArgs false
set_option maxRecDepth 20000

/-- what Unframed tells of any bytes -/
theorem unf_any (w : World) (b off n cap : Nat) (l : List UInt8) (h : Row w (some ⟨b, off, none⟩) n cap (u8s l)) (hn : n ≤ 1000) (hn6 : 6 ≤ n) :
    Calls Try.prog 48 #[.slice (some ⟨b, off, none⟩) n cap] w fun e w' => Below w.heap.size w w' ∧
      ((∃ r aN nN cN aT nT cT, M.unframe l = some r ∧ C.RecOwn w' w.heap.size r aN nN cN aT nT cT ∧ e = .returned (.tuple #[.agg #[.int .i64 r.kind, .slice aN nN cN, .slice aT nT cT], .bool true])) ∨ (M.unframe l = none ∧ e = .returned (.tuple #[zrec, .bool false]))) := by
  have hl : l.length = n := by have := h.1; rwa [u8s_length] at this
  have hlt : b < w.heap.size := by
    obtain ⟨_, _, _, h0 | ⟨b', off', e, hlt, _⟩⟩ := h
    · have : l = [] := by simpa [u8s] using h0
      subst this; simp at hl; omega
    · injection e with e
      injection e with e1 _ _
      subst e1
      exact hlt
  match l, h, hl with
  | c0 :: c1 :: c2 :: c3 :: k :: r, h, hl =>
    obtain ⟨h5, hnr⟩ := five_of h
    by_cases hs : r.length < k.toNat
    · refine (unf_short w b off n cap _ _ _ _ _ h5 hlt hn (by omega)).mono ?_
      rintro e w' ⟨rfl, hb⟩
      exact ⟨hb, .inr ⟨by simp only [M.unframe]; rw [if_neg (by omega)], rfl⟩⟩
    · have hk : 5 + k.toNat ≤ n := by omega
      have hw0 := two0_below w
      have h' : Row (two0 w) (some ⟨b, off, none⟩) n cap (u8s (c0 :: c1 :: c2 :: c3 :: k :: r)) := row_below h hw0 (Nat.le_refl _)
      have r4 : Row (two0 w) (some ⟨b, off + 4, none⟩) (5 + k.toNat - 4) (cap - 4) (u8s (k :: r.take k.toNat)) := by
        have := row_mid h' (show 4 ≤ 5 + k.toNat by omega) hk
        have e : ((u8s (c0 :: c1 :: c2 :: c3 :: k :: r)).take (5 + k.toNat)).drop 4 = u8s (k :: r.take k.toNat) := by
          rw [show 5 + k.toNat = k.toNat + 1 + 1 + 1 + 1 + 1 by omega]
          simp [u8s]
        rw [e] at this
        exact this
      have r5 : Row (two0 w) (some ⟨b, off + 5, none⟩) k.toNat (cap - 5) (u8s (r.take k.toNat)) := by
        have := row_mid h' (show 5 ≤ 5 + k.toNat by omega) hk
        have e : ((u8s (c0 :: c1 :: c2 :: c3 :: k :: r)).take (5 + k.toNat)).drop 5 = u8s (r.take k.toNat) := by
          rw [show 5 + k.toNat = k.toNat + 1 + 1 + 1 + 1 + 1 by omega]
          simp [u8s]
        rw [e, show 5 + k.toNat - 5 = k.toNat by omega] at this
        exact this
      have hz : ((c0.toNat : Int) * 16777216 + (c1.toNat : Int) * 65536 + (c2.toNat : Int) * 256 + (c3.toNat : Int)) = ((M.num4 c0 c1 c2 c3 : Nat) : Int) := by unfold M.num4; omega
      have hklt := k.toNat_lt
      have hsum : ∀ q, Calls Try.prog 44 #[.slice (some ⟨b, off + 4, none⟩) (5 + k.toNat - 4) (cap - 4)] ((two0 w).drewN q) fun e w'' => e = .returned (.int .u32 ((M.sumB (k :: r.take k.toNat)).toNat : Int)) ∧ (two0 w).drewN q = w'' := fun q =>
        K.refsum_any _ _ _ _ _ (k_row (row_drewN r4 q) (by omega))
      by_cases he : (M.sumB (k :: r.take k.toNat)).toNat = M.num4 c0 c1 c2 c3
      · have e : M.unframe (c0 :: c1 :: c2 :: c3 :: k :: r) = C.M.dec (r.take k.toNat) := by
          simp only [M.unframe]
          rw [if_pos (by omega), if_pos he]
        refine (unf_rec w b off n cap _ _ _ _ _ h5 hlt hn hn6 hk (r.take k.toNat) (fun q => ?_) (fun q => C.refdecode_any _ _ _ _ _ (c_row (row_drewN r5 q)) (by omega))).mono ?_
        · rw [hz, ← he]; exact hsum q
        · rintro e1 w1 ⟨hb, ⟨rc, aN, nN, cN, aT, nT, cT, hd, ho, rfl⟩ | ⟨hd, rfl⟩⟩
          · exact ⟨hb, .inl ⟨rc, aN, nN, cN, aT, nT, cT, by rw [e]; exact hd, ho, rfl⟩⟩
          · exact ⟨hb, .inr ⟨by rw [e]; exact hd, rfl⟩⟩
      · have e : M.unframe (c0 :: c1 :: c2 :: c3 :: k :: r) = none := by
          simp only [M.unframe]
          rw [if_pos (by omega), if_neg he]
        refine (unf_bad w b off n cap _ _ _ _ _ h5 hlt hn hn6 hk _ ?_ hsum).mono ?_
        · rw [hz]; simp; omega
        · rintro e1 w1 ⟨rfl, hb⟩
          exact ⟨hb, .inr ⟨e, rfl⟩⟩
  | [], _, hl => simp at hl; omega
  | [_], _, hl => simp at hl; omega
  | [_, _], _, hl => simp at hl; omega
  | [_, _, _], _, hl => simp at hl; omega
  | [_, _, _, _], _, hl => simp at hl; omega

set_option maxHeartbeats 2000000 in
theorem refread_any (w : World) (b off n cap : Nat) (l : List UInt8) (h : Row w (some ⟨b, off, none⟩) n cap (u8s l)) (hn : n ≤ 1000) (hn6 : 6 ≤ n) :
    Calls Try.prog 35 #[.slice (some ⟨b, off, none⟩) n cap] w fun e w' => e = .returned (.tuple #[.int .i64 (M.rdP l).1, .string (M.rdP l).2]) ∧ Below w.heap.size w w' := by
  have HU := Lib.hid (unf_any w b off n cap l h hn hn6)
  have hp : M.rdP l = ((M.unframe l).bind M.asSlot).getD (0, ByteArray.empty) := rfl
  have HP := Lib.hid hp
  generalize M.rdP l = p at *
  clear hp h
  go_enter Try.func35, Try.ntmps35
  go_wp2_with fail
  refine HU.out.mono ?_
  rintro e w1 ⟨hb, ⟨r, aN, nN, cN, aT, nT, cT, hu, hro, rfl⟩ | ⟨hu, he⟩⟩
  · have Hb := Lib.hid hb
    have hr := recout_of hro
    have HP2 : Hid (p = (M.asSlot r).getD (0, ByteArray.empty)) := Lib.hid (by rw [HP.out, hu]; rfl)
    rw [← HP2.out] at hr
    generalize r.kind = kd at *
    clear hb hu hro
    rcases hr with ⟨h1, rfl⟩ | ⟨h1, h2, rfl⟩ | ⟨h1, h2, h3, rfl⟩ | ⟨g, t, bN, bT, h1, h2, h3, rfl, rfl, l1, l2, k1, k2, hm⟩
    · have e1 : (kd != 1) = true := by simpa using h1
      clear h1
      go_wp2_with fail
      go_ret2
      exact ⟨rfl, Hb.out.alloc Hb.out.size _⟩
    · subst h1
      have e1 : ((nN : Int) != 1) = true := by simp; omega
      clear h2
      go_wp2_with fail
      go_ret2
      exact ⟨rfl, Hb.out.alloc Hb.out.size _⟩
    · subst h1 h2
      have e1 : ((nT : Int) != 1) = true := by simp; omega
      clear h3
      go_wp2_with fail
      go_ret2
      exact ⟨rfl, Hb.out.alloc Hb.out.size _⟩
    · subst h1 h2 h3
      have m1 : (w1.alloc (.cells #[.int .i64 1, .slice (some ⟨bN, 0, none⟩) 1 cN, .slice (some ⟨bT, 0, none⟩) 1 cT] 56)).cell? ⟨bN, 0, none⟩ = some (.int .i64 g) := by
        rw [World.cell?_alloc_lt _ _ _ l1]; exact k1
      have m2 : (w1.alloc (.cells #[.int .i64 1, .slice (some ⟨bN, 0, none⟩) 1 cN, .slice (some ⟨bT, 0, none⟩) 1 cT] 56)).cell? ⟨bT, 0, none⟩ = some (.string t) := by
        rw [World.cell?_alloc_lt _ _ _ l2]; exact k2
      clear k1 k2 l1 l2
      rcases hm with ⟨⟨y1, y2, y3⟩, rfl⟩ | ⟨hm, rfl⟩
      · have y3' : (t.size : Int) ≤ 100 := by omega
        clear y3
        go_wp2_with fail
        go_quiet (fail)
        go_wp2_with fail
        go_ret2
        exact ⟨rfl, (Hb.out.alloc Hb.out.size _).trans (below_drewN _ _ _)⟩
      · by_cases y3 : t.size ≤ 100
        · have y3' : (t.size : Int) ≤ 100 := by omega
          by_cases y1 : g < 1
          · clear hm y3
            go_wp2_with fail
            go_ret2
            exact ⟨rfl, Hb.out.alloc Hb.out.size _⟩
          · have y2 : 4611686018427387904 < g := by
              have : ¬ g ≤ 4611686018427387904 := fun h => hm ⟨by omega, h, y3⟩
              omega
            clear hm y3
            go_wp2_with fail
            go_ret2
            exact ⟨rfl, Hb.out.alloc Hb.out.size _⟩
        · have y3' : (100 : Int) < (t.size : Int) := by omega
          clear hm y3
          go_wp2_with fail
          go_ret2
          exact ⟨rfl, Hb.out.alloc Hb.out.size _⟩
  · have HP2 : p = (0, ByteArray.empty) := by rw [HP.out, hu]; rfl
    have Hb := Lib.hid hb
    unfold zrec at he
    subst he HP2
    clear hb hu
    go_wp2_with fail
    go_ret2
    exact ⟨rfl, Hb.out.alloc Hb.out.size _⟩
end Go.Proofs.Ytipfhcplmlmaeaa
