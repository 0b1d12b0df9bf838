/-
  What the code reads of a sector's bytes as a slot, whatever they are.
-/
import Derived.Test.YtpoolpckabpnfaaGreatCel2
namespace Go.Proofs.YtpoolpckabpnfaaGreat
open Go.RowKit
set_option linter.unusedVariables false
set_option linter.unusedSimpArgs false
set_option maxRecDepth 20000

theorem row_mid {w : World} {b o n cap lo hi : Nat} {vs : List Value} (h : Row w (some ⟨b, o, none⟩) n cap vs) (h1 : lo ≤ hi) (h2 : hi ≤ n) : Row w (some ⟨b, o + lo, none⟩) (hi - lo) (cap - lo) ((vs.take hi).drop lo) := by
  obtain ⟨g1, g2, g3, g4⟩ := h
  refine ⟨by rw [List.length_drop, List.length_take]; omega, by omega, by omega, ?_⟩
  by_cases h0 : lo = hi
  · subst h0
    exact .inl (List.eq_nil_of_length_eq_zero (by rw [List.length_drop, List.length_take]; omega))
  · rcases g4 with g4 | ⟨b', o', e, hlt, hc⟩
    · subst g4; simp at g1; omega
    injection e with e
    injection e with e1 e2 _
    subst e1 e2
    refine .inr ⟨b, o + lo, rfl, hlt, fun i hi' => ?_⟩
    rw [Nat.add_assoc, hc (lo + i) (by omega), List.getElem?_drop, List.getElem?_take, if_pos (by omega)]

theorem row_drewN {w : World} {a : Option Addr} {n cap : Nat} {vs : List Value} (h : Row w a n cap vs) (q : Nat) : Row (w.drewN q) a n cap vs := h

theorem below_drewN (B : Nat) (w : World) (q : Nat) : Below B w (w.drewN q) := ⟨rfl, rfl, rfl, Nat.le_refl _, fun _ _ => rfl⟩

/-- what Decode's record is as a slot -/
theorem recout_of {w : World} {B : Nat} {r : C.M.Rc} {aN : Option Addr} {nN cN : Nat} {aT : Option Addr} {nT cT : Nat} (h : C.RecOwn w B r aN nN cN aT nT cT) :
    RecOut w r.kind aN nN aT nT ((M.asSlot r).getD (0, ByteArray.empty)) := by
  obtain ⟨k, ns, ts⟩ := r
  have hN := h.at.lenN
  have hT := h.at.lenT
  simp only at hN hT
  by_cases hk : k = 1
  · subst hk
    by_cases h1 : nN = 1
    · by_cases h2 : nT = 1
      · match ns, ts, hN, hT, h with
        | [g], [t], hN, hT, h =>
          obtain ⟨bN, oN, g', e1, l1, q1, k1⟩ := C.row_i64 h.at.nums 0 (by omega)
          obtain ⟨bT, oT, t', e2, l2, q2, k2⟩ := C.row_str h.at.texts 0 (by omega)
          simp only [List.getElem?_cons_zero, Option.some.injEq] at q1 q2
          subst q1 q2
          have z1 := (C.own_row h.nums).2 _ _ e1
          have z2 := (C.own_row h.texts).2 _ _ e2
          obtain ⟨_, rfl⟩ := z1
          obtain ⟨_, rfl⟩ := z2
          refine .inr (.inr (.inr ⟨g, t, bN, bT, rfl, h1, h2, e1, e2, l1, l2, k1, k2, ?_⟩))
          by_cases hm : M.MayS g t
          · exact .inl ⟨hm, by simp only [M.asSlot]; rw [if_pos trivial, if_pos ⟨hm.2.2, hm.1, hm.2.1⟩]; rfl⟩
          · exact .inr ⟨hm, by simp only [M.asSlot]; rw [if_pos trivial, if_neg (fun h => hm ⟨h.2.1, h.2.2, h.1⟩)]; rfl⟩
        | [], _, hN, _, _ => simp at hN; omega
        | _ :: _ :: _, _, hN, _, _ => simp at hN; omega
        | [_], [], _, hT, _ => simp at hT; omega
        | [_], _ :: _ :: _, _, hT, _ => simp at hT; omega
      · refine .inr (.inr (.inl ⟨rfl, h1, h2, ?_⟩))
        match ns, ts, hT with
        | [_], [_], hT => simp at hT; omega
        | [], _, _ => rfl
        | _ :: _ :: _, _, _ => rfl
        | [_], [], _ => rfl
        | [_], _ :: _ :: _, _ => rfl
    · refine .inr (.inl ⟨rfl, h1, ?_⟩)
      match ns, ts, hN with
      | [_], _, hN => simp at hN; omega
      | [], _, _ => rfl
      | _ :: _ :: _, _, _ => rfl
  · refine .inl ⟨hk, ?_⟩
    match ns, ts with
    | [_], [_] => simp only [M.asSlot]; rw [if_neg hk]; rfl
    | [], _ => rfl
    | _ :: _ :: _, _ => rfl
    | [_], [] => rfl
    | [_], _ :: _ :: _ => rfl

theorem read_any (w : World) (b off n cap : Nat) (l : List UInt8) (h : Row w (some ⟨b, off, none⟩) n cap (u8s l)) (hn : n ≤ 1000) (hn6 : 6 ≤ n) :
    Calls Tryz.prog 51 #[.slice (some ⟨b, off, none⟩) n cap] w fun e w' => e = .returned (.tuple #[.int .i64 (M.rdP l).1, .string (M.rdP l).2]) ∧ Below w.heap.size w w' := by
  have hl : l.length = n := by have := h.1; rwa [u8s_length] at this
  match l, h, hl with
  | c0 :: c1 :: c2 :: c3 :: k :: r, h, hl =>
    obtain ⟨h5, hnr⟩ := five_of h
    by_cases hs : r.length < k.toNat
    · have e : M.rdP (c0 :: c1 :: c2 :: c3 :: k :: r) = (0, ByteArray.empty) := by
        unfold M.rdP M.rdS
        simp only [M.unframe]
        rw [if_neg (by omega)]
        rfl
      rw [e]
      exact read_short w b off n cap _ _ _ _ _ h5 hn (by omega)
    · have hk : 5 + k.toNat ≤ n := by omega
      have r4 : Row w (some ⟨b, off + 4, none⟩) (5 + k.toNat - 4) (cap - 4) (u8s (k :: r.take k.toNat)) := by
        have := row_mid h (show 4 ≤ 5 + k.toNat by omega) hk
        have e : ((u8s (c0 :: c1 :: c2 :: c3 :: k :: r)).take (5 + k.toNat)).drop 4 = u8s (k :: r.take k.toNat) := by
          rw [show 5 + k.toNat = k.toNat + 1 + 1 + 1 + 1 + 1 by omega]
          simp [u8s]
        rw [e] at this
        exact this
      have r5 : Row w (some ⟨b, off + 5, none⟩) k.toNat (cap - 5) (u8s (r.take k.toNat)) := by
        have := row_mid h (show 5 ≤ 5 + k.toNat by omega) hk
        have e : ((u8s (c0 :: c1 :: c2 :: c3 :: k :: r)).take (5 + k.toNat)).drop 5 = u8s (r.take k.toNat) := by
          rw [show 5 + k.toNat = k.toNat + 1 + 1 + 1 + 1 + 1 by omega]
          simp [u8s]
        rw [e, show 5 + k.toNat - 5 = k.toNat by omega] at this
        exact this
      have hz : ((c0.toNat : Int) * 16777216 + (c1.toNat : Int) * 65536 + (c2.toNat : Int) * 256 + (c3.toNat : Int)) = ((M.num4 c0 c1 c2 c3 : Nat) : Int) := by unfold M.num4; omega
      have hlt := M.num4_lt c0 c1 c2 c3
      have hklt := k.toNat_lt
      by_cases he : (M.sumB (k :: r.take k.toNat)).toNat = M.num4 c0 c1 c2 c3
      · have e : M.rdS (c0 :: c1 :: c2 :: c3 :: k :: r) = (C.M.dec (r.take k.toNat)).bind M.asSlot := by
          unfold M.rdS
          simp only [M.unframe]
          rw [if_pos (by omega), if_pos he]
        refine read_rec w b off n cap _ _ _ _ _ h5 hn hn6 hk (M.rdP (c0 :: c1 :: c2 :: c3 :: k :: r)) (fun q => ?_) (fun q => ?_)
        · rw [hz, ← he]
          exact K.check_yes (M.sumB (k :: r.take k.toNat)) _ _ _ _ _ (k_row (row_drewN r4 q) (by omega)) rfl
        · refine (C.decode_any _ _ _ _ _ (c_row (row_drewN r5 q))).mono ?_
          rintro e1 w1 ⟨hb, ⟨rc, v, hd, ⟨a1, n1, cc1, a2, n2, cc2, rfl, ho1, ho2⟩, rfl⟩ | ⟨hd, rfl⟩⟩
          · refine ⟨_, _, _, _, _, _, _, _, rfl, (below_drewN w.heap.size w q).trans hb, ?_⟩
            have := recout_of (r := rc) ⟨ho1, ho2⟩
            unfold M.rdP
            rw [e, hd]
            exact this
          · refine ⟨_, _, _, _, _, _, _, _, rfl, (below_drewN w.heap.size w q).trans hb, .inl ⟨by decide, ?_⟩⟩
            unfold M.rdP
            rw [e, hd]
            rfl
      · have e : M.rdP (c0 :: c1 :: c2 :: c3 :: k :: r) = (0, ByteArray.empty) := by
          unfold M.rdP M.rdS
          simp only [M.unframe]
          rw [if_pos (by omega), if_neg he]
          rfl
        rw [e]
        refine read_bad w b off n cap _ _ _ _ _ h5 hn hn6 hk (fun q => ?_)
        have hx : (BitVec.ofNat 32 (M.num4 c0 c1 c2 c3)).toNat = M.num4 c0 c1 c2 c3 := by rw [BitVec.toNat_ofNat]; exact Nat.mod_eq_of_lt (by omega)
        rw [hz, ← hx]
        exact K.check_no _ _ _ _ _ _ (k_row (row_drewN r4 q) (by omega)) (fun e => he (by rw [← hx, ← e]; rfl))
  | [], _, hl => simp at hl; omega
  | [_], _, hl => simp at hl; omega
  | [_, _], _, hl => simp at hl; omega
  | [_, _, _], _, hl => simp at hl; omega
  | [_, _, _, _], _, hl => simp at hl; omega
end Go.Proofs.YtpoolpckabpnfaaGreat
