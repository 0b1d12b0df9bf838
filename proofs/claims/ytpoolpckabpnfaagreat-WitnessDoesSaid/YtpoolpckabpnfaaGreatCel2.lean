/-
  What the code reads of a sector's bytes as a slot.
-/
import Derived.Test.YtpoolpckabpnfaaGreatCel1
import Derived.Deep.QuietTactic
import Derived.BigQuiet
import Derived.Deep.RegionLaw
namespace Go.Proofs.YtpoolpckabpnfaaGreat
open Go.RowKit
set_option linter.unusedVariables false
set_option linter.unusedSimpArgs false
set_option maxRecDepth 20000

def M.rdP (l : List UInt8) : Int × ByteArray := (M.rdS l).getD (0, ByteArray.empty)

theorem or_u32 (a b : Int) : bits .or .u32 a b = ((BitVec.ofInt 32 a ||| BitVec.ofInt 32 b).toNat : Int) := by
  show IntKind.u32.wrap ((BitVec.ofInt 32 a ||| BitVec.ofInt 32 b).toNat : Int) = _
  exact K.wrap_u32 _

theorem or_add (a b k : Nat) (hb : b < 2 ^ k) (hs : a * 2 ^ k + b < 4294967296) : bits .or .u32 ((a * 2 ^ k : Nat) : Int) (b : Int) = ((a * 2 ^ k + b : Nat) : Int) := by
  rw [or_u32, BitVec.ofInt_natCast, BitVec.ofInt_natCast, BitVec.toNat_or, BitVec.toNat_ofNat, BitVec.toNat_ofNat, Nat.mod_eq_of_lt (by omega), Nat.mod_eq_of_lt (by omega)]
  congr 1
  rw [Nat.mul_comm]
  exact (Nat.two_pow_add_eq_or_of_lt hb a).symm

/-- the four bytes of a sum, put together -/
theorem or_four (z0 z1 z2 z3 : Nat) (h0 : z0 < 256) (h1 : z1 < 256) (h2 : z2 < 256) (h3 : z3 < 256) :
    bits .or .u32 (bits .or .u32 (bits .or .u32 ((z0 : Int) * 16777216) ((z1 : Int) * 65536)) ((z2 : Int) * 256)) (z3 : Int) = ((z0 * 16777216 + z1 * 65536 + z2 * 256 + z3 : Nat) : Int) := by
  have e1 : bits .or .u32 ((z0 : Int) * 16777216) ((z1 : Int) * 65536) = (((z0 * 256 + z1) * 65536 : Nat) : Int) := by
    have := or_add z0 (z1 * 65536) 24 (by omega) (by omega)
    rw [show ((z0 : Int) * 16777216) = ((z0 * 2 ^ 24 : Nat) : Int) by omega, show ((z1 : Int) * 65536) = ((z1 * 65536 : Nat) : Int) by omega, this]
    omega
  have e2 : bits .or .u32 (((z0 * 256 + z1) * 65536 : Nat) : Int) ((z2 : Int) * 256) = (((z0 * 65536 + z1 * 256 + z2) * 256 : Nat) : Int) := by
    have := or_add (z0 * 256 + z1) (z2 * 256) 16 (by omega) (by omega)
    rw [show (z0 * 256 + z1) * 65536 = (z0 * 256 + z1) * 2 ^ 16 by omega, show ((z2 : Int) * 256) = ((z2 * 256 : Nat) : Int) by omega, this]
    omega
  rw [e1, e2]
  have := or_add (z0 * 65536 + z1 * 256 + z2) z3 8 (by omega) (by omega)
  rw [show (z0 * 65536 + z1 * 256 + z2) * 256 = (z0 * 65536 + z1 * 256 + z2) * 2 ^ 8 by omega, this]
  omega

/-- a sector's first bytes as they lie -/
structure Five (w : World) (b off n cap : Nat) (z0 z1 z2 z3 z4 : Nat) : Prop where
  g0 : w.cell? ⟨b, off, none⟩ = some (.int .u8 (z0 : Int))
  g1 : w.cell? ⟨b, off + 1, none⟩ = some (.int .u8 (z1 : Int))
  g2 : w.cell? ⟨b, off + 2, none⟩ = some (.int .u8 (z2 : Int))
  g3 : w.cell? ⟨b, off + 3, none⟩ = some (.int .u8 (z3 : Int))
  g4 : w.cell? ⟨b, off + 4, none⟩ = some (.int .u8 (z4 : Int))
  b0 : z0 < 256
  b1 : z1 < 256
  b2 : z2 < 256
  b3 : z3 < 256
  b4 : z4 < 256
  n5 : 5 ≤ n
  nc : n ≤ cap

theorem five_of {w : World} {b off n cap : Nat} {c0 c1 c2 c3 k : UInt8} {r : List UInt8} (h : Row w (some ⟨b, off, none⟩) n cap (u8s (c0 :: c1 :: c2 :: c3 :: k :: r))) :
    Five w b off n cap c0.toNat c1.toNat c2.toNat c3.toNat k.toNat ∧ n = 5 + r.length := by
  obtain ⟨h1, h2, h3, h4⟩ := h
  rw [u8s_length] at h1
  simp only [List.length_cons] at h1
  rcases h4 with h4 | ⟨b', off', e, hlt, hc⟩
  · simp [u8s] at h4
  injection e with e
  injection e with e1 e2 _
  subst e1 e2
  exact ⟨⟨(hc 0 (by omega)).trans rfl, (hc 1 (by omega)).trans rfl, (hc 2 (by omega)).trans rfl, (hc 3 (by omega)).trans rfl, (hc 4 (by omega)).trans rfl, c0.toNat_lt, c1.toNat_lt, c2.toNat_lt, c3.toNat_lt, k.toNat_lt, by omega, h2⟩, by omega⟩

theorem read_short (w : World) (b off n cap : Nat) (z0 z1 z2 z3 z4 : Nat) (h : Five w b off n cap z0 z1 z2 z3 z4) (hn : n ≤ 1000) (hk : n < 5 + z4) :
    Calls Tryz.prog 51 #[.slice (some ⟨b, off, none⟩) n cap] w fun e w' => e = .returned (.tuple #[.int .i64 0, .string ByteArray.empty]) ∧ Below w.heap.size w w' := by
  obtain ⟨g0, g1, g2, g3, g4, b0, b1, b2, b3, b4, n5, nc⟩ := h
  have hk1 : (z4 : Int) < 256 := by omega
  have hk0 : (0 : Int) ≤ (z4 : Int) := by omega
  have hgt : (n : Int) < 5 + (z4 : Int) := by omega
  have hn5 : (5 : Int) ≤ (n : Int) := by omega
  have hs := or_four z0 z1 z2 z3 b0 b1 b2 b3
  clear hk nc n5
  go_enter Tryz.func51, Tryz.ntmps51
  go_wp2_with fail
  go_quiet (fail)
  go_wp2_with fail
  go_ret2
  exact ⟨rfl, rfl, rfl, rfl, Nat.le_refl _, fun _ _ => rfl⟩

theorem read_bad (w : World) (b off n cap : Nat) (z0 z1 z2 z3 z4 : Nat) (h : Five w b off n cap z0 z1 z2 z3 z4) (hn : n ≤ 1000) (hn6 : 6 ≤ n) (hk : 5 + z4 ≤ n)
    (hc : ∀ q, Calls Tryz.prog 69 #[.slice (some ⟨b, off + 4, none⟩) (5 + z4 - 4) (cap - 4), .int .u32 ((z0 : Int) * 16777216 + (z1 : Int) * 65536 + (z2 : Int) * 256 + (z3 : Int))] (w.drewN q) fun e w'' => e = .returned (.bool false) ∧ w.drewN q = w'') :
    Calls Tryz.prog 51 #[.slice (some ⟨b, off, none⟩) n cap] w fun e w' => e = .returned (.tuple #[.int .i64 0, .string ByteArray.empty]) ∧ Below w.heap.size w w' := by
  obtain ⟨g0, g1, g2, g3, g4, b0, b1, b2, b3, b4, n5, nc⟩ := h
  have hk1 : (z4 : Int) < 256 := by omega
  have hk0 : (0 : Int) ≤ (z4 : Int) := by omega
  have hgt : 5 + (z4 : Int) ≤ (n : Int) := by omega
  have hgt2 : 5 + (z4 : Int) ≤ (cap : Int) := by omega
  have hn5 : (5 : Int) ≤ (n : Int) := by omega
  have hs := or_four z0 z1 z2 z3 b0 b1 b2 b3
  have hc4 : ¬ cap = 4 := by omega
  have hc5 : ¬ cap = 5 := by omega
  have HC := Lib.hid hc
  clear hk nc n5 hc
  go_enter Tryz.func51, Tryz.ntmps51
  go_wp2_with fail
  go_quiet (fail)
  go_wp2_with (go_at_call 69; refine (HC.out _).mono ?_; rintro e w' ⟨rfl, rfl⟩)
  go_ret2
  exact ⟨rfl, rfl, rfl, rfl, Nat.le_refl _, fun _ _ => rfl⟩

theorem may_quiet (W : World) (g : Int) (t : ByteArray) (m : Nat) :
    Calls Tryz.prog 70 #[.int .i64 g, .string t] (W.drewN m) fun e w'' => e = .returned (.bool (decide (M.MayS g t))) ∧ ∃ j, w'' = W.drewN j :=
  (may_any _ g t).mono fun _ _ ⟨he, hw⟩ => ⟨he, m, hw.symm⟩

/-- a record that came out of Decode: no slot's, or a slot's -/
def RecOut (w : World) (kd : Int) (aN : Option Addr) (nN : Nat) (aT : Option Addr) (nT : Nat) (p : Int × ByteArray) : Prop :=
  (kd ≠ 1 ∧ p = (0, ByteArray.empty)) ∨ (kd = 1 ∧ nN ≠ 1 ∧ p = (0, ByteArray.empty)) ∨ (kd = 1 ∧ nN = 1 ∧ nT ≠ 1 ∧ p = (0, ByteArray.empty)) ∨
  ∃ g t bN bT, kd = 1 ∧ nN = 1 ∧ nT = 1 ∧ aN = some ⟨bN, 0, none⟩ ∧ aT = some ⟨bT, 0, none⟩ ∧ bN < w.heap.size ∧ bT < w.heap.size ∧ w.cell? ⟨bN, 0, none⟩ = some (.int .i64 g) ∧ w.cell? ⟨bT, 0, none⟩ = some (.string t) ∧
    ((M.MayS g t ∧ p = (g, t)) ∨ (¬ M.MayS g t ∧ p = (0, ByteArray.empty)))

set_option maxHeartbeats 2000000 in
theorem read_rec (w : World) (b off n cap : Nat) (z0 z1 z2 z3 z4 : Nat) (h : Five w b off n cap z0 z1 z2 z3 z4) (hn : n ≤ 1000) (hn6 : 6 ≤ n) (hk : 5 + z4 ≤ n) (p : Int × ByteArray)
    (hc : ∀ q, Calls Tryz.prog 69 #[.slice (some ⟨b, off + 4, none⟩) (5 + z4 - 4) (cap - 4), .int .u32 ((z0 : Int) * 16777216 + (z1 : Int) * 65536 + (z2 : Int) * 256 + (z3 : Int))] (w.drewN q) fun e w'' => e = .returned (.bool true) ∧ w.drewN q = w'')
    (hd : ∀ q, Calls Tryz.prog 65 #[.slice (some ⟨b, off + 5, none⟩) z4 (cap - 5)] (w.drewN q) fun e w'' => ∃ kd aN nN cN aT nT cT er, e = .returned (.tuple #[.agg #[.int .i64 kd, .slice aN nN cN, .slice aT nT cT], .int .i64 er]) ∧ Below w.heap.size w w'' ∧ RecOut w'' kd aN nN aT nT p) :
    Calls Tryz.prog 51 #[.slice (some ⟨b, off, none⟩) n cap] w fun e w' => e = .returned (.tuple #[.int .i64 p.1, .string p.2]) ∧ Below w.heap.size w w' := by
  obtain ⟨g0, g1, g2, g3, g4, b0, b1, b2, b3, b4, n5, nc⟩ := h
  have hk1 : (z4 : Int) < 256 := by omega
  have hk0 : (0 : Int) ≤ (z4 : Int) := by omega
  have hgt : 5 + (z4 : Int) ≤ (n : Int) := by omega
  have hgt2 : 5 + (z4 : Int) ≤ (cap : Int) := by omega
  have hn5 : (5 : Int) ≤ (n : Int) := by omega
  have hs := or_four z0 z1 z2 z3 b0 b1 b2 b3
  have hc4 : ¬ cap = 4 := by omega
  have hc5 : ¬ cap = 5 := by omega
  have HC := Lib.hid hc
  have HD := Lib.hid hd
  clear hk nc n5 hc hd
  go_enter Tryz.func51, Tryz.ntmps51
  go_wp2_with fail
  go_quiet (fail)
  go_wp2_with (go_at_call 69; refine (HC.out _).mono ?_; rintro e w' ⟨rfl, rfl⟩)
  refine (HD.out _).mono ?_
  rintro e w1 ⟨kd, aN, nN, cN, aT, nT, cT, er, rfl, hb, hr⟩
  have Hb := Lib.hid hb
  clear hb
  rcases hr with ⟨h1, rfl⟩ | ⟨h1, h2, rfl⟩ | ⟨h1, h2, h3, rfl⟩ | ⟨g, t, bN, bT, h1, h2, h3, rfl, rfl, l1, l2, k1, k2, hm⟩
  · have e1 : (kd != 1) = true := by simpa using h1
    clear h1
    go_wp2_with fail
    go_quiet (fail)
    go_wp2_with fail
    go_ret2
    exact ⟨rfl, (Hb.out.alloc Hb.out.size _).trans ⟨rfl, rfl, rfl, Nat.le_refl _, fun _ _ => rfl⟩⟩
  · subst h1
    have e1 : ((nN : Int) != 1) = true := by simp; omega
    clear h2
    go_wp2_with fail
    go_quiet (fail)
    go_wp2_with fail
    go_ret2
    exact ⟨rfl, (Hb.out.alloc Hb.out.size _).trans ⟨rfl, rfl, rfl, Nat.le_refl _, fun _ _ => rfl⟩⟩
  · subst h1 h2
    have e1 : ((nT : Int) != 1) = true := by simp; omega
    clear h3
    go_wp2_with fail
    go_quiet (fail)
    go_wp2_with fail
    go_ret2
    exact ⟨rfl, (Hb.out.alloc Hb.out.size _).trans ⟨rfl, rfl, rfl, Nat.le_refl _, fun _ _ => rfl⟩⟩
  · subst h1 h2 h3
    have m1 : (w1.alloc (.cells #[.int .i64 1, .slice (some ⟨bN, 0, none⟩) 1 cN, .slice (some ⟨bT, 0, none⟩) 1 cT] 80)).cell? ⟨bN, 0, none⟩ = some (.int .i64 g) := by
      rw [World.cell?_alloc_lt _ _ _ l1]; exact k1
    have m2 : (w1.alloc (.cells #[.int .i64 1, .slice (some ⟨bN, 0, none⟩) 1 cN, .slice (some ⟨bT, 0, none⟩) 1 cT] 80)).cell? ⟨bT, 0, none⟩ = some (.string t) := by
      rw [World.cell?_alloc_lt _ _ _ l2]; exact k2
    have HMq := Lib.hid (may_quiet (w1.alloc (.cells #[.int .i64 1, .slice (some ⟨bN, 0, none⟩) 1 cN, .slice (some ⟨bT, 0, none⟩) 1 cT] 80)) g t)
    rcases hm with ⟨hm, rfl⟩ | ⟨hm, rfl⟩
    · rw [decide_eq_true hm] at HMq
      clear hm k1 k2 l1 l2
      go_wp2_with fail
      go_quiet ((go_at_call 70; with_reducible exact HMq.out _))
      go_wp2_with fail
      go_quiet (fail)
      go_wp2_with fail
      go_ret2
      exact ⟨rfl, (Hb.out.alloc Hb.out.size _).trans ⟨rfl, rfl, rfl, Nat.le_refl _, fun _ _ => rfl⟩⟩
    · rw [decide_eq_false hm] at HMq
      clear hm k1 k2 l1 l2
      go_wp2_with fail
      go_quiet ((go_at_call 70; with_reducible exact HMq.out _))
      go_wp2_with fail
      go_ret2
      exact ⟨rfl, (Hb.out.alloc Hb.out.size _).trans ⟨rfl, rfl, rfl, Nat.le_refl _, fun _ _ => rfl⟩⟩
end Go.Proofs.YtpoolpckabpnfaaGreat
