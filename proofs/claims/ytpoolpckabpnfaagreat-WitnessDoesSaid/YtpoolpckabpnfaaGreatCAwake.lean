/-
  The statements' own first calls are answered as the document says. CONDITIONS: none.
-/
import Derived.Test.YtpoolpckabpnfaaGreatCDecs
import Derived.Test.YtpoolpckabpnfaaGreatCEncw
namespace Go.Proofs.YtpoolpckabpnfaaGreat.C
open Go.RowKit
set_option linter.unusedVariables false
set_option linter.unusedSimpArgs false
set_option maxRecDepth 20000

/-- a record that a call made itself -/
structure RecOwn (w : World) (B : Nat) (r : M.Rc) (aN : Option Addr) (nN cN : Nat) (aT : Option Addr) (nT cT : Nat) : Prop where
  nums : Own 2 w B aN nN cN (i64s r.nums)
  texts : Own 9 w B aT nT cT (strs r.texts)

theorem RecOwn.at {w : World} {B : Nat} {r : M.Rc} {aN : Option Addr} {nN cN : Nat} {aT : Option Addr} {nT cT : Nat} (h : RecOwn w B r aN nN cN aT nT cT) : RecAt w r aN nN cN aT nT cT := ⟨(own_row h.nums).1, (own_row h.texts).1⟩
theorem RecOwn.below {w w' : World} {B C : Nat} {r : M.Rc} {aN : Option Addr} {nN cN : Nat} {aT : Option Addr} {nT cT : Nat} (h : RecOwn w B r aN nN cN aT nT cT) (hb : Below C w w') (hC : w.heap.size ≤ C) : RecOwn w' B r aN nN cN aT nT cT :=
  ⟨own_below h.nums hb hC, own_below h.texts hb hC⟩
theorem RecOwn.set {w : World} {B : Nat} {r : M.Rc} {aN : Option Addr} {nN cN : Nat} {aT : Option Addr} {nT cT : Nat} (h : RecOwn w B r aN nN cN aT nT cT) {p : Addr} (v : Value) (hp : p.block < B) : RecOwn (w.setCell p v) B r aN nN cN aT nT cT :=
  ⟨own_set h.nums v hp, own_set h.texts v hp⟩

theorem decode_ok (w : World) (a : Option Addr) (n cap : Nat) (l : List UInt8) (r : M.Rc) (h : Row w a n cap (u8s l)) (hd : M.dec l = some r) :
    Calls Tryz.prog 65 #[.slice a n cap] w fun e w' => ∃ aN nN cN aT nT cT, e = .returned (.tuple #[.agg #[.int .i64 r.kind, .slice aN nN cN, .slice aT nT cT], .int .i64 0]) ∧ RecOwn w' w.heap.size r aN nN cN aT nT cT ∧ Below w.heap.size w w' := by
  refine (decode_any w a n cap l h).mono ?_
  rintro e w' ⟨hb, ⟨r', v, h1, ⟨aN, nN, cN, aT, nT, cT, rfl, h2, h3⟩, rfl⟩ | ⟨h1, _⟩⟩
  · rw [hd] at h1
    injection h1 with h1
    subst h1
    exact ⟨aN, nN, cN, aT, nT, cT, rfl, ⟨h2, h3⟩, hb⟩
  · rw [hd] at h1; cases h1

theorem decode_no (w : World) (a : Option Addr) (n cap : Nat) (l : List UInt8) (h : Row w a n cap (u8s l)) (hd : M.dec l = none) :
    Calls Tryz.prog 65 #[.slice a n cap] w fun e w' => e = .returned (.tuple #[.agg #[.int .i64 0, .slice none 0 0, .slice none 0 0], .int .i64 4]) ∧ Below w.heap.size w w' := by
  refine (decode_any w a n cap l h).mono ?_
  rintro e w' ⟨hb, ⟨r', v, h1, _, _⟩ | ⟨h1, rfl⟩⟩
  · rw [hd] at h1; cases h1
  · exact ⟨rfl, hb⟩

end Go.Proofs.YtpoolpckabpnfaaGreat.C
