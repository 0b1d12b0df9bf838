/-
  What a record, or bytes, that a statement is handed read as in memory.
-/
import Derived.Test.YtdakfhoadfbfiaaRows
import Derived.Test.YtdakfhoadfbfiaaEncs
import Derived.ProofKit
import Derived.OpenShut
import Derived.ShutString
import Derived.ChangeOld
import Derived.SliceStrings
import Derived.Lib.SmallJoins
namespace Go.Proofs.Ytdakfhoadfbfiaa
open Go.ChangeShapes Go.WideShapes Go.ChangeAt Go.RowKit Go.Joins
set_option linter.unusedVariables false
set_option linter.unusedSimpArgs false

theorem own : ownKnob Try.prog.godebug = none := by kernel_rfl
theorem laidOut : laidOutB Try.prog = true := by kernel_rfl

theorem fits_of {n : Int} (h : (Lit.int .i64 n).wf = true) : M.fits n := by
  simp [Lit.wf, IntKind.min, IntKind.max, IntKind.signed, IntKind.bits] at h
  unfold M.fits
  omega

theorem row_in {w : World} {a : Addr} {len cap : Nat} {f : Nat → Value} {m : Nat} (hl : len ≤ cap) (hm : cap ≤ maxLen) (hlm : len ≤ m) (hc : ∀ i, i < m → w.cell? (a.add i) = some (f i)) :
    Row w (some a) len cap ((List.range len).map f) := by
  refine ⟨by simp, hl, hm, ?_⟩
  by_cases h0 : len = 0
  · subst h0; exact .inl rfl
  · obtain ⟨b, off, spot⟩ := a
    have hc0 := hc 0 (by omega)
    have hspot : spot = none := by simpa [Addr.add] using World.cell?_spot hc0
    subst hspot
    refine .inr ⟨b, off, rfl, by simpa [Addr.add] using World.block_lt_of_cell? w _ hc0, fun i hi => ?_⟩
    have := hc i (by omega)
    rw [show (⟨b, off + i, none⟩ : Addr) = (⟨b, off, none⟩ : Addr).add i from by by_cases g : i = 0 <;> simp [Addr.add, g], this]
    simp [hi]

theorem row_nil (w : World) : Row w none 0 0 [] := ⟨rfl, Nat.le_refl _, by simp [maxLen], .inl rfl⟩

section
variable {H : Type} {enc : TypeId × Value → H} {W : World}

theorem open_i64s {fuel : Nat} {v : Value} {x : DataW H × List MemPlace} (h : DataW.trod enc Try.prog W 0 (fun _ => true) true fuel 22 [v] = some x) :
    ∃ a n cap zs, v = .slice a n cap ∧ Row W a n cap (i64s zs) ∧ ∀ z ∈ zs, M.fits z := by
  rcases open_ints Try.underlying22 Try.underlying2 (by kernel_rfl) h with ⟨hcs, _⟩ | ⟨a, l, c, zs, hcs, _, hl, hm, hz, _, hcell, hwz⟩
  · injection hcs with hcs
    exact ⟨none, 0, 0, [], hcs, row_nil W, by simp⟩
  · injection hcs with hcs
    have hz' : zs.length = c := by simpa using hz
    have e : i64s (zs.take l) = (List.range l).map fun i => .int .i64 (zs.getD i 0) := by
      apply List.ext_getElem?
      intro i
      unfold i64s
      rw [List.getElem?_map, List.getElem?_take, List.getElem?_map]
      by_cases hi : i < l
      · rw [if_pos hi, List.getElem?_range hi]
        simp [List.getD_eq_getElem?_getD, show i < zs.length by omega]
      · rw [if_neg hi, List.getElem?_eq_none (by simp; omega)]
        rfl
    refine ⟨some a, l, c, zs.take l, hcs, ?_, fun z hz => fits_of (hwz z (List.mem_of_mem_take hz))⟩
    rw [e]
    exact row_in hl hm (by omega) hcell

theorem open_u8s {fuel : Nat} {v : Value} {x : DataW H × List MemPlace} (h : DataW.trod enc Try.prog W 0 (fun _ => true) true fuel 28 [v] = some x) :
    ∃ a n cap zs, v = .slice a n cap ∧ Row W a n cap (u8s zs) := by
  rcases open_ints Try.underlying28 Try.underlying5 (by kernel_rfl) h with ⟨hcs, _⟩ | ⟨a, l, c, zs, hcs, _, hl, hm, hz, _, hcell, hwz⟩
  · injection hcs with hcs
    exact ⟨none, 0, 0, [], hcs, row_nil W⟩
  · injection hcs with hcs
    have hz' : zs.length = c := by simpa using hz
    have hr : ∀ z ∈ zs, 0 ≤ z ∧ z < 256 := by
      intro z hz
      have := hwz z hz
      simp [Lit.wf, IntKind.min, IntKind.max, IntKind.signed, IntKind.bits] at this
      omega
    have e : u8s ((zs.take l).map fun z => UInt8.ofNat z.toNat) = (List.range l).map fun i => .int .u8 (zs.getD i 0) := by
      apply List.ext_getElem?
      intro i
      unfold u8s
      rw [List.getElem?_map, List.getElem?_map, List.getElem?_take, List.getElem?_map]
      by_cases hi : i < l
      · rw [if_pos hi, List.getElem?_range hi]
        have hil : i < zs.length := by omega
        have := hr zs[i] (List.getElem_mem hil)
        simp [List.getD_eq_getElem?_getD, hil, u8]
        omega
      · rw [if_neg hi, List.getElem?_eq_none (by simp; omega)]
        rfl
    refine ⟨some a, l, c, (zs.take l).map fun z => UInt8.ofNat z.toNat, hcs, ?_⟩
    rw [e]
    exact row_in hl hm (by omega) hcell

theorem open_texts {fuel : Nat} {v : Value} {x : DataW H × List MemPlace} (h : DataW.trod enc Try.prog W 0 (fun _ => true) true fuel 23 [v] = some x) :
    ∃ a n cap ts, v = .slice a n cap ∧ Row W a n cap (strs ts) := by
  rcases open_strings Try.underlying23 Try.underlying9 (by kernel_rfl) h with ⟨hcs, _⟩ | ⟨a, l, c, ss, hcs, _, hl, hm, hz, _, hcell, hwz⟩
  · injection hcs with hcs
    exact ⟨none, 0, 0, [], hcs, row_nil W⟩
  · injection hcs with hcs
    have hz' : ss.length = c := by simpa using hz
    have e : strs (ss.take l) = (List.range l).map fun i => .string (ss.getD i ByteArray.empty) := by
      apply List.ext_getElem?
      intro i
      unfold strs
      rw [List.getElem?_map, List.getElem?_take, List.getElem?_map]
      by_cases hi : i < l
      · rw [if_pos hi, List.getElem?_range hi]
        simp [List.getD_eq_getElem?_getD, show i < ss.length by omega]
      · rw [if_neg hi, List.getElem?_eq_none (by simp; omega)]
        rfl
    refine ⟨some a, l, c, ss.take l, hcs, ?_⟩
    rw [e]
    exact row_in hl hm (by omega) hcell

theorem open_bytes {v : Value} {d : DataW H} {p : List MemPlace} {base : Nat} (hv : Value.okWide Try.prog W .any base 28 v) (h : DataW.Trod enc Try.prog W 0 (fun _ => true) true 28 v d p) :
    ∃ a n cap zs, v = .slice a n cap ∧ Row W a n cap (u8s zs) := by
  obtain ⟨a, n, cap, rfl⟩ := okWide_slice Try.underlying28 hv
  obtain ⟨fuel, hf⟩ := h
  exact open_u8s hf

theorem open_rec {v : Value} {d : DataW H} {p : List MemPlace} {base : Nat} (hv : Value.okWide Try.prog W .any base 25 v) (h : DataW.Trod enc Try.prog W 0 (fun _ => true) true 25 v d p) :
    ∃ (r : M.Rc) (aN : Option Addr) (nN cN : Nat) (aT : Option Addr) (nT cT : Nat), v = .agg #[.int .i64 r.kind, .slice aN nN cN, .slice aT nT cT] ∧ RecAt W r aN nN cN aT nT cT ∧ M.Fits r := by
  obtain ⟨v0, v1, v2, y0, y1, y2, n, rfl, _, _, h0, h1, h2⟩ := open_agg3 Try.underlying25 (by kernel_rfl) (by kernel_rfl) hv h
  obtain ⟨k, hk, _, _⟩ := DataW.trod_int Try.underlying3 h0
  injection hk with hk
  obtain ⟨aN, nN, cN, zs, rfl, hN, hfit⟩ := open_i64s h1
  obtain ⟨aT, nT, cT, ts, rfl, hT⟩ := open_texts h2
  exact ⟨⟨k, zs, ts⟩, aN, nN, cN, aT, nT, cT, by rw [hk], ⟨hN, hT⟩, hfit⟩
end
end Go.Proofs.Ytdakfhoadfbfiaa
