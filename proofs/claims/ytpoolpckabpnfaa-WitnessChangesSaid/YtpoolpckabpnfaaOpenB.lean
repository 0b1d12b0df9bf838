/-
  Bytes that a statement is handed, read as in memory; the k-th of them, read later.
-/
import Derived.Test.YtpoolpckabpnfaaOpens
namespace Go.Proofs.Ytpoolpckabpnfaa
open Go.ChangeShapes Go.WideShapes Go.ChangeAt Go.RowKit Go.Joins Go.Deep
set_option linter.unusedVariables false
set_option linter.unusedSimpArgs false
set_option maxRecDepth 20000

section
variable {H : Type} {enc : TypeId × Value → H} {W : World}

theorem open_u8s {fuel : Nat} {v : Value} {x : DataW H × List MemPlace} (h : DataW.trod enc Try.prog W 0 (fun _ => true) true fuel 48 [v] = some x) :
    ∃ a n cap zs, v = .slice a n cap ∧ Row W a n cap (u8s zs) := by
  rcases open_ints Try.underlying48 Try.underlying5 (by kernel_rfl) h with ⟨hcs, _⟩ | ⟨a, l, c, zs, hcs, _, hl, hm, hz, _, hcell, hwz⟩
  · injection hcs with hcs
    exact ⟨none, 0, 0, [], hcs, row_nil W⟩
  · injection hcs with hcs
    have hz' : zs.length = c := by simpa using hz
    have hr : ∀ z ∈ zs, 0 ≤ z ∧ z < 256 := by
      intro z hz
      have := hwz z hz
      simp [Lit.wf, IntKind.min, IntKind.max, IntKind.signed, IntKind.bits] at this
      omega
    have e : u8s ((zs.take l).map fun z => UInt8.ofNat z.toNat) = (List.range l).map fun i => .int .u8 (zs.getD i 0) := by
      apply List.ext_getElem?
      intro i
      unfold u8s
      rw [List.getElem?_map, List.getElem?_map, List.getElem?_take, List.getElem?_map]
      by_cases hi : i < l
      · rw [if_pos hi, List.getElem?_range hi]
        have hil : i < zs.length := by omega
        have := hr zs[i] (List.getElem_mem hil)
        simp [List.getD_eq_getElem?_getD, hil, u8]
        omega
      · rw [if_neg hi, List.getElem?_eq_none (by simp; omega)]
        rfl
    refine ⟨some a, l, c, (zs.take l).map fun z => UInt8.ofNat z.toNat, hcs, ?_⟩
    rw [e]
    exact row_in hl hm (by omega) hcell

theorem open_bytes {v : Value} {d : DataW H} {p : List MemPlace} (h : DataW.Trod enc Try.prog W 0 (fun _ => true) true 48 v d p) (hv : ∃ a n c, v = .slice a n c) :
    ∃ a n cap zs, v = .slice a n cap ∧ Row W a n cap (u8s zs) := by
  obtain ⟨a, n, c, rfl⟩ := hv
  obtain ⟨fuel, hf⟩ := h
  exact open_u8s hf
end

theorem bytes_at {w w' : World} {a : Option Addr} {n cap : Nat} {t : List UInt8} (h : Row w a n cap (u8s t)) (hb : Below w.heap.size w w') {i : Nat} (hi : i < n) :
    ∃ b off y, a = some ⟨b, off, none⟩ ∧ t[i]? = some y ∧ w'.cell? ⟨b, off + i, none⟩ = some (.int .u8 (y.toNat : Int)) := by
  obtain ⟨h1, h2, h3, h4⟩ := h
  rw [u8s_length] at h1
  rcases h4 with h4 | ⟨b, off, ha, hlt, hc⟩
  · have : t = [] := by simpa [u8s] using h4
    subst this; simp at h1; omega
  · have hx : t[i]? = some (t[i]'(by omega)) := List.getElem?_eq_getElem _
    refine ⟨b, off, t[i]'(by omega), ha, hx, ?_⟩
    rw [(But.of_below hb).cell hlt (by simp), hc i hi]
    unfold u8s
    rw [List.getElem?_map, hx]
    rfl
end Go.Proofs.Ytpoolpckabpnfaa
