/-
  A net: All (slices.Clone), To.
-/
import Derived.Test.YthbgabmmfokioaaNtNet
import Derived.Lib.SliceRun
namespace Go.Proofs.Ythbgabmmfokioaa.Nt
open Go.RowKit
set_option linter.unusedVariables false
set_option linter.unusedSimpArgs false
set_option maxRecDepth 20000

/-- a row, if it has a block, lies from B on -/
def Fresh (B : Nat) (a : Option Addr) : Prop := ∀ x, a = some x → B ≤ x.block
theorem Fresh.none (B : Nat) : Fresh B none := fun x h => by cases h
theorem Fresh.mono {B B' : Nat} {a : Option Addr} (h : Fresh B a) (hB : B' ≤ B) : Fresh B' a := fun x hx => Nat.le_trans hB (h x hx)
theorem Fresh.anew {B : Nat} {w : World} {a a' : Option Addr} (h : Fresh B a) (k : Anew w a a') (hB : B ≤ w.heap.size) : Fresh B a' := by
  rcases k with rfl | ⟨g, rfl, hg⟩
  · exact h
  · intro x hx
    injection hx with hx
    subst hx
    exact Nat.le_trans hB hg
theorem Fresh.blk {B : Nat} {a : Option Addr} (h : Fresh B a) {p : Nat} (hp : B ≤ p) : B ≤ blk p a := by
  cases a with
  | none => exact hp
  | some x => exact h x rfl

/-- []api.Letter{} -/
theorem own_empty (w : World) : OwnL (w.alloc (.cells #[] 31)) (some ⟨w.heap.size, 0, none⟩) 0 [] :=
  .inr ⟨w.heap.size, #[], rfl, heap_alloc_new w _, Nat.le_refl _, Nat.zero_le _, Nat.le_refl _, rfl⟩

theorem clone_any (w : World) {a : Option Addr} {cap : Nat} {l : List Lt} (h : OwnL w a cap l) (hl : l.length ≤ 1000) :
    Calls Try.prog 27 #[.slice a l.length cap] w fun e w' => ∃ a' cap', e = .returned (.slice a' l.length cap') ∧ OwnL w' a' cap' l ∧ Fresh w.heap.size a' ∧ Below w.heap.size w w' := by
  have hr := h.rd
  have q22 : ∀ (w : World) (a : Option Addr) (n c n' c' : Nat), (binOp .eql 27 (.slice a n c) (.slice none n' c')).run Try.prog w = .ok (.bool a.isNone) w := fun w a n c n' c' => Lib.run_eql_slice_nil w _ _ a n c n' c' Try.underlying27
  rcases h with ⟨rfl, rfl, rfl⟩ | ⟨g, cur, rfl, _⟩
  · clear hr hl
    go_enter Try.func27, Try.ntmps27
    go_wp2
    go_ret
    exact ⟨none, 0, rfl, OwnL.nil _, Fresh.none _, Below.refl _ _⟩
  · have HR : Hid (Rd (w.alloc (.cells #[] 31)) (some ⟨g, 0, none⟩) l.length l) := Lib.hid (hr.keep (by simp) fun b off _ hlt => Below.heap_alloc _ _ _ hlt)
    have HO := Lib.hid (own_empty w)
    have HL := Lib.hid hl
    clear hr hl
    go_enter Try.func27, Try.ntmps27
    go_wp2_with (at_builtin
                 refine wpList_append_L _ rfl (.tmp 5) (.tmp 6) rfl _ 0 0 [] rfl rfl HO.out _ _ _ l rfl HR.out (by have := HL.out; omega) ?_
                 intro a' cap' w' h1 h2 h3
                 have H1 := Lib.hid h1
                 have H2 := Lib.hid h2
                 have H3 := Lib.hid h3
                 clear h1 h2 h3)
    go_ret
    refine ⟨a', cap', rfl, by simpa using H1.out, ?_, ((Below.refl _ _).alloc (Nat.le_refl _) _).grown H2.out (by simp) (by simp [Value.ownBlock])⟩
    exact Fresh.anew (w := w.alloc (.cells #[] 31)) (a := some ⟨w.heap.size, 0, none⟩) (fun x hx => by injection hx with hx; subst hx; exact Nat.le_refl _) H3.out (by simp)

theorem all_any {w : World} {p : Nat} {a : Option Addr} {l : List Lt} (h : NAt tN w p a l) :
    Calls Try.prog 18 #[.pointer (some ⟨p, 0, none⟩)] w fun e w' => ∃ a' cap', e = .returned (.slice a' l.length cap') ∧ OwnL w' a' cap' l ∧ Fresh w.heap.size a' ∧ Below w.heap.size w w' := by
  obtain ⟨cap, hc, hf, ho, _⟩ := h.cell
  have HC := Lib.hid (clone_any w ho (by have := h.len; omega))
  clear h ho
  go_enter Try.func18, Try.ntmps18
  go_wp2_with (go_at_call 27; with_reducible refine HC.out.mono ?_; rintro e w' ⟨a', cap', rfl, h1, h2, h3⟩
               have H := Lib.hid (And.intro h1 (And.intro h2 h3))
               clear h1 h2 h3)
  go_ret
  exact ⟨a', cap', rfl, H.out.1, H.out.2.1, H.out.2.2⟩

/-! To -/
theorem to_none {l : List Lt} {p : Int} (h : toK l p = none) {i : Nat} {x : Lt} (hx : l[i]? = some x) : x.to ≠ p := by
  have := List.findIdx?_eq_none_iff.1 h x (List.mem_of_getElem? hx)
  simpa using this
theorem to_some {l : List Lt} {p : Int} {k : Nat} (h : toK l p = some k) : ∃ x, l[k]? = some x ∧ x.to = p ∧ ∀ j y, j < k → l[j]? = some y → y.to ≠ p := by
  obtain ⟨hk, h1, h2⟩ := List.findIdx?_eq_some_iff_getElem.1 h
  refine ⟨l[k], List.getElem?_eq_getElem hk, by simpa using h1, fun j y hj hy => ?_⟩
  obtain ⟨hjl, rfl⟩ := List.getElem?_eq_some_iff.1 hy
  simpa using h2 j hj
theorem to_lt {l : List Lt} {p : Int} {k : Nat} (h : toK l p = some k) : k < l.length := by
  obtain ⟨x, hx, _⟩ := to_some h
  exact (List.getElem?_eq_some_iff.1 hx).1
/-- what To tells -/
def toV (l : List Lt) (p : Int) : Value := match toK l p with
  | some k => .tuple #[.int .i64 (k : Int), .bool true]
  | none => .tuple #[.int .i64 0, .bool false]
/-- the letter at k is to p just if k is the first, where none is ahead -/
theorem to_step {l : List Lt} {p : Int} {k : Nat} {x : Lt} (hx : l[k]? = some x) (h : ∀ j y, j < k → l[j]? = some y → y.to ≠ p) (he : x.to = p) : toK l p = some k := by
  have hk := (List.getElem?_eq_some_iff.1 hx).1
  refine List.findIdx?_eq_some_iff_getElem.2 ⟨hk, ?_, fun j hj => ?_⟩
  · have : l[k] = x := (List.getElem?_eq_some_iff.1 hx).2
    simp [this, he]
  · have := h j _ hj (List.getElem?_eq_getElem (Nat.lt_trans hj hk))
    simpa using this
theorem to_end {l : List Lt} {p : Int} (h : ∀ j y, j < l.length → l[j]? = some y → y.to ≠ p) : toK l p = none := by
  refine List.findIdx?_eq_none_iff.2 fun x hx => ?_
  obtain ⟨j, hj, rfl⟩ := List.getElem_of_mem hx
  have := h j _ hj (List.getElem?_eq_getElem hj)
  simpa using this

set_option maxHeartbeats 1000000 in
theorem to_any {w : World} {p : Nat} {a : Option Addr} {l : List Lt} (h : NAt tN w p a l) (q : Int) :
    Calls Try.prog 21 #[.pointer (some ⟨p, 0, none⟩), .int .i64 q] w fun e w' => e = .returned (toV l q) ∧ Below w.heap.size w w' := by
  obtain ⟨cap, hc, hf, ho, _⟩ := h.cell
  have hl3 : l.length ≤ 300 := h.len
  have HR := Lib.hid ho.rd
  have HL := Lib.hid hl3
  clear h ho hl3
  go_enter Try.func21, Try.ntmps21
  go_wp2
  go_loopw [13] (fun i wz => ∃ k : Nat, k ≤ l.length ∧ i = .int .i64 (k : Int) ∧ (∀ j y, j < k → l[j]? = some y → y.to ≠ q) ∧ Below w.heap.size w wz) (fun i _ => l.length - (intOf i).toNat)
  case atStart => exact ⟨0, Nat.zero_le _, rfl, fun j y hj => by omega, Below.refl _ _⟩
  case round =>
    obtain ⟨k, hk, rfl, hno, hb⟩ := hrel
    have HN := Lib.hid hno
    have HB := Lib.hid hb
    have hl3 : (l.length : Int) ≤ 300 := by have := HL.out; omega
    clear hno hb
    by_cases hlt : k < l.length
    · have hltI : (k : Int) < (l.length : Int) := by omega
      obtain ⟨x, hx⟩ : ∃ x, l[k]? = some x := ⟨_, List.getElem?_eq_getElem hlt⟩
      obtain ⟨b, off, rfl, hb, c1, c2, c3⟩ := (HR.out.below HB.out (Nat.le_refl _)).at hx
      have HX := Lib.hid hx
      clear hx
      by_cases he : x.to = q
      · have HK := Lib.hid (to_step HX.out HN.out he)
        have ht : (x.to == q) = true := by simpa using he
        clear he
        go_wp2
        go_ret2
        refine ⟨by unfold toV; rw [HK.out]; rfl, HB.out.alloc HB.out.size _⟩
      · have ht : (x.to == q) = false := by simpa using he
        have HE := Lib.hid he
        clear he
        go_wp2
        go_roundw
        case rel =>
          refine ⟨k + 1, by omega, by go_num, fun j y hj hy => ?_, HB.out.alloc HB.out.size _⟩
          by_cases hjk : j = k
          · subst hjk
            have : y = x := by have := HX.out; rw [this] at hy; injection hy with hy; exact hy.symm
            rw [this]; exact HE.out
          · exact HN.out j y (by omega) hy
        case measure => simp [intOf]; omega
    · have hkl : k = l.length := by omega
      subst hkl
      have HK := Lib.hid (to_end HN.out)
      clear hlt
      go_wp2
      go_ret2
      refine ⟨by unfold toV; rw [HK.out]; rfl, HB.out⟩
end Go.Proofs.Ythbgabmmfokioaa.Nt
