/-
  What the statements about messages need beside: Encode's answer in every case, strings of bytes, two messages in boxes.
-/
import Derived.Test.YtpggpgbkeafgnaaMlOpen
namespace Go.Proofs.Ytpggpgbkeafgnaa.Ml
open Go.RowKit
open C (str)
set_option linter.unusedVariables false
set_option linter.unusedSimpArgs false
set_option maxRecDepth 20000

def encV (m : Mg) : ByteArray := if may m = true then str (bytes m) else ⟨#[]⟩
def encE (m : Mg) : Int := if may m = true then 0 else 4
theorem encode_any (w : World) (m : Mg) : Calls Try.prog 9 #[msgV m] w fun e w' => e = .returned (.tuple #[.string (encV m), .int .i64 (encE m)]) ∧ Below w.heap.size w w' := by
  unfold encV encE
  cases h : may m with
  | true => simpa using encode_yes w m h
  | false => simpa using encode_no w m h
theorem enc_yes {m : Mg} (h : may m = true) : encV m = str (bytes m) ∧ encE m = 0 := by unfold encV encE; rw [if_pos h, if_pos h]; exact ⟨rfl, rfl⟩
theorem enc_no {m : Mg} (h : ¬ may m = true) : encV m = ⟨#[]⟩ ∧ encE m = 4 := by unfold encV encE; rw [if_neg h, if_neg h]; exact ⟨rfl, rfl⟩
theorem str_list (l : List UInt8) : (str l).data.toList = l := by simp [str]
theorem str_toList (l : List UInt8) : (str l).toList = l := by rw [ByteArray.toList_eq]; exact str_list l
theorem str_size (l : List UInt8) : (str l).size = l.length := by simp [str, ByteArray.size]
theorem str_of (s : ByteArray) : str s.data.toList = s := by
  obtain ⟨⟨l⟩⟩ := s
  rfl
theorem str_inj {a b : List UInt8} (h : str a = str b) : a = b := by rw [← str_list a, ← str_list b, h]
/-- two boxes, whatever is made behind them -/
theorem two_boxes (w : World) (a b : Mg) {w' : World} (hb : Below ((w.alloc (.cells a.cells 25)).alloc (.cells b.cells 25)).heap.size ((w.alloc (.cells a.cells 25)).alloc (.cells b.cells 25)) w') : MB w' w.heap.size a ∧ MB w' (w.heap.size + 1) b := by
  have h1 := ((MB.new w a).below ((Below.refl _ _).alloc (Nat.le_refl _) (.cells b.cells 25)) (by simp)).below hb (by simp; omega)
  have h2 := (MB.new (w.alloc (.cells a.cells 25)) b).below hb (by simp)
  rw [show (w.alloc (.cells a.cells 25)).heap.size = w.heap.size + 1 by simp] at h2
  exact ⟨h1, h2⟩
theorem two_below (w : World) (a b : Mg) {w' : World} (hb : Below ((w.alloc (.cells a.cells 25)).alloc (.cells b.cells 25)).heap.size ((w.alloc (.cells a.cells 25)).alloc (.cells b.cells 25)) w') : Below w.heap.size w w' :=
  (((Below.refl w.heap.size w).alloc (Nat.le_refl _) (.cells a.cells 25)).alloc (by simp) (.cells b.cells 25)).trans (hb.mono (by simp; omega))
/-- one box, whatever is made behind it -/
theorem one_box (w : World) (a : Mg) {w' : World} (hb : Below (w.alloc (.cells a.cells 25)).heap.size (w.alloc (.cells a.cells 25)) w') : MB w' w.heap.size a ∧ Below w.heap.size w w' :=
  ⟨(MB.new w a).below hb (by simp), ((Below.refl w.heap.size w).alloc (Nat.le_refl _) (.cells a.cells 25)).trans (hb.mono (by simp))⟩
theorem str_cut (l : List UInt8) (k : Nat) : (str l).extract 0 k = str (l.take k) := by
  apply ByteArray.ext
  apply Array.toList_inj.1
  rw [ByteArray.data_extract]
  simp [str]
theorem str_join (l : List UInt8) (s : ByteArray) : str l ++ s = str (l ++ s.data.toList) := by
  apply ByteArray.ext
  apply Array.toList_inj.1
  rw [ByteArray.data_append]
  simp [str]
theorem u8_range {a : Int} (h : (Lit.int .u8 a).wf = true) : 0 ≤ a ∧ a < 256 := by
  simp [Lit.wf, IntKind.min, IntKind.max, IntKind.signed, IntKind.bits] at h
  omega
theorem empty_yes {s : ByteArray} (h : s = ⟨#[]⟩) : s.toList.isEmpty = true := by rw [h, ByteArray.toList_eq]; rfl
theorem empty_no {s : ByteArray} (h : s ≠ ⟨#[]⟩) : s.toList.isEmpty = false := by
  cases h' : s.toList.isEmpty with
  | false => rfl
  | true => exact absurd (toList_inj (b := ⟨#[]⟩) ((List.isEmpty_iff.1 h').trans (List.isEmpty_iff.1 (empty_yes rfl)).symm)) h
end Go.Proofs.Ytpggpgbkeafgnaa.Ml
