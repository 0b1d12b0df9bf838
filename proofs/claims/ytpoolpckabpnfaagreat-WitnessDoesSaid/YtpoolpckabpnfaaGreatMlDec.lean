/-
  Decode of a message.
-/
import Derived.Test.YtpoolpckabpnfaaGreatMlEnc
import Derived.Lib.ConvBytes
namespace Go.Proofs.YtpoolpckabpnfaaGreat.Ml
open Go.RowKit
open C (Row Own i64s strs u8s u8s_length row_below own_below RecAt str)
set_option linter.unusedVariables false
set_option linter.unusedSimpArgs false
set_option maxRecDepth 20000

/-- bytes that a string has become -/
theorem bytes_row (w : World) (s : ByteArray) (hs : s.size ≤ 65536) : Row (Lib.bytesWorld w 5 s) (some ⟨w.heap.size, 0, none⟩) s.size (grownCap w s.size 0 5) (u8s s.data.toList) := by
  have h1 : s.data.toList.length = s.size := C.M.size_list s
  refine ⟨by rw [u8s_length, h1], grownCap_ge w s.size 0 5, grownCap_le_maxLen w s.size 0 5 (by simp only [maxLen]; omega), .inr ⟨w.heap.size, 0, rfl, by rw [Lib.bytesWorld_size]; omega, fun i hi => ?_⟩⟩
  rw [Nat.zero_add, Lib.bytesWorld_cell w 5 s i hi]
  have hi2 : i < s.data.size := hi
  have e : s.data.toList[i]? = some s.data[i] := by rw [Array.getElem?_toList, Array.getElem?_eq_getElem hi2]
  rw [u8s, List.getElem?_map, List.getD_eq_getElem?_getD, e]
  rfl
theorem bytes_below (w : World) (s : ByteArray) : Below w.heap.size w (Lib.bytesWorld w 5 s) :=
  ⟨rfl, rfl, rfl, by rw [Lib.bytesWorld_size]; omega, fun k hk => Lib.bytesWorld_at_old w 5 s k hk⟩
theorem conv_str (w : World) (s : ByteArray) : (convert 9 50 (.string s)).run Tryz.prog w = .ok (.slice (some ⟨w.heap.size, 0, none⟩) s.size (grownCap w s.size 0 5)) (Lib.bytesWorld w 5 s) :=
  Lib.run_convert_string_bytes w 9 50 5 s Tryz.underlying9 Tryz.underlying50 Tryz.underlying5

theorem ret_msg2 {fn : Func} (hres : fn.results = #[.cell 2 37, .tmp 3]) {R : Ending → World → Prop} {a : Act} {w : World} {g : Nat} {m : Mg} {v : Value} (h2 : a.tmps.getD 2 undef = .pointer (some ⟨g, 0, none⟩)) (h3 : a.tmps.getD 3 undef = v) (hd : a.defers = []) (h : MB w g m)
    (hR : R (.returned (.tuple #[msgV m, v])) w) : bodyPost Tryz.prog fn R .ret a w := by
  obtain ⟨k0, k1, k2, k3, k4, k5, k6, k7, k8, k9, k10, k11, k12⟩ := h.cells
  simp only [Array.getD_eq_getD_getElem?] at h2 h3
  refine bodyPost_ret_by ?_ hd hR
  simp [results, hres, h2, h3, go_sem, k0, k1, k2, k3, k4, k5, k6, k7, k8, k9, k10, k11, k12, msgV, Mg.cells]

end Go.Proofs.YtpoolpckabpnfaaGreat.Ml
