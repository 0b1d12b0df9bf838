/-
  Bytes as strings; a device that has no fuse and is not dead: what acts make of it.
-/
import Derived.Test.YtpoolpckabpnfaaGreatSDev5
import Derived.Lib.SlBytesConst
namespace Go.Proofs.YtpoolpckabpnfaaGreat
open Go.RowKit Go.Maps
set_option linter.unusedVariables false
set_option linter.unusedSimpArgs false
set_option maxRecDepth 20000

def str (l : List UInt8) : ByteArray := ⟨l.toArray⟩

/-- bytes that lie in memory, as a string -/
theorem conv_row {w : World} {a : Option Addr} {m c : Nat} {l : List UInt8} (h : Row w a m c (u8s l)) : (convert 50 9 (.slice a m c)).run Tryz.prog w = .ok (.string (str l)) w := by
  obtain ⟨h1, h2, h3, h4⟩ := h
  have hl : l.length = m := by rw [← h1, u8s_length]
  subst hl
  cases a with
  | none =>
    rcases h4 with h4 | ⟨b, off, e, _⟩
    · have : l = [] := by simpa [u8s] using h4
      subst this
      rw [run_convert_bytes_string w 50 9 5 none _ c Tryz.underlying50 Tryz.underlying5 Tryz.underlying9]
      simp [Conv.bytesToString, str]
      rfl
    · cases e
  | some x =>
    refine run_convert_bytes_back w 50 9 5 x c l Tryz.underlying50 Tryz.underlying5 Tryz.underlying9 fun j hj => ?_
    rcases h4 with h4 | ⟨b, off, e, _, hc⟩
    · have : l = [] := by simpa [u8s] using h4
      subst this
      simp at hj
    · injection e with e
      subst e
      rw [Addr.add_mid, hc j hj]
      simp [u8s, u8, hj]

/-- a row that has just been laid -/
theorem row_lit (w : World) (l : List UInt8) (fr : Nat × Nat) (h : l.length ≤ 1000) : Row (w.alloc (.cells (u8s l).toArray 5 fr)) (some ⟨w.heap.size, 0, none⟩) l.length l.length (u8s l) := by
  refine ⟨u8s_length l, Nat.le_refl _, by simp only [maxLen]; omega, .inr ⟨w.heap.size, 0, rfl, by simp, fun i hi => ?_⟩⟩
  rw [World.cell?_alloc_mark]
  simp

/-- no fuse, and not dead -/
def Free (d : M.Dv) : Prop := d.fuse = -1 ∧ d.dead = false

theorem Free.crash (n : Nat) (d : M.Dv) (l : List (Int × Int)) : Free (M.crashD n d l) := ⟨rfl, rfl⟩
theorem Free.fresh : Free M.fresh := ⟨rfl, rfl⟩
theorem Free.reach {d : M.Dv} (h : Free d) (n : Nat) (i : Int) : M.reach n d i = if i < 0 ∨ (n : Int) ≤ i then 2 else 0 := by
  unfold M.reach; rw [h.2]; simp
theorem Free.act {d : M.Dv} (h : Free d) : M.actE d = 0 ∧ M.actD d = d := by
  obtain ⟨h1, h2⟩ := h
  unfold M.actE M.actD
  rw [h1]
  exact ⟨by simp, by simp⟩
theorem Free.writeE {d : M.Dv} (h : Free d) (n : Nat) (i : Int) (b : List UInt8) : M.writeE n d i b = if i < 0 ∨ (n : Int) ≤ i then 2 else if 144 < b.length then 3 else 0 := by
  unfold M.writeE
  rw [h.reach, h.act.1]
  by_cases c : i < 0 ∨ (n : Int) ≤ i
  · simp [c]
  · simp [c]
theorem Free.writeD {d : M.Dv} (h : Free d) (n : Nat) (i : Int) (b : List UInt8) : M.writeD n d i b = if M.writeE n d i b = 0 then { d with P := M.upd d.P i (M.pad b) } else d := by
  rw [h.writeE]
  unfold M.writeD
  rw [h.reach, h.act.2, if_neg (show ¬ d.fuse = 0 by rw [h.1]; omega)]
  by_cases c : i < 0 ∨ (n : Int) ≤ i
  · simp [c]
  · by_cases c2 : 144 < b.length
    · simp [c, c2]
    · simp [c, c2]
theorem Free.write {d : M.Dv} (h : Free d) (n : Nat) (i : Int) (b : List UInt8) : Free (M.writeD n d i b) := by
  rw [h.writeD]; split <;> exact h
theorem Free.barrierD {d : M.Dv} (h : Free d) : M.barrierD d = { d with S := M.sure d, P := fun _ => none } := by
  unfold M.barrierD
  rw [h.act.2, if_neg (by rw [h.2]; simp), if_neg (by rw [h.1]; omega)]
theorem Free.barrier {d : M.Dv} (h : Free d) : Free (M.barrierD d) := by rw [h.barrierD]; exact h

theorem seen_write {d : M.Dv} (h : Free d) (n : Nat) {i : Nat} {j : Int} (hj : j ≠ (i : Int)) (b : List UInt8) : M.seen (M.writeD n d j b) i = M.seen d i := by
  rw [h.writeD]
  split
  · simp only [M.seen, M.upd]
    rw [if_neg (Ne.symm hj)]
  · rfl
theorem seen_write_same {d : M.Dv} (h : Free d) (n : Nat) {i : Nat} (b : List UInt8) (he : M.writeE n d i b = 0) : M.seen (M.writeD n d i b) i = M.pad b := by
  rw [h.writeD, if_pos he]
  simp [M.seen, M.upd]
theorem seen_barrier {d : M.Dv} (h : Free d) (i : Nat) : M.seen (M.barrierD d) i = M.seen d i := by
  rw [h.barrierD]
  rfl
theorem seen_len {n : Nat} {d : M.Dv} (h : M.Wf n d) (i : Nat) : (M.seen d i).length = 144 := M.sure_len h i

theorem pad_take {b : List UInt8} (h : b.length ≤ 144) : (M.pad b).take b.length = b := by
  unfold M.pad
  rw [List.take_append_of_le_length (Nat.le_refl _), List.take_length]
theorem pad_zero {b : List UInt8} {j : Nat} (h1 : b.length ≤ j) (h2 : j < 144) : (M.pad b)[j]? = some 0 := by
  unfold M.pad
  rw [List.getElem?_append_right h1, List.getElem?_replicate, if_pos (by omega)]

/-- a sector's byte in memory -/
theorem range_byte {w : World} {b j : Nat} {s : List UInt8} {c : UInt8} (h : w.rangeAt b 0 (u8s s)) (hj : s[j]? = some c) : w.cell? ⟨b, 0 + j, none⟩ = some (.int .u8 (c.toNat : Int)) := by
  have := h j (u8 c) (by simp [u8s, hj])
  exact this

/-- the first bytes of a sector as a string -/
theorem conv_take {w : World} {b k : Nat} {s : List UInt8} (h : w.rangeAt b 0 (u8s s)) (hb : b < w.heap.size) (hs : s.length = 144) (hk : k ≤ 144) : (convert 50 9 (.slice (some ⟨b, 0, none⟩) k 144)).run Tryz.prog w = .ok (.string (str (s.take k))) w := by
  have h1 := row_range h hb (cap := 144) (by rw [u8s_length]; omega) (by simp [maxLen])
  have h2 := row_take h1 (k := k) (by rw [u8s_length]; omega)
  unfold u8s at h2
  rw [← List.map_take] at h2
  exact conv_row h2
end Go.Proofs.YtpoolpckabpnfaaGreat
