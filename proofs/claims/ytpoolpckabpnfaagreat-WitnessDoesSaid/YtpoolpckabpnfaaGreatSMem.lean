/-
  What stays while some blocks are written; rows of bytes; a map of sectors that came or was made, as a function; a device in memory.
-/
import Derived.Test.YtpoolpckabpnfaaGreatProg
import Derived.Test.YtpoolpckabpnfaaGreatSMath
import Derived.WalkKit
import Derived.Lib.Hide
import Derived.Below
import Derived.Maps.AppendAt
import Derived.Maps.RangeWalk
import Derived.OwnWalk
import Derived.Deep.MidRow
import Derived.Lib.AppendStr
import Derived.Laws.BytesString
import Derived.Shelf.SlIterI.Nil
import Derived.Deep.QuietTactic
import Derived.BigQuiet
import Derived.StillTailTactics
namespace Go.Proofs.YtpoolpckabpnfaaGreat
open Go.RowKit Go.Maps
set_option linter.unusedVariables false
set_option linter.unusedSimpArgs false
set_option maxRecDepth 20000

def u8 (c : UInt8) : Value := .int .u8 (c.toNat : Int)
def u8s (l : List UInt8) : List Value := l.map u8
theorem u8s_length (l : List UInt8) : (u8s l).length = l.length := List.length_map _
theorem u8s_append (l m : List UInt8) : u8s (l ++ m) = u8s l ++ u8s m := List.map_append
theorem u8s_one (l : List UInt8) : ∀ u ∈ u8s l, u.oneCell' = true := by
  intro u hu
  obtain ⟨_, _, rfl⟩ := List.mem_map.1 hu
  rfl
theorem u8_inj {a b : UInt8} (h : u8 a = u8 b) : a = b := by
  unfold u8 at h
  injection h with _ h
  exact UInt8.toNat_inj.1 (by omega)
theorem u8s_inj {l m : List UInt8} (h : u8s l = u8s m) : l = m := by
  induction l generalizing m with
  | nil => cases m with
    | nil => rfl
    | cons a m => simp [u8s] at h
  | cons a l ih => cases m with
    | nil => simp [u8s] at h
    | cons b m =>
      simp only [u8s, List.map_cons, List.cons.injEq] at h
      rw [u8_inj h.1, ih h.2]

/-! what stays: all blocks but those of l -/
structure But (l : List Nat) (w w' : World) : Prop where
  os : w'.os = w.os
  tape : w'.tape = w.tape
  output : w'.output = w.output
  size : w.heap.size ≤ w'.heap.size
  block : ∀ k, k < w.heap.size → k ∉ l → w'.heap[k]? = w.heap[k]?

theorem But.refl (l : List Nat) (w : World) : But l w w := ⟨rfl, rfl, rfl, Nat.le_refl _, fun _ _ _ => rfl⟩
theorem But.trans {l : List Nat} {a b c : World} (h : But l a b) (k : But l b c) : But l a c :=
  ⟨k.os.trans h.os, k.tape.trans h.tape, k.output.trans h.output, Nat.le_trans h.size k.size, fun i hi hn => (k.block i (Nat.lt_of_lt_of_le hi h.size) hn).trans (h.block i hi hn)⟩
theorem But.mono {l m : List Nat} {a b : World} (h : But l a b) (hs : ∀ x, x ∈ l → x ∈ m) : But m a b := ⟨h.os, h.tape, h.output, h.size, fun i hi hn => h.block i hi fun hl => hn (hs i hl)⟩
theorem But.alloc {l : List Nat} {a w : World} (h : But l a w) (o : Obj) : But l a (w.alloc o) :=
  h.trans ⟨rfl, rfl, rfl, by simp, fun k hk _ => Below.heap_alloc _ _ _ hk⟩
theorem But.set {l : List Nat} {a w : World} (h : But l a w) {p : Addr} (v : Value) (hp : p.block ∈ l ∨ a.heap.size ≤ p.block) : But l a (w.setCell p v) := by
  refine ⟨h.os, h.tape, h.output, by simpa [World.setCell] using h.size, fun k hk hn => ?_⟩
  have hne : k ≠ p.block := by
    rintro rfl
    rcases hp with hp | hp
    · exact hn hp
    · omega
  exact (Below.heap_setCell w p v k hne).trans (h.block k hk hn)
theorem heap_setCells (b : Nat) : ∀ (vs : List Value) (o : Nat) (w : World) (k : Nat), k ≠ b → (w.setCells b o vs).heap[k]? = w.heap[k]?
  | [], _, _, _, _ => rfl
  | v :: r, o, w, k, hk => by rw [World.setCells, heap_setCells b r _ _ k hk, Below.heap_setCell _ _ _ _ hk]
theorem size_setCells (b : Nat) : ∀ (vs : List Value) (o : Nat) (w : World), (w.setCells b o vs).heap.size = w.heap.size
  | [], _, _ => rfl
  | v :: r, o, w => by rw [World.setCells, size_setCells b r]; simp [World.setCell]
theorem os_setCells (b : Nat) : ∀ (vs : List Value) (o : Nat) (w : World), (w.setCells b o vs).os = w.os ∧ (w.setCells b o vs).tape = w.tape ∧ (w.setCells b o vs).output = w.output
  | [], _, _ => ⟨rfl, rfl, rfl⟩
  | v :: r, o, w => by rw [World.setCells]; exact os_setCells b r _ _
theorem But.sets {l : List Nat} {a w : World} (h : But l a w) (b o : Nat) (vs : List Value) (hp : b ∈ l ∨ a.heap.size ≤ b) : But l a (w.setCells b o vs) := by
  obtain ⟨h1, h2, h3⟩ := os_setCells b vs o w
  refine ⟨h1.trans h.os, h2.trans h.tape, h3.trans h.output, by rw [size_setCells]; exact h.size, fun k hk hn => ?_⟩
  have hne : k ≠ b := by
    rintro rfl
    rcases hp with hp | hp
    · exact hn hp
    · omega
  rw [heap_setCells b vs o w k hne]
  exact h.block k hk hn
theorem But.drew {l : List Nat} {a w : World} (h : But l a w) : But l a w.drew := ⟨h.os, h.tape, h.output, h.size, h.block⟩
theorem But.drewN {l : List Nat} {a w : World} (h : But l a w) (n : Nat) : But l a (w.drewN n) := ⟨h.os, h.tape, h.output, h.size, h.block⟩
theorem But.grown {l : List Nat} {a w w' : World} {row : Option Nat} (h : But l a w) (hg : w.grownBy w' row) (hr : ∀ k, row = some k → k ∈ l ∨ a.heap.size ≤ k) : But l a w' := by
  refine ⟨hg.os.trans h.os, hg.tape.trans h.tape, hg.output.trans h.output, Nat.le_trans h.size hg.size, fun k hk hn => ?_⟩
  have hne : some k ≠ row := by
    intro e
    rcases hr k e.symm with h1 | h1
    · exact hn h1
    · omega
  exact (hg.block k (Nat.lt_of_lt_of_le hk h.size) hne).trans (h.block k hk hn)
theorem But.below {l : List Nat} {a w w' : World} {B : Nat} (h : But l a w) (hb : Below B w w') (hB : a.heap.size ≤ B) : But l a w' :=
  ⟨hb.os.trans h.os, hb.tape.trans h.tape, hb.output.trans h.output, Nat.le_trans h.size hb.size, fun k hk hn => (hb.block k (by omega)).trans (h.block k hk hn)⟩
/-- all that may have changed lies from B on -/
theorem But.to_below {l : List Nat} {a w : World} {B : Nat} (h : But l a w) (hl : ∀ x ∈ l, B ≤ x) (hB : B ≤ a.heap.size) : Below B a w :=
  ⟨h.os, h.tape, h.output, h.size, fun k hk => h.block k (by omega) fun hm => by have := hl k hm; omega⟩
theorem But.of_below {a w : World} (h : Below a.heap.size a w) : But [] a w := (But.refl _ _).below h (Nat.le_refl _)
theorem But.cell {l : List Nat} {a w : World} (h : But l a w) {b o : Nat} (hb : b < a.heap.size) (hn : b ∉ l) : w.cell? ⟨b, o, none⟩ = a.cell? ⟨b, o, none⟩ := World.cell?_of_block (w := a) (h.block b hb hn)
theorem But.frozen {l : List Nat} {a w : World} (h : But l a w) {b o : Nat} (hb : b < a.heap.size) (hn : b ∉ l) : w.frozen? ⟨b, o, none⟩ = a.frozen? ⟨b, o, none⟩ := World.frozen?_of_block (w := a) (h.block b hb hn)

/-! sectors as values -/
theorem u8_info : (Tryz.prog.info? 5).map (fun i => (i.zero, i.size, i.bytes)) = some (some (.int .u8 0), 1, 1) := by kernel_rfl
theorem sec_size : (Tryz.prog.info? 95).map (·.size) = some 144 := by kernel_rfl
theorem zero_is : (u8s M.zero).toArray = Array.replicate 144 (.int .u8 0) := by kernel_rfl
theorem sec_info : (Tryz.prog.info? 95).map (·.zero) = some (some (.agg (u8s M.zero).toArray)) := by kernel_rfl
theorem zero_run (w : World) : (zeroValue 95).run Tryz.prog w = .ok (.agg (u8s M.zero).toArray) w := by
  have h := sec_info
  cases hi : Tryz.prog.info? 95 with
  | none => simp [hi] at h
  | some i =>
    simp only [hi, Option.map_some, Option.some.injEq] at h
    simp [zeroValue, typeInfo, hi, h]

open Classical in
noncomputable def secR (v : Value) : Option (DataW Unit × List MemPlace) :=
  if h : ∃ s : List UInt8, s.length = 144 ∧ v = .agg (u8s s).toArray then some (.lit (.string h.choose), []) else none
theorem secR_mk {s : List UInt8} (h : s.length = 144) : secR (.agg (u8s s).toArray) = some (.lit (.string s), []) := by
  have hx : ∃ s' : List UInt8, s'.length = 144 ∧ Value.agg (u8s s).toArray = .agg (u8s s').toArray := ⟨s, h, rfl⟩
  unfold secR
  rw [dif_pos hx]
  have this : (u8s s).toArray = (u8s hx.choose).toArray := Value.agg.inj hx.choose_spec.2
  have e : s = hx.choose := u8s_inj (List.toArray_inj this)
  exact congrArg (fun x => some ((DataW.lit (Lit.string x) : DataW Unit), ([] : List MemPlace))) e.symm
theorem secR_inv {v : Value} {y : DataW Unit × List MemPlace} (h : secR v = some y) : ∃ s : List UInt8, s.length = 144 ∧ v = .agg (u8s s).toArray ∧ y = (.lit (.string s), []) := by
  unfold secR at h
  split at h
  · rename_i hx
    injection h with h
    exact ⟨hx.choose, hx.choose_spec.1, hx.choose_spec.2, h.symm⟩
  · cases h

/-! a map of sectors as a function of the number -/
def Reads (D : DataW Unit) (P : Int → Option M.Sec) : Prop := IsMap D ∧ (∀ k, has D (.int .i64 k) = (P k).isSome) ∧ ∀ k s, P k = some s → ∀ z, D.atKey (.int .i64 k) z = .lit (.string s)

def MapIs (w : World) (mb : Nat) (P : Int → Option M.Sec) : Prop := ∃ N D, w.ownsMap (H := Unit) Tryz.prog 3 secR mb N D ∧ Reads D P

theorem int_wf {k : Int} (h1 : -9223372036854775808 ≤ k) (h2 : k ≤ 9223372036854775807) : (Lit.int .i64 k).wf = true := by
  simp [Lit.wf, IntKind.min, IntKind.max, IntKind.signed, IntKind.bits]
  omega
theorem wf_int {k : Int} (h : (Lit.int .i64 k).wf = true) : -9223372036854775808 ≤ k ∧ k ≤ 9223372036854775807 := by
  simp [Lit.wf, IntKind.min, IntKind.max, IntKind.signed, IntKind.bits] at h
  omega
theorem key_ok {k : Int} (h1 : -9223372036854775808 ≤ k) (h2 : k ≤ 9223372036854775807) : keyOf Tryz.prog 3 (.int .i64 k) = some (.int .i64 k) := keyOf_int_mk Tryz.underlying3 (int_wf h1 h2)
theorem is_key {k : Int} (h1 : -9223372036854775808 ≤ k) (h2 : k ≤ 9223372036854775807) : WideAt.IsKeyLit (.int .i64 k) := (int_keyed Tryz.underlying3).key (key_ok h1 h2)

theorem reads_none : Reads (.map []) fun _ => none := ⟨isMap_empty, fun k => rfl, fun k s h => by cases h⟩
theorem reads_put {D : DataW Unit} {P : Int → Option M.Sec} (h : Reads D P) {i : Int} (h1 : -9223372036854775808 ≤ i) (h2 : i ≤ 9223372036854775807) (s : M.Sec) : Reads (D.put (.int .i64 i) (.lit (.string s))) (M.upd P i s) := by
  obtain ⟨ha, hb, hc⟩ := h
  refine ⟨ha.put _ _, fun k => ?_, fun k t hk z => ?_⟩
  · by_cases e : k = i
    · subst e; simp [M.upd, has_put_same ha (is_key h1 h2)]
    · rw [has_put_other (fun e' => e (by injection e')), hb k]; simp [M.upd, e]
  · by_cases e : k = i
    · subst e
      simp only [M.upd, if_true, Option.some.injEq] at hk
      subst hk
      exact atKey_put_same ha (is_key h1 h2) _ _
    · rw [atKey_put_other (fun e' => e (by injection e'))]
      simp only [M.upd, if_neg e] at hk
      exact hc k t hk z

theorem mapis_made (w : World) : MapIs (w.alloc (.map #[] 0)) w.heap.size fun _ => none := ⟨0, _, World.ownsMap_made w _ _ _, reads_none⟩
theorem MapIs.lt {w : World} {mb : Nat} {P : Int → Option M.Sec} (h : MapIs w mb P) : mb < w.heap.size := by
  obtain ⟨N, D, h, _⟩ := h
  exact h.lt
theorem MapIs.of_block {w w' : World} {mb : Nat} {P : Int → Option M.Sec} (h : MapIs w mb P) (hb : w'.heap[mb]? = w.heap[mb]?) : MapIs w' mb P := by
  obtain ⟨N, D, ⟨es, clock, h1, h2⟩, h3⟩ := h
  exact ⟨N, D, ⟨es, clock, hb.trans h1, h2⟩, h3⟩

/-- the keys, sorted, are those that have something, rising -/
theorem keys_sorted {w : World} {mb N n : Nat} {D : DataW Unit} {P : Int → Option M.Sec} (hown : w.ownsMap (H := Unit) Tryz.prog 3 secR mb N D) (hr : Reads D P) (hP : ∀ k s, P k = some s → 0 ≤ k ∧ k < (n : Int)) :
    (intKeys D).mergeSort (fun x y => decide (x ≤ y)) = M.pendL n P := by
  obtain ⟨es, rfl, hp, hk⟩ := hown.entries (int_keyed Tryz.underlying3)
  obtain ⟨es', e, hk'⟩ := hown.keysOf
  injection e with e
  subst e
  have hk2 : ∀ p ∈ es, ∃ x, p.1 = .int .i64 x := fun p hp' => by
    obtain ⟨v, hv⟩ := hk' p hp'
    obtain ⟨x, _, hx, _⟩ := Maps.keyOf_i64 Tryz.underlying3 hv
    exact ⟨x, hx⟩
  have hperm : (M.pendL n P).Perm (intKeys (.map es)) := by
    refine perm_intKeys hp hk2 ?_ fun x => ?_
    · exact (M.pendL_rising n P).imp fun h => by omega
    · rw [M.mem_pendL hP, hr.2.1]
  rw [← mergeSort_of_perm_i hperm]
  refine List.mergeSort_of_pairwise ?_
  exact (M.pendL_rising n P).imp fun h => by simp; omega

theorem keys_count {w : World} {mb N n : Nat} {D : DataW Unit} {P : Int → Option M.Sec} (hown : w.ownsMap (H := Unit) Tryz.prog 3 secR mb N D) (hr : Reads D P) (hP : ∀ k s, P k = some s → 0 ≤ k ∧ k < (n : Int)) : Maps.size D ≤ n := by
  have h := congrArg List.length (keys_sorted hown hr hP)
  rw [List.length_mergeSort] at h
  have h2 := M.pendL_len n P
  obtain ⟨es, rfl, _, _⟩ := hown.entries (int_keyed Tryz.underlying3)
  have h3 : (intKeys (.map es : DataW Unit)).length = es.length := by simp [intKeys]
  rw [size_eq]
  omega

theorem own_bound {w : World} {mb N n : Nat} {D : DataW Unit} (hown : w.ownsMap (H := Unit) Tryz.prog 3 secR mb N D) (hn : Maps.size D ≤ n) : w.ownsMap (H := Unit) Tryz.prog 3 secR mb n D := by
  obtain ⟨es, clock, hb, F, _, rfl⟩ := hown
  refine ⟨es, clock, hb, F, ?_, rfl⟩
  simpa [Maps.size, length_sorted] using hn

theorem mapis_look {w : World} {mb : Nat} {P : Int → Option M.Sec} (h : MapIs w mb P) {i : Int} (h1 : -9223372036854775808 ≤ i) (h2 : i ≤ 9223372036854775807) :
    (Instr.lookup 60 (.map (some mb)) (.int .i64 i) true).run Tryz.prog w = .ok (.tuple #[.agg (u8s ((P i).getD M.zero)).toArray, .bool (P i).isSome]) w ∧
    (Instr.lookup 60 (.map (some mb)) (.int .i64 i) false).run Tryz.prog w = .ok (.agg (u8s ((P i).getD M.zero)).toArray) w := by
  obtain ⟨N, D, hown, hr⟩ := h
  have key : ∀ {v : Value} {ps : List MemPlace}, secR v = some (D.atKey (.int .i64 i) (.lit (.string M.zero)), ps) → v = .agg (u8s ((P i).getD M.zero)).toArray := by
    intro v ps hv
    obtain ⟨s, hs, rfl, e⟩ := secR_inv hv
    simp only [Prod.mk.injEq] at e
    cases hp : P i with
    | none =>
      have : has D (.int .i64 i) = false := by rw [hr.2.1, hp]; rfl
      rw [atKey_of_not_has this] at e
      simp only [DataW.lit.injEq, Lit.string.injEq] at e
      rw [← e.1]; rfl
    | some t =>
      rw [hr.2.2 i t hp] at e
      simp only [DataW.lit.injEq, Lit.string.injEq] at e
      rw [← e.1]; rfl
  obtain ⟨v, ps, hrun, hv⟩ := hown.look_ok (int_keyed Tryz.underlying3) Tryz.underlying60 (zero_run w) (secR_mk M.zero_len) (key_ok h1 h2)
  obtain ⟨v', ps', hrun', hv'⟩ := hown.lookup (int_keyed Tryz.underlying3) Tryz.underlying60 (zero_run w) (secR_mk M.zero_len) (key_ok h1 h2)
  rw [key hv, hr.2.1] at hrun
  rw [key hv'] at hrun'
  exact ⟨hrun, hrun'⟩

theorem mapis_store {w : World} {mb n : Nat} {P : Int → Option M.Sec} (h : MapIs w mb P) (hP : ∀ k s, P k = some s → 0 ≤ k ∧ k < (n : Int)) (hn : n ≤ 1000000) {i : Int} (h1 : -9223372036854775808 ≤ i) (h2 : i ≤ 9223372036854775807) {s : M.Sec} (hs : s.length = 144) :
    ∃ w', (Instr.mapUpdate 60 (.map (some mb)) (.int .i64 i) (.agg (u8s s).toArray)).run Tryz.prog w = .ok () w' ∧ MapIs w' mb (M.upd P i s) ∧ But [mb] w w' := by
  obtain ⟨N, D, hown, hr⟩ := h
  obtain ⟨w', r1, r2, r3⟩ := (own_bound hown (keys_count hown hr hP)).update (int_keyed Tryz.underlying3) Tryz.underlying60 (by simp only [maxLen]; omega) (key_ok h1 h2) (secR_mk hs)
  exact ⟨w', r1, ⟨_, _, r2, reads_put hr h1 h2 s⟩, (But.refl _ _).grown r3 fun k hk => by injection hk with hk; subst hk; exact .inl (by simp)⟩

theorem mapis_clear {w : World} {mb : Nat} {P : Int → Option M.Sec} (h : MapIs w mb P) (ty : TypeId) :
    ∃ w', (Builtin.clear_ #[60] ty #[.map (some mb)]).run Tryz.prog w = .ok (.tuple #[]) w' ∧ MapIs w' mb (fun _ => none) ∧ But [mb] w w' := by
  obtain ⟨N, D, ⟨es, clock, hb, F, hs, rfl⟩, hr⟩ := h
  refine ⟨ChangeMaps.setBlock w mb (.map #[] clock), ?_, ⟨0, _, ⟨#[], clock, ChangeMaps.heap_setBlock_same hb _, ⟨by simp, ?_, by simp⟩, Nat.le_refl _, rfl⟩, reads_none⟩, ⟨rfl, rfl, rfl, by simp [ChangeMaps.setBlock], fun k hk hn => ChangeMaps.heap_setBlock_other hb _ (by simpa using hn)⟩⟩
  · simp [Builtin.clear_, run_underlying Tryz.underlying60, MapKept.run_getObj_map hb, MapKept.run_setObj_map _ hb, Result.andThen, ChangeMaps.setBlock]
  · exact MapKept.stamped_empty clock

/-! a device in memory: its own block, its sectors', its map's -/
structure DevAt (w : World) (dB sB mB n : Nat) (d : M.Dv) : Prop where
  sec : w.cell? ⟨dB, 0, none⟩ = some (.slice (some ⟨sB, 0, none⟩) n n)
  map : w.cell? ⟨dB, 1, none⟩ = some (.map (some mB))
  dead : w.cell? ⟨dB, 2, none⟩ = some (.bool d.dead)
  fuse : w.cell? ⟨dB, 3, none⟩ = some (.int .i64 d.fuse)
  fz : ∀ o, w.frozen? ⟨dB, o, none⟩ = false
  ds : dB ≠ sB
  dm : dB ≠ mB
  sm : sB ≠ mB
  lt : sB < w.heap.size
  bytes : ∀ i, i < n → w.rangeAt sB (i * 144) (u8s (d.S i))
  there : w.there sB 0 (n * 144)
  pend : MapIs w mB d.P
  wf : M.Wf n d
  n512 : n ≤ 512

theorem DevAt.ltD {w : World} {dB sB mB n : Nat} {d : M.Dv} (h : DevAt w dB sB mB n d) : dB < w.heap.size := World.block_lt_of_cell? w _ h.sec

theorem rangeAt_block {w w' : World} {b o : Nat} {cs : List Value} (h : w.rangeAt b o cs) (hb : w'.heap[b]? = w.heap[b]?) : w'.rangeAt b o cs := fun j v hv => by
  rw [World.cell?_of_block (w := w) (a := ⟨b, o + j, none⟩) hb]; exact h j v hv
theorem there_block {w w' : World} {b o n : Nat} (h : w.there b o n) (hb : w'.heap[b]? = w.heap[b]?) : w'.there b o n := fun j hj => by
  rw [World.cell?_of_block (w := w) (a := ⟨b, o + j, none⟩) hb, World.frozen?_of_block (w := w) (a := ⟨b, o + j, none⟩) hb]; exact h j hj

theorem DevAt.of_blocks {w w' : World} {dB sB mB n : Nat} {d : M.Dv} (h : DevAt w dB sB mB n d) (h1 : w'.heap[dB]? = w.heap[dB]?) (h2 : w'.heap[sB]? = w.heap[sB]?) (h3 : w'.heap[mB]? = w.heap[mB]?) (hs : w.heap.size ≤ w'.heap.size) : DevAt w' dB sB mB n d where
  sec := by rw [World.cell?_of_block (w := w) (a := ⟨dB, 0, none⟩) h1]; exact h.sec
  map := by rw [World.cell?_of_block (w := w) (a := ⟨dB, 1, none⟩) h1]; exact h.map
  dead := by rw [World.cell?_of_block (w := w) (a := ⟨dB, 2, none⟩) h1]; exact h.dead
  fuse := by rw [World.cell?_of_block (w := w) (a := ⟨dB, 3, none⟩) h1]; exact h.fuse
  fz := fun o => by rw [World.frozen?_of_block (w := w) (a := ⟨dB, o, none⟩) h1]; exact h.fz o
  ds := h.ds
  dm := h.dm
  sm := h.sm
  lt := Nat.lt_of_lt_of_le h.lt hs
  bytes := fun i hi => rangeAt_block (h.bytes i hi) h2
  there := there_block h.there h2
  pend := h.pend.of_block h3
  wf := h.wf
  n512 := h.n512

theorem DevAt.but {w w' : World} {dB sB mB n : Nat} {d : M.Dv} (h : DevAt w dB sB mB n d) {l : List Nat} (hb : But l w w') (h1 : dB ∉ l) (h2 : sB ∉ l) (h3 : mB ∉ l) : DevAt w' dB sB mB n d :=
  h.of_blocks (hb.block _ h.ltD h1) (hb.block _ h.lt h2) (hb.block _ h.pend.lt h3) hb.size
theorem DevAt.alloc {w : World} {dB sB mB n : Nat} {d : M.Dv} (h : DevAt w dB sB mB n d) (o : Obj) : DevAt (w.alloc o) dB sB mB n d := h.but ((But.refl [] w).alloc o) (by simp) (by simp) (by simp)
theorem DevAt.drewN {w : World} {dB sB mB n : Nat} {d : M.Dv} (h : DevAt w dB sB mB n d) (k : Nat) : DevAt (w.drewN k) dB sB mB n d := h.of_blocks rfl rfl rfl (Nat.le_refl _)
theorem DevAt.drew {w : World} {dB sB mB n : Nat} {d : M.Dv} (h : DevAt w dB sB mB n d) : DevAt w.drew dB sB mB n d := h.of_blocks rfl rfl rfl (Nat.le_refl _)

/-- a store to the device's own block -/
theorem DevAt.setDead {w : World} {dB sB mB n : Nat} {d : M.Dv} (h : DevAt w dB sB mB n d) (b : Bool) : DevAt (w.setCell ⟨dB, 2, none⟩ (.bool b)) dB sB mB n { d with dead := b } where
  sec := by rw [World.cell?_setCell_other _ _ _ _ (by simp)]; exact h.sec
  map := by rw [World.cell?_setCell_other _ _ _ _ (by simp)]; exact h.map
  dead := World.cell?_setCell_same _ _ _ h.dead
  fuse := by rw [World.cell?_setCell_other _ _ _ _ (by simp)]; exact h.fuse
  fz := fun o => by rw [World.frozen?_setCell]; exact h.fz o
  ds := h.ds
  dm := h.dm
  sm := h.sm
  lt := by simpa [World.setCell] using h.lt
  bytes := fun i hi => rangeAt_block (h.bytes i hi) (Below.heap_setCell _ _ _ _ (Ne.symm h.ds))
  there := there_block h.there (Below.heap_setCell _ _ _ _ (Ne.symm h.ds))
  pend := h.pend.of_block (Below.heap_setCell _ _ _ _ (Ne.symm h.dm))
  wf := ⟨h.wf.len, h.wf.pend, h.wf.lo, h.wf.hi⟩
  n512 := h.n512

theorem DevAt.setFuse {w : World} {dB sB mB n : Nat} {d : M.Dv} (h : DevAt w dB sB mB n d) {k : Int} (h1 : -9223372036854775808 ≤ k) (h2 : k ≤ 9223372036854775807) : DevAt (w.setCell ⟨dB, 3, none⟩ (.int .i64 k)) dB sB mB n { d with fuse := k } where
  sec := by rw [World.cell?_setCell_other _ _ _ _ (by simp)]; exact h.sec
  map := by rw [World.cell?_setCell_other _ _ _ _ (by simp)]; exact h.map
  dead := by rw [World.cell?_setCell_other _ _ _ _ (by simp)]; exact h.dead
  fuse := World.cell?_setCell_same _ _ _ h.fuse
  fz := fun o => by rw [World.frozen?_setCell]; exact h.fz o
  ds := h.ds
  dm := h.dm
  sm := h.sm
  lt := by simpa [World.setCell] using h.lt
  bytes := fun i hi => rangeAt_block (h.bytes i hi) (Below.heap_setCell _ _ _ _ (Ne.symm h.ds))
  there := there_block h.there (Below.heap_setCell _ _ _ _ (Ne.symm h.ds))
  pend := h.pend.of_block (Below.heap_setCell _ _ _ _ (Ne.symm h.dm))
  wf := ⟨h.wf.len, h.wf.pend, h1, h2⟩
  n512 := h.n512

/-- the map turned -/
theorem DevAt.setMap {w w' : World} {dB sB mB n : Nat} {d : M.Dv} (h : DevAt w dB sB mB n d) (hb : But [mB] w w') {P : Int → Option M.Sec} (hm : MapIs w' mB P) (hw : ∀ k s, P k = some s → 0 ≤ k ∧ k < (n : Int) ∧ s.length = 144) : DevAt w' dB sB mB n { d with P := P } := by
  have h1 := hb.block _ h.ltD (by simpa using h.dm)
  have h2 := hb.block _ h.lt (by simpa using h.sm)
  exact { sec := by rw [World.cell?_of_block (w := w) (a := ⟨dB, 0, none⟩) h1]; exact h.sec
          map := by rw [World.cell?_of_block (w := w) (a := ⟨dB, 1, none⟩) h1]; exact h.map
          dead := by rw [World.cell?_of_block (w := w) (a := ⟨dB, 2, none⟩) h1]; exact h.dead
          fuse := by rw [World.cell?_of_block (w := w) (a := ⟨dB, 3, none⟩) h1]; exact h.fuse
          fz := fun o => by rw [World.frozen?_of_block (w := w) (a := ⟨dB, o, none⟩) h1]; exact h.fz o
          ds := h.ds
          dm := h.dm
          sm := h.sm
          lt := Nat.lt_of_lt_of_le h.lt hb.size
          bytes := fun i hi => rangeAt_block (h.bytes i hi) h2
          there := there_block h.there h2
          pend := hm
          wf := ⟨h.wf.len, hw, h.wf.lo, h.wf.hi⟩
          n512 := h.n512 }

/-- a range whose first bytes are written over -/
theorem range_over {w : World} {b o : Nat} {z l : List UInt8} (h : w.rangeAt b o (u8s z)) (ht : w.there b o z.length) (hl : l.length ≤ z.length) : (w.setCells b o (u8s l)).rangeAt b o (u8s (l ++ z.drop l.length)) := fun j v hv => by
  have hj : j < z.length := by
    have := (List.getElem?_eq_some_iff.1 hv).1
    rw [u8s_length, List.length_append, List.length_drop] at this
    omega
  by_cases h1 : j < l.length
  · rw [World.cell?_setCells_in b (u8s l) o w (fun i hi => (ht i (by rw [u8s_length] at hi; omega)).1) j (by rw [u8s_length]; exact h1), ← hv, u8s_append, List.getElem?_append_left (by rw [u8s_length]; exact h1), List.getElem?_eq_getElem]
  · rw [World.cell?_setCells_out b (u8s l) o w ⟨b, o + j, none⟩ (fun _ _ => .inr (by rw [u8s_length]; show o + l.length ≤ o + j; omega))]
    refine h j v ?_
    rw [← hv, u8s_append, List.getElem?_append_right (by rw [u8s_length]; omega), u8s_length]
    unfold u8s
    rw [List.map_drop, List.getElem?_drop, show l.length + (j - l.length) = j by omega]

/-- a sector's first bytes turned -/
theorem DevAt.setSec {w : World} {dB sB mB n : Nat} {d : M.Dv} (h : DevAt w dB sB mB n d) {i : Nat} (hi : i < n) {l : List UInt8} (hs : l.length ≤ 144) : DevAt (w.setCells sB (i * 144) (u8s l)) dB sB mB n { d with S := fun j => if j = i then l ++ (d.S j).drop l.length else d.S j } := by
  have h1 := heap_setCells sB (u8s l) (i * 144) w dB h.ds
  have h3 := heap_setCells sB (u8s l) (i * 144) w mB (Ne.symm h.sm)
  have hn : (i + 1) * 144 ≤ n * 144 := Nat.mul_le_mul_right _ hi
  exact { sec := by rw [World.cell?_of_block (w := w) (a := ⟨dB, 0, none⟩) h1]; exact h.sec
          map := by rw [World.cell?_of_block (w := w) (a := ⟨dB, 1, none⟩) h1]; exact h.map
          dead := by rw [World.cell?_of_block (w := w) (a := ⟨dB, 2, none⟩) h1]; exact h.dead
          fuse := by rw [World.cell?_of_block (w := w) (a := ⟨dB, 3, none⟩) h1]; exact h.fuse
          fz := fun o => by rw [World.frozen?_of_block (w := w) (a := ⟨dB, o, none⟩) h1]; exact h.fz o
          ds := h.ds
          dm := h.dm
          sm := h.sm
          lt := by rw [size_setCells]; exact h.lt
          bytes := fun j hj => by
            by_cases e : j = i
            · subst e
              simp only [if_true]
              refine range_over (h.bytes j hj) (fun k hk => ?_) (by rw [h.wf.len j]; exact hs)
              have := h.there (j * 144 + k) (by rw [h.wf.len j] at hk; omega)
              simpa using this
            · simp only [if_neg e]
              refine World.rangeAt_setCells_apart (h.bytes j hj) _ _ _ (.inr ?_)
              rw [u8s_length, u8s_length, h.wf.len j]
              omega
          there := World.there_setCells h.there _ _ _
          pend := h.pend.of_block h3
          wf := ⟨fun j => by
                  show (if j = i then l ++ (d.S j).drop l.length else d.S j).length = 144
                  split
                  · rw [List.length_append, List.length_drop, h.wf.len j]; omega
                  · exact h.wf.len j, h.wf.pend, h.wf.lo, h.wf.hi⟩
          n512 := h.n512 }

/-! rows that are read -/
/-- the slice at a, of length n, reads as vs -/
def Row (w : World) (a : Option Addr) (n cap : Nat) (vs : List Value) : Prop :=
  vs.length = n ∧ n ≤ cap ∧ cap ≤ maxLen ∧ (vs = [] ∨ ∃ b off, a = some ⟨b, off, none⟩ ∧ b < w.heap.size ∧ ∀ i, i < n → w.cell? ⟨b, off + i, none⟩ = vs[i]?)

theorem row_nil (w : World) : Row w none 0 0 [] := ⟨rfl, Nat.le_refl _, by simp [maxLen], .inl rfl⟩
theorem row_but {w w' : World} {l : List Nat} {a : Option Addr} {n cap : Nat} {vs : List Value} (h : Row w a n cap vs) (hb : But l w w') (hn : vs = [] ∨ ∀ b off, a = some ⟨b, off, none⟩ → b ∉ l) : Row w' a n cap vs := by
  obtain ⟨h1, h2, h3, h4⟩ := h
  refine ⟨h1, h2, h3, ?_⟩
  rcases h4 with h4 | ⟨b, off, ha, hlt, hc⟩
  · exact .inl h4
  · rcases hn with hn | hn
    · exact .inl hn
    · exact .inr ⟨b, off, ha, Nat.lt_of_lt_of_le hlt hb.size, fun i hi => by rw [hb.cell hlt (hn b off ha)]; exact hc i hi⟩
/-- a row that was there lies below what came since -/
theorem row_old {w : World} {a : Option Addr} {n cap : Nat} {vs : List Value} (h : Row w a n cap vs) {l : List Nat} (hl : ∀ x ∈ l, w.heap.size ≤ x) : vs = [] ∨ ∀ b off, a = some ⟨b, off, none⟩ → b ∉ l := by
  obtain ⟨h1, h2, h3, h4⟩ := h
  rcases h4 with h4 | ⟨b, off, rfl, hlt, hc⟩
  · exact .inl h4
  · refine .inr fun b' off' e hm => ?_
    injection e with e
    injection e with e1 e2
    have := hl _ hm
    omega
theorem row_range {w : World} {b o : Nat} {vs : List Value} (h : w.rangeAt b o vs) (hb : b < w.heap.size) {cap : Nat} (h1 : vs.length ≤ cap) (h2 : cap ≤ maxLen) : Row w (some ⟨b, o, none⟩) vs.length cap vs :=
  ⟨rfl, h1, h2, .inr ⟨b, o, rfl, hb, fun i hi => by rw [h i vs[i] (List.getElem?_eq_getElem hi), List.getElem?_eq_getElem hi]⟩⟩
theorem row_take {w : World} {b o n cap k : Nat} {vs : List Value} (h : Row w (some ⟨b, o, none⟩) n cap vs) (hk : k ≤ n) : Row w (some ⟨b, o, none⟩) k cap (vs.take k) := by
  obtain ⟨h1, h2, h3, h4⟩ := h
  refine ⟨by rw [List.length_take]; omega, by omega, h3, ?_⟩
  by_cases h0 : k = 0
  · subst h0; exact .inl rfl
  · rcases h4 with h4 | ⟨b', off, ha, hlt, hc⟩
    · subst h4; simp at h1; omega
    · injection ha with ha
      injection ha with e1 e2 _
      subst e1; subst e2
      refine .inr ⟨b, o, rfl, hlt, fun i hi => ?_⟩
      rw [hc i (by omega), List.getElem?_take, if_pos hi]

/-! the operations on sectors, for the walk -/
section
variable {ops : Array Oper} {rest : List Oper} {o : Oper} {a : Act} {w : World} {Q : Exit → Act → World → Prop}

/-- a sector's variable is made -/
theorem wpList_alloc_sec (hg : o.guard = none) (ho : o.op = .alloc 95)
    (h : ∀ w', w' = w.alloc (.cells (u8s M.zero).toArray 95) → wpList Tryz.prog ops Q rest (a.put o.dst (.pointer (some ⟨w.heap.size, 0, none⟩))) w') : wpList Tryz.prog ops Q (o :: rest) a w := by
  refine wpList_plain hg fun K hK => ?_
  unfold Oper.wp
  have hv : (newVar 95 (.agg (u8s M.zero).toArray)).run Tryz.prog w = .ok ⟨w.heap.size, 0, none⟩ (w.alloc (.cells (u8s M.zero).toArray 95)) := by
    simp only [newVar, newRow, Value.cells, Sem.run_bind, run_newObj_alloc, Sem.run_pure, Result.andThen_ok]
  simp only [execOp, ho, Instr.alloc, Sem.run_bind, zero_run, Result.andThen_ok, hv, Sem.run_pure, Result.andThen]
  exact hK _ _ (h _ rfl)

/-- what a new sector's variable holds -/
theorem sec_new (w : World) {w' : World} (hw : w' = w.alloc (.cells (u8s M.zero).toArray 95)) : w'.rangeAt w.heap.size 0 (u8s M.zero) ∧ w'.there w.heap.size 0 144 ∧ w'.heap.size = w.heap.size + 1 ∧ ∀ l, But l w w' := by
  subst hw
  refine ⟨fun j v hv => ?_, fun j hj => ⟨?_, ?_⟩, by simp, fun l => (But.refl _ _).alloc _⟩
  · rw [World.cell?_alloc_mark]; simpa using hv
  · rw [World.cell?_alloc_mark]
    have : j < (u8s M.zero).length := by rw [u8s_length, M.zero_len]; exact hj
    simp [this]
  · exact World.frozen?_alloc_at _ _ _ _ rfl

/-- copy of a row of at most as many bytes -/
theorem wpList_copy_row (hg : o.guard = none) (x y : Operand) (ho : o.op = Op.call { callee := Callee.builtin Builtin.copy, args := #[x, y], argTypes := #[50, 50] })
    (b off n c : Nat) (hx : a.eval x = .slice (some ⟨b, off, none⟩) n c) (A : Option Addr) (m cc : Nat) (hy : a.eval y = .slice A m cc) (l : List UInt8) (hr : Row w A m cc (u8s l)) (hm : m ≤ n) (ht : w.there b off n)
    (h : wpList Tryz.prog ops Q rest (a.put o.dst (.int .i64 m)) (w.setCells b off (u8s l))) : wpList Tryz.prog ops Q (o :: rest) a w := by
  refine wpList_plain hg fun K hK => ?_
  obtain ⟨h1, h2, h3, h4⟩ := hr
  have hrun : ∀ ty, (Builtin.copy_ #[50, 50] ty #[.slice (some ⟨b, off, none⟩) n c, .slice A m cc]).run Tryz.prog w = .ok (.int .i64 m) (w.setCells b off (u8s l)) := by
    intro ty
    have hi : (Tryz.prog.info? 5).map (·.size) = some 1 := by kernel_rfl
    rcases h4 with h4 | ⟨b', off', rfl, hlt, hc⟩
    · have h0 : m = 0 := by rw [← h1, h4]; rfl
      subst h0
      rw [h4, run_copy_none (P := Tryz.prog) w 50 50 ty 5 _ _ _ _ _ _ Tryz.underlying50 hi (by simp)]
      simp [goInt, World.setCells]
    · rw [run_copy_cells (P := Tryz.prog) w 50 50 ty 5 b off n c ⟨b', off', none⟩ m cc (u8s l) Tryz.underlying50 hi (by rw [h1]; exact (Nat.min_eq_left hm).symm)
        (fun j v hv => by
          have hj : j < m := by have := (List.getElem?_eq_some_iff.1 hv).1; omega
          rw [Addr.add_mid, hc j hj, hv])
        (fun j hj => (ht j (by omega)).1) (fun j hj => (ht j (by omega)).2) (u8s_one l), h1]
      simp [goInt]
  unfold Oper.wp
  simp [execOp, ho, resolve, invoke, builtin, hx, hy, hrun, Result.andThen]
  exact hK _ _ h

/-- m[k] = v for a map of sectors -/
theorem wpList_update_sec (hg : o.guard = none) (m x v : Operand) (ho : o.op = Op.mapUpdate 60 m x v) (mB : Nat) (hm : a.eval m = .map (some mB)) (i : Int) (hx : a.eval x = .int .i64 i) (s : M.Sec) (hv : a.eval v = .agg (u8s s).toArray)
    {P : Int → Option M.Sec} (hP : MapIs w mB P) (n : Nat) (hPn : ∀ k s, P k = some s → 0 ≤ k ∧ k < (n : Int)) (hn : n ≤ 1000000) (h1 : -9223372036854775808 ≤ i) (h2 : i ≤ 9223372036854775807) (hs : s.length = 144)
    (h : ∀ w', MapIs w' mB (M.upd P i s) → But [mB] w w' → wpList Tryz.prog ops Q rest (a.put o.dst undef) w') : wpList Tryz.prog ops Q (o :: rest) a w := by
  refine wpList_plain hg fun K hK => ?_
  obtain ⟨w', hrun, hm', hb⟩ := mapis_store hP hPn hn h1 h2 hs
  unfold Oper.wp
  simp [execOp, ho, hm, hx, hv, hrun, Result.andThen]
  exact hK _ _ (h w' hm' hb)

/-- a sector is read, in a region that draws its order and only reads -/
theorem wpStill_load_sec {Q' : Act → Prop} (hg : o.guard = none) (x : Operand) (ho : o.op = .load 95 x) (b off : Nat) (hx : a.eval x = .pointer (some ⟨b, off, none⟩)) (s : M.Sec) (hs : s.length = 144) (hc : w.rangeAt b off (u8s s))
    (h : wpStill Tryz.prog ops w Q' rest (a.put o.dst (.agg (u8s s).toArray))) : wpStill Tryz.prog ops w Q' (o :: rest) a := by
  refine wpStill_step (fun K hK => ?_)
  simp only [Region.wanted, hg, if_true, Oper.still]
  have := run_loadAt_mid (P := Tryz.prog) w b off 95 (u8s s) _ hc Tryz.underlying95 rfl (by rw [sec_size, u8s_length, hs])
  simp only [execOp, ho, hx, Sem.run_bind, this, Result.andThen_ok, Sem.run_pure, Result.andThen, Oper.stillUpon_value]
  exact hK _ h

theorem wpList_load_sec (hg : o.guard = none) (x : Operand) (ho : o.op = .load 95 x) (b off : Nat) (hx : a.eval x = .pointer (some ⟨b, off, none⟩)) (s : M.Sec) (hs : s.length = 144) (hc : w.rangeAt b off (u8s s))
    (h : wpList Tryz.prog ops Q rest (a.put o.dst (.agg (u8s s).toArray)) w) : wpList Tryz.prog ops Q (o :: rest) a w :=
  wpList_load_mid hg 95 x ho b off hx (u8s s) _ hc Tryz.underlying95 rfl (by rw [sec_size, u8s_length, hs]) h

theorem wpList_store_sec (hg : o.guard = none) (x y : Operand) (ho : o.op = .store 95 x y) (b off : Nat) (hx : a.eval x = .pointer (some ⟨b, off, none⟩)) (s : M.Sec) (hy : a.eval y = .agg (u8s s).toArray) (hs : s.length = 144) (ht : w.there b off 144)
    (h : wpList Tryz.prog ops Q rest (a.put o.dst undef) (w.setCells b off (u8s s))) : wpList Tryz.prog ops Q (o :: rest) a w := by
  have h1 : (u8s s).toArray.size = 144 := by rw [List.size_toArray, u8s_length, hs]
  exact wpList_store_mid hg 95 x y ho b off _ hx hy (by rw [h1]; exact ht) (by rw [sec_size, h1]) (all_oneCell_toArray (u8s_one s)) (by simpa using h)
end
end Go.Proofs.YtpoolpckabpnfaaGreat
