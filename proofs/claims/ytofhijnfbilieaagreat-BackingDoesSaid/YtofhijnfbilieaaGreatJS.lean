/-
  Plain mathematics of a device: sectors' bytes, what is pending, dead or not, its fuse; what each act makes of it.
  What stays while some blocks are written; rows of bytes; a map of sectors that came or was made, as a function; a device in memory.
  DERIVED: THE SHELF's CONTRACTS AT THIS DUMP, IN PLAIN WORDS (tools/lay-plain.mjs out of 'YtofhijnfbilieaaGreatSShelf.lean', which tools/lay-shelf.mjs wrote): THE SAME DECLARATIONS UNDER THE SAME NAMES: 'import', 'namespace', 'open', 'def', 'theorem' AND NOTHING ELSE: no command of the shelf's: FOR A HAND-IN. Each laying: the table of numbers ('.._ren') and one theorem, a field a fact of the dump's own or the kernel's comparison; each contract: ONE APPLICATION.
  What Pending tells: the numbers of the sectors that have something pending, rising, in a slice of its own.
  What the device's smaller methods tell, and what becomes of the device in memory.
  A device that is made, and one that loses all.
  What Write, Read and Barrier tell, and what becomes of the device in memory.
  What Barrier tells, and what becomes of the device in memory.
  What Crash makes of the device in memory.
  Bytes as strings; a device that has no fuse and is not dead: what acts make of it.
-/
import Derived.Test.YtofhijnfbilieaaGreatProg
import Derived.WalkKit
import Derived.Lib.Hide
import Derived.Below
import Derived.Maps.AppendAt
import Derived.Maps.RangeWalk
import Derived.OwnWalk
import Derived.Deep.MidRow
import Derived.Lib.AppendStr
import Derived.Laws.BytesString
import Derived.Shelf.SlIterI.Nil
import Derived.Deep.QuietTactic
import Derived.BigQuiet
import Derived.StillTailTactics
import Derived.Shelf.SortM.Plain
import Derived.Shelf.SortM.SortNone
import Derived.Ground.GgzProg
import Derived.Ground.SlgmProg
import Derived.Laws.MakeOwn
import Derived.Deep.RegionHeldLaw
import Derived.Deep.RegionLaw
import Derived.Deep.DrawnRows
import Derived.Lib.SlBytesConst
set_option linter.unusedVariables false
namespace Go.Proofs.YtofhijnfbilieaaGreat
namespace M

abbrev Sec := List UInt8
def zero : Sec := List.replicate 144 0
def pad (b : List UInt8) : Sec := b ++ List.replicate (144 - b.length) 0

structure Dv where
  S : Nat → Sec
  P : Int → Option Sec
  dead : Bool
  fuse : Int

structure Wf (n : Nat) (d : Dv) : Prop where
  len : ∀ i, (d.S i).length = 144
  pend : ∀ k s, d.P k = some s → 0 ≤ k ∧ k < (n : Int) ∧ s.length = 144
  lo : -9223372036854775808 ≤ d.fuse
  hi : d.fuse ≤ 9223372036854775807

theorem zero_len : zero.length = 144 := List.length_replicate
theorem pad_len {b : List UInt8} (h : b.length ≤ 144) : (pad b).length = 144 := by
  unfold pad; rw [List.length_append, List.length_replicate]; omega

def fresh : Dv := ⟨fun _ => zero, fun _ => none, false, -1⟩
theorem fresh_wf (n : Nat) : Wf n fresh := ⟨fun _ => zero_len, fun _ _ h => by simp [fresh] at h, by simp [fresh], by simp [fresh]⟩

def reach (n : Nat) (d : Dv) (i : Int) : Int := if d.dead then 30 else if i < 0 ∨ (n : Int) ≤ i then 2 else 0

/-- an act: what it tells, what becomes of the device -/
def actE (d : Dv) : Int := if d.fuse = 0 then 30 else 0
def actD (d : Dv) : Dv := if d.fuse = 0 then { d with dead := true } else if 0 < d.fuse then { d with fuse := d.fuse - 1 } else d

def upd (P : Int → Option Sec) (i : Int) (s : Sec) : Int → Option Sec := fun k => if k = i then some s else P k

def writeE (n : Nat) (d : Dv) (i : Int) (b : List UInt8) : Int := if reach n d i = 0 then (if 144 < b.length then 3 else actE d) else reach n d i
def writeD (n : Nat) (d : Dv) (i : Int) (b : List UInt8) : Dv :=
  if reach n d i = 0 then (if 144 < b.length then d else if d.fuse = 0 then actD d else { actD d with P := upd d.P i (pad b) }) else d

def barrierE (d : Dv) : Int := if d.dead then 30 else actE d
def sure (d : Dv) : Nat → Sec := fun i => (d.P i).getD (d.S i)
def barrierD (d : Dv) : Dv := if d.dead then d else if d.fuse = 0 then actD d else { actD d with S := sure d, P := fun _ => none }

def keptN (how k : Int) : Nat := if how = 1 then 144 else if how = 2 then (min (max k 0) 144).toNat else 0
theorem keptN_le (how k : Int) : keptN how k ≤ 144 := by
  unfold keptN; repeat' split
  all_goals omega

def mix (s b : Sec) (k : Nat) : Sec := s.take k ++ b.drop k
theorem mix_len {s b : Sec} {k : Nat} (hs : s.length = 144) (hb : b.length = 144) (hk : k ≤ 144) : (mix s b k).length = 144 := by
  unfold mix; rw [List.length_append, List.length_take, List.length_drop]; omega
theorem mix_zero (s b : Sec) : mix s b 0 = b := by simp [mix]
theorem mix_get {s b : Sec} {k : Nat} (hs : s.length = 144) (hb : b.length = 144) (hk : k ≤ 144) (j : Nat) : (mix s b k)[j]? = if j < k then s[j]? else b[j]? := by
  unfold mix
  by_cases h : j < k
  · rw [if_pos h, List.getElem?_append_left (by rw [List.length_take]; omega), List.getElem?_take_of_lt h]
  · rw [if_neg h, List.getElem?_append_right (by rw [List.length_take]; omega), List.length_take, List.getElem?_drop, show k + (j - min k s.length) = j by omega]

/-- which sectors have something pending, rising -/
def pendL (n : Nat) (P : Int → Option Sec) : List Int := ((List.range n).map Int.ofNat).filter fun k => (P k).isSome

theorem mem_pendL {n : Nat} {P : Int → Option Sec} (h : ∀ k s, P k = some s → 0 ≤ k ∧ k < (n : Int)) (k : Int) : k ∈ pendL n P ↔ (P k).isSome = true := by
  unfold pendL
  rw [List.mem_filter, List.mem_map]
  constructor
  · exact fun h => h.2
  · intro hk
    refine ⟨?_, hk⟩
    obtain ⟨s, hs⟩ := Option.isSome_iff_exists.1 hk
    have := h k s hs
    exact ⟨k.toNat, List.mem_range.2 (by omega), by show ((k.toNat : Nat) : Int) = k; omega⟩

theorem range_rising : ∀ n : Nat, ((List.range n).map Int.ofNat).Pairwise (· < ·) := by
  intro n
  rw [List.pairwise_map]
  exact List.pairwise_lt_range.imp fun h => Int.ofNat_lt.2 h

theorem pendL_rising (n : Nat) (P : Int → Option Sec) : (pendL n P).Pairwise (· < ·) := (range_rising n).filter _

theorem pendL_len (n : Nat) (P : Int → Option Sec) : (pendL n P).length ≤ n := by
  unfold pendL
  refine Nat.le_trans (List.length_filter_le _ _) ?_
  simp

/-- two rising lists of the same members are one -/
theorem rising_eq : ∀ {l m : List Int}, l.Pairwise (· < ·) → m.Pairwise (· < ·) → (∀ x, x ∈ l ↔ x ∈ m) → l = m
  | [], [], _, _, _ => rfl
  | [], y :: m, _, _, h => by have := (h y).2 (by simp); simp at this
  | x :: l, [], _, _, h => by have := (h x).1 (by simp); simp at this
  | x :: l, y :: m, hl, hm, h => by
    obtain ⟨h1, h2⟩ := List.pairwise_cons.1 hl
    obtain ⟨h3, h4⟩ := List.pairwise_cons.1 hm
    have hx := (h x).1 (by simp)
    have hy := (h y).2 (by simp)
    have e : x = y := by
      rcases List.mem_cons.1 hx with e | hx
      · exact e
      · rcases List.mem_cons.1 hy with e | hy
        · exact e.symm
        · have := h3 x hx; have := h1 y hy; omega
    subst e
    rw [rising_eq h2 h4 fun z => ?_]
    constructor
    · intro hz
      rcases List.mem_cons.1 ((h z).1 (List.mem_cons_of_mem _ hz)) with e | hz'
      · have := h1 z hz; omega
      · exact hz'
    · intro hz
      rcases List.mem_cons.1 ((h z).2 (List.mem_cons_of_mem _ hz)) with e | hz'
      · have := h3 z hz; omega
      · exact hz'

/-- what a crash leaves in the sectors: l's first says it of the first pending one, and so on -/
def crashS (P : Int → Option Sec) : (Nat → Sec) → List Int → List (Int × Int) → Nat → Sec
  | S, i :: r, k :: l => crashS P (fun j => if (j : Int) = i then mix ((P i).getD (S j)) (S j) (keptN k.1 k.2) else S j) r l
  | S, _, _ => S

def crashD (n : Nat) (d : Dv) (l : List (Int × Int)) : Dv := ⟨crashS d.P d.S (pendL n d.P) l, fun _ => none, false, -1⟩
def loseD : Dv := fresh
def fuseD (d : Dv) (k : Int) : Dv := { d with fuse := k }

theorem crashS_out (P : Int → Option Sec) : ∀ (r : List Int) (l : List (Int × Int)) (S : Nat → Sec) (j : Nat), (j : Int) ∉ r → crashS P S r l j = S j
  | [], _, _, _, _ => by simp [crashS]
  | i :: r, [], _, _, _ => by simp [crashS]
  | i :: r, k :: l, S, j, h => by
    simp only [crashS]
    rw [crashS_out P r l _ j fun h' => h (List.mem_cons_of_mem _ h'), if_neg (fun e => h (by rw [e]; exact List.mem_cons_self))]

theorem crashS_in (P : Int → Option Sec) : ∀ (r : List Int) (l : List (Int × Int)) (S : Nat → Sec) (j : Nat), r.Pairwise (· < ·) → ∃ k, k ≤ 144 ∧ crashS P S r l j = mix ((P j).getD (S j)) (S j) k
  | [], _, S, _, _ => ⟨0, by omega, by simp [crashS, mix_zero]⟩
  | i :: r, [], S, _, _ => ⟨0, by omega, by simp [crashS, mix_zero]⟩
  | i :: r, k :: l, S, j, h => by
    obtain ⟨h1, h2⟩ := List.pairwise_cons.1 h
    simp only [crashS]
    by_cases e : (j : Int) = i
    · rw [crashS_out P r l _ j fun h' => by have := h1 _ h'; omega, if_pos e]
      exact ⟨keptN k.1 k.2, keptN_le _ _, by rw [e]⟩
    · obtain ⟨m, hm, hq⟩ := crashS_in P r l (fun j => if (j : Int) = i then mix ((P i).getD (S j)) (S j) (keptN k.1 k.2) else S j) j h2
      exact ⟨m, hm, by rw [hq, if_neg e]⟩

theorem act_wf {n : Nat} {d : Dv} (h : Wf n d) : Wf n (actD d) := by
  obtain ⟨h1, h2, h3, h4⟩ := h
  unfold actD
  split
  · exact ⟨h1, h2, h3, h4⟩
  · split
    · exact ⟨h1, h2, by show -9223372036854775808 ≤ d.fuse - 1; omega, by show d.fuse - 1 ≤ 9223372036854775807; omega⟩
    · exact ⟨h1, h2, h3, h4⟩

theorem act_S (d : Dv) : (actD d).S = d.S := by
  unfold actD; repeat' split
  all_goals rfl
theorem act_P (d : Dv) : (actD d).P = d.P := by
  unfold actD; repeat' split
  all_goals rfl

theorem write_wf {n : Nat} {d : Dv} (h : Wf n d) (i : Int) (b : List UInt8) : Wf n (writeD n d i b) := by
  unfold writeD
  split
  · rename_i hr
    split
    · exact h
    · split
      · exact act_wf h
      · obtain ⟨h1, h2, h3, h4⟩ := act_wf h
        refine ⟨h1, fun k s hk => ?_, h3, h4⟩
        simp only [upd] at hk
        split at hk
        · rename_i e
          subst e
          injection hk with hk
          subst hk
          unfold reach at hr
          split at hr
          · omega
          · split at hr
            · omega
            · exact ⟨by omega, by omega, pad_len (by omega)⟩
        · exact h.pend k s hk
  · exact h

theorem sure_len {n : Nat} {d : Dv} (h : Wf n d) (i : Nat) : (sure d i).length = 144 := by
  unfold sure
  cases hp : d.P i with
  | none => exact h.len i
  | some s => exact (h.pend _ _ hp).2.2

theorem barrier_wf {n : Nat} {d : Dv} (h : Wf n d) : Wf n (barrierD d) := by
  unfold barrierD
  split
  · exact h
  · split
    · exact act_wf h
    · obtain ⟨h1, h2, h3, h4⟩ := act_wf h
      exact ⟨fun i => sure_len h i, fun k s hk => by simp at hk, h3, h4⟩

theorem crash_len {n : Nat} {d : Dv} (h : Wf n d) (l : List (Int × Int)) (i : Nat) : (crashS d.P d.S (pendL n d.P) l i).length = 144 := by
  obtain ⟨k, hk, hq⟩ := crashS_in d.P (pendL n d.P) l d.S i (pendL_rising n d.P)
  rw [hq]
  exact mix_len (sure_len h i) (h.len i) hk

theorem crash_wf {n : Nat} {d : Dv} (h : Wf n d) (l : List (Int × Int)) : Wf n (crashD n d l) :=
  ⟨fun i => crash_len h l i, fun k s hk => by simp [crashD] at hk, by simp [crashD], by simp [crashD]⟩

theorem fuse_wf {n : Nat} {d : Dv} (h : Wf n d) {k : Int} (h1 : -9223372036854775808 ≤ k) (h2 : k ≤ 9223372036854775807) : Wf n (fuseD d k) := ⟨h.len, h.pend, h1, h2⟩

end M
end Go.Proofs.YtofhijnfbilieaaGreat
namespace Go.Proofs.YtofhijnfbilieaaGreat
open Go.RowKit Go.Maps
set_option linter.unusedVariables false
set_option linter.unusedSimpArgs false
set_option maxRecDepth 20000

def u8 (c : UInt8) : Value := .int .u8 (c.toNat : Int)
def u8s (l : List UInt8) : List Value := l.map u8
theorem u8s_length (l : List UInt8) : (u8s l).length = l.length := List.length_map _
theorem u8s_append (l m : List UInt8) : u8s (l ++ m) = u8s l ++ u8s m := List.map_append
theorem u8s_one (l : List UInt8) : ∀ u ∈ u8s l, u.oneCell' = true := by
  intro u hu
  obtain ⟨_, _, rfl⟩ := List.mem_map.1 hu
  rfl
theorem u8_inj {a b : UInt8} (h : u8 a = u8 b) : a = b := by
  unfold u8 at h
  injection h with _ h
  exact UInt8.toNat_inj.1 (by omega)
theorem u8s_inj {l m : List UInt8} (h : u8s l = u8s m) : l = m := by
  induction l generalizing m with
  | nil => cases m with
    | nil => rfl
    | cons a m => simp [u8s] at h
  | cons a l ih => cases m with
    | nil => simp [u8s] at h
    | cons b m =>
      simp only [u8s, List.map_cons, List.cons.injEq] at h
      rw [u8_inj h.1, ih h.2]

/-! what stays: all blocks but those of l -/
structure But (l : List Nat) (w w' : World) : Prop where
  os : w'.os = w.os
  tape : w'.tape = w.tape
  output : w'.output = w.output
  size : w.heap.size ≤ w'.heap.size
  block : ∀ k, k < w.heap.size → k ∉ l → w'.heap[k]? = w.heap[k]?

theorem But.refl (l : List Nat) (w : World) : But l w w := ⟨rfl, rfl, rfl, Nat.le_refl _, fun _ _ _ => rfl⟩
theorem But.trans {l : List Nat} {a b c : World} (h : But l a b) (k : But l b c) : But l a c :=
  ⟨k.os.trans h.os, k.tape.trans h.tape, k.output.trans h.output, Nat.le_trans h.size k.size, fun i hi hn => (k.block i (Nat.lt_of_lt_of_le hi h.size) hn).trans (h.block i hi hn)⟩
theorem But.mono {l m : List Nat} {a b : World} (h : But l a b) (hs : ∀ x, x ∈ l → x ∈ m) : But m a b := ⟨h.os, h.tape, h.output, h.size, fun i hi hn => h.block i hi fun hl => hn (hs i hl)⟩
theorem But.alloc {l : List Nat} {a w : World} (h : But l a w) (o : Obj) : But l a (w.alloc o) :=
  h.trans ⟨rfl, rfl, rfl, by simp, fun k hk _ => Below.heap_alloc _ _ _ hk⟩
theorem But.set {l : List Nat} {a w : World} (h : But l a w) {p : Addr} (v : Value) (hp : p.block ∈ l ∨ a.heap.size ≤ p.block) : But l a (w.setCell p v) := by
  refine ⟨h.os, h.tape, h.output, by simpa [World.setCell] using h.size, fun k hk hn => ?_⟩
  have hne : k ≠ p.block := by
    rintro rfl
    rcases hp with hp | hp
    · exact hn hp
    · omega
  exact (Below.heap_setCell w p v k hne).trans (h.block k hk hn)
theorem heap_setCells (b : Nat) : ∀ (vs : List Value) (o : Nat) (w : World) (k : Nat), k ≠ b → (w.setCells b o vs).heap[k]? = w.heap[k]?
  | [], _, _, _, _ => rfl
  | v :: r, o, w, k, hk => by rw [World.setCells, heap_setCells b r _ _ k hk, Below.heap_setCell _ _ _ _ hk]
theorem size_setCells (b : Nat) : ∀ (vs : List Value) (o : Nat) (w : World), (w.setCells b o vs).heap.size = w.heap.size
  | [], _, _ => rfl
  | v :: r, o, w => by rw [World.setCells, size_setCells b r]; simp [World.setCell]
theorem os_setCells (b : Nat) : ∀ (vs : List Value) (o : Nat) (w : World), (w.setCells b o vs).os = w.os ∧ (w.setCells b o vs).tape = w.tape ∧ (w.setCells b o vs).output = w.output
  | [], _, _ => ⟨rfl, rfl, rfl⟩
  | v :: r, o, w => by rw [World.setCells]; exact os_setCells b r _ _
theorem But.sets {l : List Nat} {a w : World} (h : But l a w) (b o : Nat) (vs : List Value) (hp : b ∈ l ∨ a.heap.size ≤ b) : But l a (w.setCells b o vs) := by
  obtain ⟨h1, h2, h3⟩ := os_setCells b vs o w
  refine ⟨h1.trans h.os, h2.trans h.tape, h3.trans h.output, by rw [size_setCells]; exact h.size, fun k hk hn => ?_⟩
  have hne : k ≠ b := by
    rintro rfl
    rcases hp with hp | hp
    · exact hn hp
    · omega
  rw [heap_setCells b vs o w k hne]
  exact h.block k hk hn
theorem But.drew {l : List Nat} {a w : World} (h : But l a w) : But l a w.drew := ⟨h.os, h.tape, h.output, h.size, h.block⟩
theorem But.drewN {l : List Nat} {a w : World} (h : But l a w) (n : Nat) : But l a (w.drewN n) := ⟨h.os, h.tape, h.output, h.size, h.block⟩
theorem But.grown {l : List Nat} {a w w' : World} {row : Option Nat} (h : But l a w) (hg : w.grownBy w' row) (hr : ∀ k, row = some k → k ∈ l ∨ a.heap.size ≤ k) : But l a w' := by
  refine ⟨hg.os.trans h.os, hg.tape.trans h.tape, hg.output.trans h.output, Nat.le_trans h.size hg.size, fun k hk hn => ?_⟩
  have hne : some k ≠ row := by
    intro e
    rcases hr k e.symm with h1 | h1
    · exact hn h1
    · omega
  exact (hg.block k (Nat.lt_of_lt_of_le hk h.size) hne).trans (h.block k hk hn)
theorem But.below {l : List Nat} {a w w' : World} {B : Nat} (h : But l a w) (hb : Below B w w') (hB : a.heap.size ≤ B) : But l a w' :=
  ⟨hb.os.trans h.os, hb.tape.trans h.tape, hb.output.trans h.output, Nat.le_trans h.size hb.size, fun k hk hn => (hb.block k (by omega)).trans (h.block k hk hn)⟩
/-- all that may have changed lies from B on -/
theorem But.to_below {l : List Nat} {a w : World} {B : Nat} (h : But l a w) (hl : ∀ x ∈ l, B ≤ x) (hB : B ≤ a.heap.size) : Below B a w :=
  ⟨h.os, h.tape, h.output, h.size, fun k hk => h.block k (by omega) fun hm => by have := hl k hm; omega⟩
theorem But.of_below {a w : World} (h : Below a.heap.size a w) : But [] a w := (But.refl _ _).below h (Nat.le_refl _)
theorem But.cell {l : List Nat} {a w : World} (h : But l a w) {b o : Nat} (hb : b < a.heap.size) (hn : b ∉ l) : w.cell? ⟨b, o, none⟩ = a.cell? ⟨b, o, none⟩ := World.cell?_of_block (w := a) (h.block b hb hn)
theorem But.frozen {l : List Nat} {a w : World} (h : But l a w) {b o : Nat} (hb : b < a.heap.size) (hn : b ∉ l) : w.frozen? ⟨b, o, none⟩ = a.frozen? ⟨b, o, none⟩ := World.frozen?_of_block (w := a) (h.block b hb hn)

/-! sectors as values -/
theorem u8_info : (Tryz.prog.info? 5).map (fun i => (i.zero, i.size, i.bytes)) = some (some (.int .u8 0), 1, 1) := by kernel_rfl
theorem sec_size : (Tryz.prog.info? 104).map (·.size) = some 144 := by kernel_rfl
theorem zero_is : (u8s M.zero).toArray = Array.replicate 144 (.int .u8 0) := by kernel_rfl
theorem sec_info : (Tryz.prog.info? 104).map (·.zero) = some (some (.agg (u8s M.zero).toArray)) := by kernel_rfl
theorem zero_run (w : World) : (zeroValue 104).run Tryz.prog w = .ok (.agg (u8s M.zero).toArray) w := by
  have h := sec_info
  cases hi : Tryz.prog.info? 104 with
  | none => simp [hi] at h
  | some i =>
    simp only [hi, Option.map_some, Option.some.injEq] at h
    simp [zeroValue, typeInfo, hi, h]

open Classical in
noncomputable def secR (v : Value) : Option (DataW Unit × List MemPlace) :=
  if h : ∃ s : List UInt8, s.length = 144 ∧ v = .agg (u8s s).toArray then some (.lit (.string h.choose), []) else none
theorem secR_mk {s : List UInt8} (h : s.length = 144) : secR (.agg (u8s s).toArray) = some (.lit (.string s), []) := by
  have hx : ∃ s' : List UInt8, s'.length = 144 ∧ Value.agg (u8s s).toArray = .agg (u8s s').toArray := ⟨s, h, rfl⟩
  unfold secR
  rw [dif_pos hx]
  have this : (u8s s).toArray = (u8s hx.choose).toArray := Value.agg.inj hx.choose_spec.2
  have e : s = hx.choose := u8s_inj (List.toArray_inj this)
  exact congrArg (fun x => some ((DataW.lit (Lit.string x) : DataW Unit), ([] : List MemPlace))) e.symm
theorem secR_inv {v : Value} {y : DataW Unit × List MemPlace} (h : secR v = some y) : ∃ s : List UInt8, s.length = 144 ∧ v = .agg (u8s s).toArray ∧ y = (.lit (.string s), []) := by
  unfold secR at h
  split at h
  · rename_i hx
    injection h with h
    exact ⟨hx.choose, hx.choose_spec.1, hx.choose_spec.2, h.symm⟩
  · cases h

/-! a map of sectors as a function of the number -/
def Reads (D : DataW Unit) (P : Int → Option M.Sec) : Prop := IsMap D ∧ (∀ k, has D (.int .i64 k) = (P k).isSome) ∧ ∀ k s, P k = some s → ∀ z, D.atKey (.int .i64 k) z = .lit (.string s)

def MapIs (w : World) (mb : Nat) (P : Int → Option M.Sec) : Prop := ∃ N D, w.ownsMap (H := Unit) Tryz.prog 3 secR mb N D ∧ Reads D P

theorem int_wf {k : Int} (h1 : -9223372036854775808 ≤ k) (h2 : k ≤ 9223372036854775807) : (Lit.int .i64 k).wf = true := by
  simp [Lit.wf, IntKind.min, IntKind.max, IntKind.signed, IntKind.bits]
  omega
theorem wf_int {k : Int} (h : (Lit.int .i64 k).wf = true) : -9223372036854775808 ≤ k ∧ k ≤ 9223372036854775807 := by
  simp [Lit.wf, IntKind.min, IntKind.max, IntKind.signed, IntKind.bits] at h
  omega
theorem key_ok {k : Int} (h1 : -9223372036854775808 ≤ k) (h2 : k ≤ 9223372036854775807) : keyOf Tryz.prog 3 (.int .i64 k) = some (.int .i64 k) := keyOf_int_mk Tryz.underlying3 (int_wf h1 h2)
theorem is_key {k : Int} (h1 : -9223372036854775808 ≤ k) (h2 : k ≤ 9223372036854775807) : WideAt.IsKeyLit (.int .i64 k) := (int_keyed Tryz.underlying3).key (key_ok h1 h2)

theorem reads_none : Reads (.map []) fun _ => none := ⟨isMap_empty, fun k => rfl, fun k s h => by cases h⟩
theorem reads_put {D : DataW Unit} {P : Int → Option M.Sec} (h : Reads D P) {i : Int} (h1 : -9223372036854775808 ≤ i) (h2 : i ≤ 9223372036854775807) (s : M.Sec) : Reads (D.put (.int .i64 i) (.lit (.string s))) (M.upd P i s) := by
  obtain ⟨ha, hb, hc⟩ := h
  refine ⟨ha.put _ _, fun k => ?_, fun k t hk z => ?_⟩
  · by_cases e : k = i
    · subst e; simp [M.upd, has_put_same ha (is_key h1 h2)]
    · rw [has_put_other (fun e' => e (by injection e')), hb k]; simp [M.upd, e]
  · by_cases e : k = i
    · subst e
      simp only [M.upd, if_true, Option.some.injEq] at hk
      subst hk
      exact atKey_put_same ha (is_key h1 h2) _ _
    · rw [atKey_put_other (fun e' => e (by injection e'))]
      simp only [M.upd, if_neg e] at hk
      exact hc k t hk z

theorem mapis_made (w : World) : MapIs (w.alloc (.map #[] 0)) w.heap.size fun _ => none := ⟨0, _, World.ownsMap_made w _ _ _, reads_none⟩
theorem MapIs.lt {w : World} {mb : Nat} {P : Int → Option M.Sec} (h : MapIs w mb P) : mb < w.heap.size := by
  obtain ⟨N, D, h, _⟩ := h
  exact h.lt
theorem MapIs.of_block {w w' : World} {mb : Nat} {P : Int → Option M.Sec} (h : MapIs w mb P) (hb : w'.heap[mb]? = w.heap[mb]?) : MapIs w' mb P := by
  obtain ⟨N, D, ⟨es, clock, h1, h2⟩, h3⟩ := h
  exact ⟨N, D, ⟨es, clock, hb.trans h1, h2⟩, h3⟩

/-- the keys, sorted, are those that have something, rising -/
theorem keys_sorted {w : World} {mb N n : Nat} {D : DataW Unit} {P : Int → Option M.Sec} (hown : w.ownsMap (H := Unit) Tryz.prog 3 secR mb N D) (hr : Reads D P) (hP : ∀ k s, P k = some s → 0 ≤ k ∧ k < (n : Int)) :
    (intKeys D).mergeSort (fun x y => decide (x ≤ y)) = M.pendL n P := by
  obtain ⟨es, rfl, hp, hk⟩ := hown.entries (int_keyed Tryz.underlying3)
  obtain ⟨es', e, hk'⟩ := hown.keysOf
  injection e with e
  subst e
  have hk2 : ∀ p ∈ es, ∃ x, p.1 = .int .i64 x := fun p hp' => by
    obtain ⟨v, hv⟩ := hk' p hp'
    obtain ⟨x, _, hx, _⟩ := Maps.keyOf_i64 Tryz.underlying3 hv
    exact ⟨x, hx⟩
  have hperm : (M.pendL n P).Perm (intKeys (.map es)) := by
    refine perm_intKeys hp hk2 ?_ fun x => ?_
    · exact (M.pendL_rising n P).imp fun h => by omega
    · rw [M.mem_pendL hP, hr.2.1]
  rw [← mergeSort_of_perm_i hperm]
  refine List.mergeSort_of_pairwise ?_
  exact (M.pendL_rising n P).imp fun h => by simp; omega

theorem keys_count {w : World} {mb N n : Nat} {D : DataW Unit} {P : Int → Option M.Sec} (hown : w.ownsMap (H := Unit) Tryz.prog 3 secR mb N D) (hr : Reads D P) (hP : ∀ k s, P k = some s → 0 ≤ k ∧ k < (n : Int)) : Maps.size D ≤ n := by
  have h := congrArg List.length (keys_sorted hown hr hP)
  rw [List.length_mergeSort] at h
  have h2 := M.pendL_len n P
  obtain ⟨es, rfl, _, _⟩ := hown.entries (int_keyed Tryz.underlying3)
  have h3 : (intKeys (.map es : DataW Unit)).length = es.length := by simp [intKeys]
  rw [size_eq]
  omega

theorem own_bound {w : World} {mb N n : Nat} {D : DataW Unit} (hown : w.ownsMap (H := Unit) Tryz.prog 3 secR mb N D) (hn : Maps.size D ≤ n) : w.ownsMap (H := Unit) Tryz.prog 3 secR mb n D := by
  obtain ⟨es, clock, hb, F, _, rfl⟩ := hown
  refine ⟨es, clock, hb, F, ?_, rfl⟩
  simpa [Maps.size, length_sorted] using hn

theorem mapis_look {w : World} {mb : Nat} {P : Int → Option M.Sec} (h : MapIs w mb P) {i : Int} (h1 : -9223372036854775808 ≤ i) (h2 : i ≤ 9223372036854775807) :
    (Instr.lookup 65 (.map (some mb)) (.int .i64 i) true).run Tryz.prog w = .ok (.tuple #[.agg (u8s ((P i).getD M.zero)).toArray, .bool (P i).isSome]) w ∧
    (Instr.lookup 65 (.map (some mb)) (.int .i64 i) false).run Tryz.prog w = .ok (.agg (u8s ((P i).getD M.zero)).toArray) w := by
  obtain ⟨N, D, hown, hr⟩ := h
  have key : ∀ {v : Value} {ps : List MemPlace}, secR v = some (D.atKey (.int .i64 i) (.lit (.string M.zero)), ps) → v = .agg (u8s ((P i).getD M.zero)).toArray := by
    intro v ps hv
    obtain ⟨s, hs, rfl, e⟩ := secR_inv hv
    simp only [Prod.mk.injEq] at e
    cases hp : P i with
    | none =>
      have : has D (.int .i64 i) = false := by rw [hr.2.1, hp]; rfl
      rw [atKey_of_not_has this] at e
      simp only [DataW.lit.injEq, Lit.string.injEq] at e
      rw [← e.1]; rfl
    | some t =>
      rw [hr.2.2 i t hp] at e
      simp only [DataW.lit.injEq, Lit.string.injEq] at e
      rw [← e.1]; rfl
  obtain ⟨v, ps, hrun, hv⟩ := hown.look_ok (int_keyed Tryz.underlying3) Tryz.underlying65 (zero_run w) (secR_mk M.zero_len) (key_ok h1 h2)
  obtain ⟨v', ps', hrun', hv'⟩ := hown.lookup (int_keyed Tryz.underlying3) Tryz.underlying65 (zero_run w) (secR_mk M.zero_len) (key_ok h1 h2)
  rw [key hv, hr.2.1] at hrun
  rw [key hv'] at hrun'
  exact ⟨hrun, hrun'⟩

theorem mapis_store {w : World} {mb n : Nat} {P : Int → Option M.Sec} (h : MapIs w mb P) (hP : ∀ k s, P k = some s → 0 ≤ k ∧ k < (n : Int)) (hn : n ≤ 1000000) {i : Int} (h1 : -9223372036854775808 ≤ i) (h2 : i ≤ 9223372036854775807) {s : M.Sec} (hs : s.length = 144) :
    ∃ w', (Instr.mapUpdate 65 (.map (some mb)) (.int .i64 i) (.agg (u8s s).toArray)).run Tryz.prog w = .ok () w' ∧ MapIs w' mb (M.upd P i s) ∧ But [mb] w w' := by
  obtain ⟨N, D, hown, hr⟩ := h
  obtain ⟨w', r1, r2, r3⟩ := (own_bound hown (keys_count hown hr hP)).update (int_keyed Tryz.underlying3) Tryz.underlying65 (by simp only [maxLen]; omega) (key_ok h1 h2) (secR_mk hs)
  exact ⟨w', r1, ⟨_, _, r2, reads_put hr h1 h2 s⟩, (But.refl _ _).grown r3 fun k hk => by injection hk with hk; subst hk; exact .inl (by simp)⟩

theorem mapis_clear {w : World} {mb : Nat} {P : Int → Option M.Sec} (h : MapIs w mb P) (ty : TypeId) :
    ∃ w', (Builtin.clear_ #[65] ty #[.map (some mb)]).run Tryz.prog w = .ok (.tuple #[]) w' ∧ MapIs w' mb (fun _ => none) ∧ But [mb] w w' := by
  obtain ⟨N, D, ⟨es, clock, hb, F, hs, rfl⟩, hr⟩ := h
  refine ⟨ChangeMaps.setBlock w mb (.map #[] clock), ?_, ⟨0, _, ⟨#[], clock, ChangeMaps.heap_setBlock_same hb _, ⟨by simp, ?_, by simp⟩, Nat.le_refl _, rfl⟩, reads_none⟩, ⟨rfl, rfl, rfl, by simp [ChangeMaps.setBlock], fun k hk hn => ChangeMaps.heap_setBlock_other hb _ (by simpa using hn)⟩⟩
  · simp [Builtin.clear_, run_underlying Tryz.underlying65, MapKept.run_getObj_map hb, MapKept.run_setObj_map _ hb, Result.andThen, ChangeMaps.setBlock]
  · exact MapKept.stamped_empty clock

/-! a device in memory: its own block, its sectors', its map's -/
structure DevAt (w : World) (dB sB mB n : Nat) (d : M.Dv) : Prop where
  sec : w.cell? ⟨dB, 0, none⟩ = some (.slice (some ⟨sB, 0, none⟩) n n)
  map : w.cell? ⟨dB, 1, none⟩ = some (.map (some mB))
  dead : w.cell? ⟨dB, 2, none⟩ = some (.bool d.dead)
  fuse : w.cell? ⟨dB, 3, none⟩ = some (.int .i64 d.fuse)
  fz : ∀ o, w.frozen? ⟨dB, o, none⟩ = false
  ds : dB ≠ sB
  dm : dB ≠ mB
  sm : sB ≠ mB
  lt : sB < w.heap.size
  bytes : ∀ i, i < n → w.rangeAt sB (i * 144) (u8s (d.S i))
  there : w.there sB 0 (n * 144)
  pend : MapIs w mB d.P
  wf : M.Wf n d
  n512 : n ≤ 512

theorem DevAt.ltD {w : World} {dB sB mB n : Nat} {d : M.Dv} (h : DevAt w dB sB mB n d) : dB < w.heap.size := World.block_lt_of_cell? w _ h.sec

theorem rangeAt_block {w w' : World} {b o : Nat} {cs : List Value} (h : w.rangeAt b o cs) (hb : w'.heap[b]? = w.heap[b]?) : w'.rangeAt b o cs := fun j v hv => by
  rw [World.cell?_of_block (w := w) (a := ⟨b, o + j, none⟩) hb]; exact h j v hv
theorem there_block {w w' : World} {b o n : Nat} (h : w.there b o n) (hb : w'.heap[b]? = w.heap[b]?) : w'.there b o n := fun j hj => by
  rw [World.cell?_of_block (w := w) (a := ⟨b, o + j, none⟩) hb, World.frozen?_of_block (w := w) (a := ⟨b, o + j, none⟩) hb]; exact h j hj

theorem DevAt.of_blocks {w w' : World} {dB sB mB n : Nat} {d : M.Dv} (h : DevAt w dB sB mB n d) (h1 : w'.heap[dB]? = w.heap[dB]?) (h2 : w'.heap[sB]? = w.heap[sB]?) (h3 : w'.heap[mB]? = w.heap[mB]?) (hs : w.heap.size ≤ w'.heap.size) : DevAt w' dB sB mB n d where
  sec := by rw [World.cell?_of_block (w := w) (a := ⟨dB, 0, none⟩) h1]; exact h.sec
  map := by rw [World.cell?_of_block (w := w) (a := ⟨dB, 1, none⟩) h1]; exact h.map
  dead := by rw [World.cell?_of_block (w := w) (a := ⟨dB, 2, none⟩) h1]; exact h.dead
  fuse := by rw [World.cell?_of_block (w := w) (a := ⟨dB, 3, none⟩) h1]; exact h.fuse
  fz := fun o => by rw [World.frozen?_of_block (w := w) (a := ⟨dB, o, none⟩) h1]; exact h.fz o
  ds := h.ds
  dm := h.dm
  sm := h.sm
  lt := Nat.lt_of_lt_of_le h.lt hs
  bytes := fun i hi => rangeAt_block (h.bytes i hi) h2
  there := there_block h.there h2
  pend := h.pend.of_block h3
  wf := h.wf
  n512 := h.n512

theorem DevAt.but {w w' : World} {dB sB mB n : Nat} {d : M.Dv} (h : DevAt w dB sB mB n d) {l : List Nat} (hb : But l w w') (h1 : dB ∉ l) (h2 : sB ∉ l) (h3 : mB ∉ l) : DevAt w' dB sB mB n d :=
  h.of_blocks (hb.block _ h.ltD h1) (hb.block _ h.lt h2) (hb.block _ h.pend.lt h3) hb.size
theorem DevAt.alloc {w : World} {dB sB mB n : Nat} {d : M.Dv} (h : DevAt w dB sB mB n d) (o : Obj) : DevAt (w.alloc o) dB sB mB n d := h.but ((But.refl [] w).alloc o) (by simp) (by simp) (by simp)
theorem DevAt.drewN {w : World} {dB sB mB n : Nat} {d : M.Dv} (h : DevAt w dB sB mB n d) (k : Nat) : DevAt (w.drewN k) dB sB mB n d := h.of_blocks rfl rfl rfl (Nat.le_refl _)
theorem DevAt.drew {w : World} {dB sB mB n : Nat} {d : M.Dv} (h : DevAt w dB sB mB n d) : DevAt w.drew dB sB mB n d := h.of_blocks rfl rfl rfl (Nat.le_refl _)

/-- a store to the device's own block -/
theorem DevAt.setDead {w : World} {dB sB mB n : Nat} {d : M.Dv} (h : DevAt w dB sB mB n d) (b : Bool) : DevAt (w.setCell ⟨dB, 2, none⟩ (.bool b)) dB sB mB n { d with dead := b } where
  sec := by rw [World.cell?_setCell_other _ _ _ _ (by simp)]; exact h.sec
  map := by rw [World.cell?_setCell_other _ _ _ _ (by simp)]; exact h.map
  dead := World.cell?_setCell_same _ _ _ h.dead
  fuse := by rw [World.cell?_setCell_other _ _ _ _ (by simp)]; exact h.fuse
  fz := fun o => by rw [World.frozen?_setCell]; exact h.fz o
  ds := h.ds
  dm := h.dm
  sm := h.sm
  lt := by simpa [World.setCell] using h.lt
  bytes := fun i hi => rangeAt_block (h.bytes i hi) (Below.heap_setCell _ _ _ _ (Ne.symm h.ds))
  there := there_block h.there (Below.heap_setCell _ _ _ _ (Ne.symm h.ds))
  pend := h.pend.of_block (Below.heap_setCell _ _ _ _ (Ne.symm h.dm))
  wf := ⟨h.wf.len, h.wf.pend, h.wf.lo, h.wf.hi⟩
  n512 := h.n512

theorem DevAt.setFuse {w : World} {dB sB mB n : Nat} {d : M.Dv} (h : DevAt w dB sB mB n d) {k : Int} (h1 : -9223372036854775808 ≤ k) (h2 : k ≤ 9223372036854775807) : DevAt (w.setCell ⟨dB, 3, none⟩ (.int .i64 k)) dB sB mB n { d with fuse := k } where
  sec := by rw [World.cell?_setCell_other _ _ _ _ (by simp)]; exact h.sec
  map := by rw [World.cell?_setCell_other _ _ _ _ (by simp)]; exact h.map
  dead := by rw [World.cell?_setCell_other _ _ _ _ (by simp)]; exact h.dead
  fuse := World.cell?_setCell_same _ _ _ h.fuse
  fz := fun o => by rw [World.frozen?_setCell]; exact h.fz o
  ds := h.ds
  dm := h.dm
  sm := h.sm
  lt := by simpa [World.setCell] using h.lt
  bytes := fun i hi => rangeAt_block (h.bytes i hi) (Below.heap_setCell _ _ _ _ (Ne.symm h.ds))
  there := there_block h.there (Below.heap_setCell _ _ _ _ (Ne.symm h.ds))
  pend := h.pend.of_block (Below.heap_setCell _ _ _ _ (Ne.symm h.dm))
  wf := ⟨h.wf.len, h.wf.pend, h1, h2⟩
  n512 := h.n512

/-- the map turned -/
theorem DevAt.setMap {w w' : World} {dB sB mB n : Nat} {d : M.Dv} (h : DevAt w dB sB mB n d) (hb : But [mB] w w') {P : Int → Option M.Sec} (hm : MapIs w' mB P) (hw : ∀ k s, P k = some s → 0 ≤ k ∧ k < (n : Int) ∧ s.length = 144) : DevAt w' dB sB mB n { d with P := P } := by
  have h1 := hb.block _ h.ltD (by simpa using h.dm)
  have h2 := hb.block _ h.lt (by simpa using h.sm)
  exact { sec := by rw [World.cell?_of_block (w := w) (a := ⟨dB, 0, none⟩) h1]; exact h.sec
          map := by rw [World.cell?_of_block (w := w) (a := ⟨dB, 1, none⟩) h1]; exact h.map
          dead := by rw [World.cell?_of_block (w := w) (a := ⟨dB, 2, none⟩) h1]; exact h.dead
          fuse := by rw [World.cell?_of_block (w := w) (a := ⟨dB, 3, none⟩) h1]; exact h.fuse
          fz := fun o => by rw [World.frozen?_of_block (w := w) (a := ⟨dB, o, none⟩) h1]; exact h.fz o
          ds := h.ds
          dm := h.dm
          sm := h.sm
          lt := Nat.lt_of_lt_of_le h.lt hb.size
          bytes := fun i hi => rangeAt_block (h.bytes i hi) h2
          there := there_block h.there h2
          pend := hm
          wf := ⟨h.wf.len, hw, h.wf.lo, h.wf.hi⟩
          n512 := h.n512 }

/-- a range whose first bytes are written over -/
theorem range_over {w : World} {b o : Nat} {z l : List UInt8} (h : w.rangeAt b o (u8s z)) (ht : w.there b o z.length) (hl : l.length ≤ z.length) : (w.setCells b o (u8s l)).rangeAt b o (u8s (l ++ z.drop l.length)) := fun j v hv => by
  have hj : j < z.length := by
    have := (List.getElem?_eq_some_iff.1 hv).1
    rw [u8s_length, List.length_append, List.length_drop] at this
    omega
  by_cases h1 : j < l.length
  · rw [World.cell?_setCells_in b (u8s l) o w (fun i hi => (ht i (by rw [u8s_length] at hi; omega)).1) j (by rw [u8s_length]; exact h1), ← hv, u8s_append, List.getElem?_append_left (by rw [u8s_length]; exact h1), List.getElem?_eq_getElem]
  · rw [World.cell?_setCells_out b (u8s l) o w ⟨b, o + j, none⟩ (fun _ _ => .inr (by rw [u8s_length]; show o + l.length ≤ o + j; omega))]
    refine h j v ?_
    rw [← hv, u8s_append, List.getElem?_append_right (by rw [u8s_length]; omega), u8s_length]
    unfold u8s
    rw [List.map_drop, List.getElem?_drop, show l.length + (j - l.length) = j by omega]

/-- a sector's first bytes turned -/
theorem DevAt.setSec {w : World} {dB sB mB n : Nat} {d : M.Dv} (h : DevAt w dB sB mB n d) {i : Nat} (hi : i < n) {l : List UInt8} (hs : l.length ≤ 144) : DevAt (w.setCells sB (i * 144) (u8s l)) dB sB mB n { d with S := fun j => if j = i then l ++ (d.S j).drop l.length else d.S j } := by
  have h1 := heap_setCells sB (u8s l) (i * 144) w dB h.ds
  have h3 := heap_setCells sB (u8s l) (i * 144) w mB (Ne.symm h.sm)
  have hn : (i + 1) * 144 ≤ n * 144 := Nat.mul_le_mul_right _ hi
  exact { sec := by rw [World.cell?_of_block (w := w) (a := ⟨dB, 0, none⟩) h1]; exact h.sec
          map := by rw [World.cell?_of_block (w := w) (a := ⟨dB, 1, none⟩) h1]; exact h.map
          dead := by rw [World.cell?_of_block (w := w) (a := ⟨dB, 2, none⟩) h1]; exact h.dead
          fuse := by rw [World.cell?_of_block (w := w) (a := ⟨dB, 3, none⟩) h1]; exact h.fuse
          fz := fun o => by rw [World.frozen?_of_block (w := w) (a := ⟨dB, o, none⟩) h1]; exact h.fz o
          ds := h.ds
          dm := h.dm
          sm := h.sm
          lt := by rw [size_setCells]; exact h.lt
          bytes := fun j hj => by
            by_cases e : j = i
            · subst e
              simp only [if_true]
              refine range_over (h.bytes j hj) (fun k hk => ?_) (by rw [h.wf.len j]; exact hs)
              have := h.there (j * 144 + k) (by rw [h.wf.len j] at hk; omega)
              simpa using this
            · simp only [if_neg e]
              refine World.rangeAt_setCells_apart (h.bytes j hj) _ _ _ (.inr ?_)
              rw [u8s_length, u8s_length, h.wf.len j]
              omega
          there := World.there_setCells h.there _ _ _
          pend := h.pend.of_block h3
          wf := ⟨fun j => by
                  show (if j = i then l ++ (d.S j).drop l.length else d.S j).length = 144
                  split
                  · rw [List.length_append, List.length_drop, h.wf.len j]; omega
                  · exact h.wf.len j, h.wf.pend, h.wf.lo, h.wf.hi⟩
          n512 := h.n512 }

/-! rows that are read -/
/-- the slice at a, of length n, reads as vs -/
def Row (w : World) (a : Option Addr) (n cap : Nat) (vs : List Value) : Prop :=
  vs.length = n ∧ n ≤ cap ∧ cap ≤ maxLen ∧ (vs = [] ∨ ∃ b off, a = some ⟨b, off, none⟩ ∧ b < w.heap.size ∧ ∀ i, i < n → w.cell? ⟨b, off + i, none⟩ = vs[i]?)

theorem row_nil (w : World) : Row w none 0 0 [] := ⟨rfl, Nat.le_refl _, by simp [maxLen], .inl rfl⟩
theorem row_but {w w' : World} {l : List Nat} {a : Option Addr} {n cap : Nat} {vs : List Value} (h : Row w a n cap vs) (hb : But l w w') (hn : vs = [] ∨ ∀ b off, a = some ⟨b, off, none⟩ → b ∉ l) : Row w' a n cap vs := by
  obtain ⟨h1, h2, h3, h4⟩ := h
  refine ⟨h1, h2, h3, ?_⟩
  rcases h4 with h4 | ⟨b, off, ha, hlt, hc⟩
  · exact .inl h4
  · rcases hn with hn | hn
    · exact .inl hn
    · exact .inr ⟨b, off, ha, Nat.lt_of_lt_of_le hlt hb.size, fun i hi => by rw [hb.cell hlt (hn b off ha)]; exact hc i hi⟩
/-- a row that was there lies below what came since -/
theorem row_old {w : World} {a : Option Addr} {n cap : Nat} {vs : List Value} (h : Row w a n cap vs) {l : List Nat} (hl : ∀ x ∈ l, w.heap.size ≤ x) : vs = [] ∨ ∀ b off, a = some ⟨b, off, none⟩ → b ∉ l := by
  obtain ⟨h1, h2, h3, h4⟩ := h
  rcases h4 with h4 | ⟨b, off, rfl, hlt, hc⟩
  · exact .inl h4
  · refine .inr fun b' off' e hm => ?_
    injection e with e
    injection e with e1 e2
    have := hl _ hm
    omega
theorem row_range {w : World} {b o : Nat} {vs : List Value} (h : w.rangeAt b o vs) (hb : b < w.heap.size) {cap : Nat} (h1 : vs.length ≤ cap) (h2 : cap ≤ maxLen) : Row w (some ⟨b, o, none⟩) vs.length cap vs :=
  ⟨rfl, h1, h2, .inr ⟨b, o, rfl, hb, fun i hi => by rw [h i vs[i] (List.getElem?_eq_getElem hi), List.getElem?_eq_getElem hi]⟩⟩
theorem row_take {w : World} {b o n cap k : Nat} {vs : List Value} (h : Row w (some ⟨b, o, none⟩) n cap vs) (hk : k ≤ n) : Row w (some ⟨b, o, none⟩) k cap (vs.take k) := by
  obtain ⟨h1, h2, h3, h4⟩ := h
  refine ⟨by rw [List.length_take]; omega, by omega, h3, ?_⟩
  by_cases h0 : k = 0
  · subst h0; exact .inl rfl
  · rcases h4 with h4 | ⟨b', off, ha, hlt, hc⟩
    · subst h4; simp at h1; omega
    · injection ha with ha
      injection ha with e1 e2 _
      subst e1; subst e2
      refine .inr ⟨b, o, rfl, hlt, fun i hi => ?_⟩
      rw [hc i (by omega), List.getElem?_take, if_pos hi]

/-! the operations on sectors, for the walk -/
section
variable {ops : Array Oper} {rest : List Oper} {o : Oper} {a : Act} {w : World} {Q : Exit → Act → World → Prop}

/-- a sector's variable is made -/
theorem wpList_alloc_sec (hg : o.guard = none) (ho : o.op = .alloc 104)
    (h : ∀ w', w' = w.alloc (.cells (u8s M.zero).toArray 104) → wpList Tryz.prog ops Q rest (a.put o.dst (.pointer (some ⟨w.heap.size, 0, none⟩))) w') : wpList Tryz.prog ops Q (o :: rest) a w := by
  refine wpList_plain hg fun K hK => ?_
  unfold Oper.wp
  have hv : (newVar 104 (.agg (u8s M.zero).toArray)).run Tryz.prog w = .ok ⟨w.heap.size, 0, none⟩ (w.alloc (.cells (u8s M.zero).toArray 104)) := by
    simp only [newVar, newRow, Value.cells, Sem.run_bind, run_newObj_alloc, Sem.run_pure, Result.andThen_ok]
  simp only [execOp, ho, Instr.alloc, Sem.run_bind, zero_run, Result.andThen_ok, hv, Sem.run_pure, Result.andThen]
  exact hK _ _ (h _ rfl)

/-- what a new sector's variable holds -/
theorem sec_new (w : World) {w' : World} (hw : w' = w.alloc (.cells (u8s M.zero).toArray 104)) : w'.rangeAt w.heap.size 0 (u8s M.zero) ∧ w'.there w.heap.size 0 144 ∧ w'.heap.size = w.heap.size + 1 ∧ ∀ l, But l w w' := by
  subst hw
  refine ⟨fun j v hv => ?_, fun j hj => ⟨?_, ?_⟩, by simp, fun l => (But.refl _ _).alloc _⟩
  · rw [World.cell?_alloc_mark]; simpa using hv
  · rw [World.cell?_alloc_mark]
    have : j < (u8s M.zero).length := by rw [u8s_length, M.zero_len]; exact hj
    simp [this]
  · exact World.frozen?_alloc_at _ _ _ _ rfl

/-- copy of a row of at most as many bytes -/
theorem wpList_copy_row (hg : o.guard = none) (x y : Operand) (ho : o.op = Op.call { callee := Callee.builtin Builtin.copy, args := #[x, y], argTypes := #[50, 50] })
    (b off n c : Nat) (hx : a.eval x = .slice (some ⟨b, off, none⟩) n c) (A : Option Addr) (m cc : Nat) (hy : a.eval y = .slice A m cc) (l : List UInt8) (hr : Row w A m cc (u8s l)) (hm : m ≤ n) (ht : w.there b off n)
    (h : wpList Tryz.prog ops Q rest (a.put o.dst (.int .i64 m)) (w.setCells b off (u8s l))) : wpList Tryz.prog ops Q (o :: rest) a w := by
  refine wpList_plain hg fun K hK => ?_
  obtain ⟨h1, h2, h3, h4⟩ := hr
  have hrun : ∀ ty, (Builtin.copy_ #[50, 50] ty #[.slice (some ⟨b, off, none⟩) n c, .slice A m cc]).run Tryz.prog w = .ok (.int .i64 m) (w.setCells b off (u8s l)) := by
    intro ty
    have hi : (Tryz.prog.info? 5).map (·.size) = some 1 := by kernel_rfl
    rcases h4 with h4 | ⟨b', off', rfl, hlt, hc⟩
    · have h0 : m = 0 := by rw [← h1, h4]; rfl
      subst h0
      rw [h4, run_copy_none (P := Tryz.prog) w 50 50 ty 5 _ _ _ _ _ _ Tryz.underlying50 hi (by simp)]
      simp [goInt, World.setCells]
    · rw [run_copy_cells (P := Tryz.prog) w 50 50 ty 5 b off n c ⟨b', off', none⟩ m cc (u8s l) Tryz.underlying50 hi (by rw [h1]; exact (Nat.min_eq_left hm).symm)
        (fun j v hv => by
          have hj : j < m := by have := (List.getElem?_eq_some_iff.1 hv).1; omega
          rw [Addr.add_mid, hc j hj, hv])
        (fun j hj => (ht j (by omega)).1) (fun j hj => (ht j (by omega)).2) (u8s_one l), h1]
      simp [goInt]
  unfold Oper.wp
  simp [execOp, ho, resolve, invoke, builtin, hx, hy, hrun, Result.andThen]
  exact hK _ _ h

/-- m[k] = v for a map of sectors -/
theorem wpList_update_sec (hg : o.guard = none) (m x v : Operand) (ho : o.op = Op.mapUpdate 65 m x v) (mB : Nat) (hm : a.eval m = .map (some mB)) (i : Int) (hx : a.eval x = .int .i64 i) (s : M.Sec) (hv : a.eval v = .agg (u8s s).toArray)
    {P : Int → Option M.Sec} (hP : MapIs w mB P) (n : Nat) (hPn : ∀ k s, P k = some s → 0 ≤ k ∧ k < (n : Int)) (hn : n ≤ 1000000) (h1 : -9223372036854775808 ≤ i) (h2 : i ≤ 9223372036854775807) (hs : s.length = 144)
    (h : ∀ w', MapIs w' mB (M.upd P i s) → But [mB] w w' → wpList Tryz.prog ops Q rest (a.put o.dst undef) w') : wpList Tryz.prog ops Q (o :: rest) a w := by
  refine wpList_plain hg fun K hK => ?_
  obtain ⟨w', hrun, hm', hb⟩ := mapis_store hP hPn hn h1 h2 hs
  unfold Oper.wp
  simp [execOp, ho, hm, hx, hv, hrun, Result.andThen]
  exact hK _ _ (h w' hm' hb)

/-- a sector is read, in a region that draws its order and only reads -/
theorem wpStill_load_sec {Q' : Act → Prop} (hg : o.guard = none) (x : Operand) (ho : o.op = .load 104 x) (b off : Nat) (hx : a.eval x = .pointer (some ⟨b, off, none⟩)) (s : M.Sec) (hs : s.length = 144) (hc : w.rangeAt b off (u8s s))
    (h : wpStill Tryz.prog ops w Q' rest (a.put o.dst (.agg (u8s s).toArray))) : wpStill Tryz.prog ops w Q' (o :: rest) a := by
  refine wpStill_step (fun K hK => ?_)
  simp only [Region.wanted, hg, if_true, Oper.still]
  have := run_loadAt_mid (P := Tryz.prog) w b off 104 (u8s s) _ hc Tryz.underlying104 rfl (by rw [sec_size, u8s_length, hs])
  simp only [execOp, ho, hx, Sem.run_bind, this, Result.andThen_ok, Sem.run_pure, Result.andThen, Oper.stillUpon_value]
  exact hK _ h

theorem wpList_load_sec (hg : o.guard = none) (x : Operand) (ho : o.op = .load 104 x) (b off : Nat) (hx : a.eval x = .pointer (some ⟨b, off, none⟩)) (s : M.Sec) (hs : s.length = 144) (hc : w.rangeAt b off (u8s s))
    (h : wpList Tryz.prog ops Q rest (a.put o.dst (.agg (u8s s).toArray)) w) : wpList Tryz.prog ops Q (o :: rest) a w :=
  wpList_load_mid hg 104 x ho b off hx (u8s s) _ hc Tryz.underlying104 rfl (by rw [sec_size, u8s_length, hs]) h

theorem wpList_store_sec (hg : o.guard = none) (x y : Operand) (ho : o.op = .store 104 x y) (b off : Nat) (hx : a.eval x = .pointer (some ⟨b, off, none⟩)) (s : M.Sec) (hy : a.eval y = .agg (u8s s).toArray) (hs : s.length = 144) (ht : w.there b off 144)
    (h : wpList Tryz.prog ops Q rest (a.put o.dst undef) (w.setCells b off (u8s s))) : wpList Tryz.prog ops Q (o :: rest) a w := by
  have h1 : (u8s s).toArray.size = 144 := by rw [List.size_toArray, u8s_length, hs]
  exact wpList_store_mid hg 104 x y ho b off _ hx hy (by rw [h1]; exact ht) (by rw [sec_size, h1]) (all_oneCell_toArray (u8s_one s)) (by simpa using h)
end
end Go.Proofs.YtofhijnfbilieaaGreat
namespace Go.Proofs
open Go.Shelf
def Tryz.keysA_ren : Go.Shelf.Ren := ⟨fun | 7 => 66 | 10 => 81 | n => n, fun | 23 => 65 | 26 => 3 | 3 => 104 | 28 => 138 | 0 => 0 | 27 => 137 | 33 => 113 | 4 => 4 | n => n, fun | n => n⟩
theorem Tryz.keysA : Go.Proofs.SlLaysZI.n7 Tryz.prog Tryz.keysA_ren := {
  mixed := by kernel_rfl
  f7 := ⟨Tryz.f66.name, by decide, Tryz.func66.trans (congrArg some (by kernel_rfl))⟩
  f10 := ⟨Tryz.f81.name, by decide, Tryz.func81.trans (congrArg some (by kernel_rfl))⟩
  t0 := Tryz.underlying0
  a0 := Tryz.isAgg0
  z0 := Tryz.sizeOf0
  v0 := Tryz.zeroValue0
  t4 := Tryz.underlying4
  a4 := Tryz.isAgg4
  z4 := Tryz.sizeOf4
  v4 := Tryz.zeroValue4
  t23 := Tryz.underlying65
  a23 := Tryz.isAgg65
  z23 := Tryz.sizeOf65
  v23 := Tryz.zeroValue65
  t26 := Tryz.underlying3
  a26 := Tryz.isAgg3
  z26 := Tryz.sizeOf3
  v26 := Tryz.zeroValue3
  t27 := Tryz.underlying137
  a27 := Tryz.isAgg137
  z27 := Tryz.sizeOf137
  v27 := Tryz.zeroValue137
  t28 := Tryz.underlying138
  a28 := Tryz.isAgg138
  z28 := Tryz.sizeOf138
  v28 := Tryz.zeroValue138
  t33 := Tryz.underlying113
  a33 := Tryz.isAgg113
  z33 := Tryz.sizeOf113
  v33 := Tryz.zeroValue113 }
def Tryz.sortedA_ren : Go.Shelf.Ren := ⟨fun | 6 => 65 | 8 => 79 | 9 => 80 | 11 => 92 | 13 => 94 | 12 => 93 | 23 => 110 | 24 => 111 | 14 => 101 | 15 => 102 | 16 => 103 | 17 => 104 | 18 => 105 | 19 => 106 | 20 => 107 | 21 => 108 | 22 => 109 | 25 => 115 | 26 => 116 | 27 => 117 | 28 => 118 | 29 => 119 | 30 => 120 | 31 => 121 | n => n, fun | 26 => 3 | 28 => 138 | 24 => 101 | 0 => 0 | 3 => 3 | 37 => 163 | 48 => 162 | 50 => 153 | 4 => 4 | 40 => 177 | 39 => 176 | 45 => 182 | 5 => 5 | 9 => 9 | 51 => 189 | 55 => 193 | 57 => 195 | 58 => 172 | 33 => 113 | n => n, fun | n => n⟩
theorem Tryz.sortedA : Go.Proofs.SlLaysZI.n6 Tryz.prog Tryz.sortedA_ren := {
  mixed := by kernel_rfl
  f6 := ⟨Tryz.f65.name, by decide, Tryz.func65.trans (congrArg some (by kernel_rfl))⟩
  f8 := ⟨Tryz.f79.name, by decide, Tryz.func79.trans (congrArg some (by kernel_rfl))⟩
  f11 := ⟨Tryz.f92.name, by decide, Tryz.func92.trans (congrArg some (by kernel_rfl))⟩
  t0 := Tryz.underlying0
  a0 := Tryz.isAgg0
  z0 := Tryz.sizeOf0
  v0 := Tryz.zeroValue0
  t24 := Tryz.underlying101
  a24 := Tryz.isAgg101
  z24 := Tryz.sizeOf101
  v24 := Tryz.zeroValue101
  t26 := Tryz.underlying3
  a26 := Tryz.isAgg3
  z26 := Tryz.sizeOf3
  v26 := Tryz.zeroValue3
  t28 := Tryz.underlying138
  a28 := Tryz.isAgg138
  z28 := Tryz.sizeOf138
  v28 := Tryz.zeroValue138
  i26 := by kernel_rfl }
def Tryz.sortA_ren : Go.Shelf.Ren := ⟨fun | 5 => 80 | 8 => 94 | 7 => 93 | 19 => 110 | 20 => 111 | 10 => 101 | 11 => 102 | 12 => 103 | 13 => 104 | 14 => 105 | 15 => 106 | 16 => 107 | 17 => 108 | 18 => 109 | 30 => 115 | 31 => 116 | 32 => 117 | 33 => 118 | 34 => 119 | 35 => 120 | 40 => 121 | n => n, fun | 23 => 101 | 25 => 3 | 3 => 3 | 32 => 163 | 22 => 101 | 0 => 0 | 44 => 162 | 46 => 153 | 4 => 4 | 36 => 177 | 35 => 176 | 41 => 182 | 5 => 5 | 9 => 9 | 53 => 189 | 57 => 193 | 63 => 195 | 64 => 172 | n => n, fun | n => n⟩
theorem Tryz.sortA : Go.Proofs.SlLaysM.n5 Tryz.prog Tryz.sortA_ren := {
  mixed := by kernel_rfl
  f5 := ⟨Tryz.f80.name, by decide, Tryz.func80.trans (congrArg some (by kernel_rfl))⟩
  f7 := ⟨Tryz.f93.name, by decide, Tryz.func93.trans (congrArg some (by kernel_rfl))⟩
  f8 := Tryz.func94.trans (congrArg some (by kernel_rfl))
  f10 := ⟨Tryz.f101.name, by decide, Tryz.func101.trans (congrArg some (by kernel_rfl))⟩
  f11 := ⟨Tryz.f102.name, by decide, Tryz.func102.trans (congrArg some (by kernel_rfl))⟩
  f12 := ⟨Tryz.f103.name, by decide, Tryz.func103.trans (congrArg some (by kernel_rfl))⟩
  f13 := ⟨Tryz.f104.name, by decide, Tryz.func104.trans (congrArg some (by kernel_rfl))⟩
  f14 := ⟨Tryz.f105.name, by decide, Tryz.func105.trans (congrArg some (by kernel_rfl))⟩
  f15 := ⟨Tryz.f106.name, by decide, Tryz.func106.trans (congrArg some (by kernel_rfl))⟩
  f16 := ⟨Tryz.f107.name, by decide, Tryz.func107.trans (congrArg some (by kernel_rfl))⟩
  f17 := ⟨Tryz.f108.name, by decide, Tryz.func108.trans (congrArg some (by kernel_rfl))⟩
  f18 := ⟨Tryz.f109.name, by decide, Tryz.func109.trans (congrArg some (by kernel_rfl))⟩
  f19 := Tryz.func110.trans (congrArg some (by kernel_rfl))
  f20 := Tryz.func111.trans (congrArg some (by kernel_rfl))
  f30 := ⟨Tryz.f115.name, by decide, Tryz.func115.trans (congrArg some (by kernel_rfl))⟩
  f31 := Tryz.func116.trans (congrArg some (by kernel_rfl))
  f32 := Tryz.func117.trans (congrArg some (by kernel_rfl))
  f33 := ⟨Tryz.f118.name, by decide, Tryz.func118.trans (congrArg some (by kernel_rfl))⟩
  f34 := ⟨Tryz.f119.name, by decide, Tryz.func119.trans (congrArg some (by kernel_rfl))⟩
  f35 := ⟨Tryz.f120.name, by decide, Tryz.func120.trans (congrArg some (by kernel_rfl))⟩
  f40 := ⟨Tryz.f121.name, by decide, Tryz.func121.trans (congrArg some (by kernel_rfl))⟩
  t0 := Tryz.underlying0
  a0 := Tryz.isAgg0
  z0 := Tryz.sizeOf0
  v0 := Tryz.zeroValue0
  t3 := Tryz.underlying3
  a3 := Tryz.isAgg3
  z3 := Tryz.sizeOf3
  v3 := Tryz.zeroValue3
  t4 := Tryz.underlying4
  a4 := Tryz.isAgg4
  z4 := Tryz.sizeOf4
  v4 := Tryz.zeroValue4
  t5 := Tryz.underlying5
  a5 := Tryz.isAgg5
  z5 := Tryz.sizeOf5
  v5 := Tryz.zeroValue5
  t9 := Tryz.underlying9
  a9 := Tryz.isAgg9
  z9 := Tryz.sizeOf9
  v9 := Tryz.zeroValue9
  t22 := Tryz.underlying101
  a22 := Tryz.isAgg101
  z22 := Tryz.sizeOf101
  v22 := Tryz.zeroValue101
  t23 := Tryz.underlying101
  a23 := Tryz.isAgg101
  z23 := Tryz.sizeOf101
  v23 := Tryz.zeroValue101
  t25 := Tryz.underlying3
  a25 := Tryz.isAgg3
  z25 := Tryz.sizeOf3
  v25 := Tryz.zeroValue3
  t32 := Tryz.underlying163
  a32 := Tryz.isAgg163
  z32 := Tryz.sizeOf163
  v32 := Tryz.zeroValue163
  t35 := Tryz.underlying176
  a35 := Tryz.isAgg176
  z35 := Tryz.sizeOf176
  v35 := Tryz.zeroValue176
  t36 := Tryz.underlying177
  a36 := Tryz.isAgg177
  z36 := Tryz.sizeOf177
  v36 := Tryz.zeroValue177
  t41 := Tryz.underlying182
  a41 := Tryz.isAgg182
  z41 := Tryz.sizeOf182
  v41 := Tryz.zeroValue182
  t44 := Tryz.underlying162
  a44 := Tryz.isAgg162
  z44 := Tryz.sizeOf162
  v44 := Tryz.zeroValue162
  t46 := Tryz.underlying153
  a46 := Tryz.isAgg153
  z46 := Tryz.sizeOf153
  v46 := Tryz.zeroValue153
  t53 := Tryz.underlying189
  a53 := Tryz.isAgg189
  z53 := Tryz.sizeOf189
  v53 := Tryz.zeroValue189
  t57 := Tryz.underlying193
  a57 := Tryz.isAgg193
  z57 := Tryz.sizeOf193
  v57 := Tryz.zeroValue193
  t63 := Tryz.underlying195
  a63 := Tryz.isAgg195
  z63 := Tryz.sizeOf195
  v63 := Tryz.zeroValue195
  t64 := Tryz.underlying172
  a64 := Tryz.isAgg172
  z64 := Tryz.sizeOf172
  v64 := Tryz.zeroValue172 }
end Go.Proofs
namespace Go.Proofs.YtofhijnfbilieaaGreat
open Go.RowKit Go.Maps Go.Sort Go.Shelf
set_option linter.unusedVariables false
set_option linter.unusedSimpArgs false
set_option maxRecDepth 20000

/-- slices.Sort's two contracts at this dump, at the fence that asks nothing. -/
theorem sorts_ok (m : Nat) : AnyZI.SortsIn Tryz.prog Tryz.sortedA_ren Fence.wide m :=
  ⟨fun blk off cap ss W hH hblk hsz => callsIn_wide.2 (AnyM.slices_Sort_int Tryz.sortA blk off cap ss W hH hblk hsz),
   fun p cap W => callsIn_wide.2 (AnyM.slices_Sort_int_none Tryz.sortA p cap W)⟩

def ints (l : List Int) : List Value := l.map encZ

set_option maxHeartbeats 1000000 in
theorem pending_own (dB mB nn : Nat) (D0 : DataW Unit) (w : World) (hmap : w.cell? ⟨dB, 1, none⟩ = some (.map (some mB))) (hown : w.ownsMap (H := Unit) Tryz.prog 3 secR mB nn D0) (hmax : Maps.size D0 ≤ 512) :
    Calls Tryz.prog 38 #[.pointer (some ⟨dB, 0, none⟩)] w fun e w' => ∃ (v : Value) (ss : List Int), e = .returned v ∧ ss.Perm (intKeys D0) ∧
      w'.ownsRow w.heap.size 3 1 v ss.length (ints (ss.mergeSort (fun x y => decide (x ≤ y)))) ∧ (v = .slice none 0 0 ↔ ss = []) ∧ Below w.heap.size w w' := by
  refine (callsIn_wide (n := 6)).1 ?_
  have hbl := hown.lt
  have hseq : SeqGives Fence.wide 2 Tryz.prog 81 #[.pointer (some ⟨w.heap.size, 0, none⟩)] encZ (fun ss => ss.Perm (intKeys D0)) (Maps.size D0) (w.alloc (.cells #[.map (some mB)] 65)) :=
    AnyZI.keys_gives (ρ := Tryz.keysA_ren) { Tryz.keysA with } Fence.wide _ trivial rfl (by omega) w.heap.size mB nn D0 _ (by simp) (by simp) (by
      obtain ⟨es, clock, hb, Ft, hs, hD⟩ := hown
      exact ⟨es, clock, (Below.heap_alloc _ _ mB hbl).trans hb, Ft, hs, hD⟩)
  have cK : ∀ mb W, CallsIn Fence.wide 5 Tryz.prog 66 #[.map mb] W fun e w' => e = .returned (.func (.func 81) #[] #[.pointer (some ⟨W.heap.size, 0, none⟩)]) ∧ w' = W.alloc (.cells #[.map mb] 65) := fun mb W => AnyZI.keys_in Tryz.keysA Fence.wide 5 trivial rfl mb W
  have cS := AnyZI.sorted_in Tryz.sortedA Fence.wide 5 trivial trivial trivial trivial rfl (by omega) (sorts_ok _) (enters_of Tryz.func80 (by kernel_rfl) rfl) 81 #[.pointer (some ⟨w.heap.size, 0, none⟩)] trivial (enters_of Tryz.func81 (by kernel_rfl) rfl) _ _ (show Maps.size D0 ≤ maxLen by simp only [maxLen]; omega) (by omega) _ hseq
  change CallsIn _ _ Tryz.prog 65 _ _ _ at cS
  have hfK : Fence.wide.fn 66 := trivial
  have hfS : Fence.wide.fn 65 := trivial
  refine callsIn_of_wp Tryz.func38 rfl trivial ?_ rfl
  simp only [Tryz.ntmps38, List.size_toArray, List.length_cons, List.length_nil, Nat.reduceAdd, Nat.reduceSub, Array.replicate_succ, Array.replicate_zero, List.push_toArray, List.append_toArray, List.nil_append, List.cons_append]
  gi_wp2_with (first
    | (gi_at_call 66; refine (cK _ _).mono ?_; rintro e w' ⟨rfl, rfl⟩)
    | (gi_at_call 65; refine cS.mono ?_; rintro e w' ⟨v, ss, rfl, hS, hrow, hnil, hb⟩))
  go_ret
  exact ⟨v, ss, rfl, hS, ownsRow_base_a hrow (by simp), hnil, ((Below.refl _ w).alloc (Nat.le_refl _) _).trans (hb.mono (by simp))⟩

theorem pending_any {dB sB mB n : Nat} {d : M.Dv} (w : World) (h : DevAt w dB sB mB n d) :
    Calls Tryz.prog 38 #[.pointer (some ⟨dB, 0, none⟩)] w fun e w' => ∃ v : Value, e = .returned v ∧
      w'.ownsRow w.heap.size 3 1 v (M.pendL n d.P).length (ints (M.pendL n d.P)) ∧ Below w.heap.size w w' := by
  obtain ⟨N, D, hown, hr⟩ := h.pend
  have hP : ∀ k s, d.P k = some s → 0 ≤ k ∧ k < (n : Int) := fun k s hk => ⟨(h.wf.pend k s hk).1, (h.wf.pend k s hk).2.1⟩
  refine (pending_own dB mB N D w h.map hown (Nat.le_trans (keys_count hown hr hP) h.n512)).mono ?_
  rintro e w' ⟨v, ss, rfl, hp, hrow, _, hb⟩
  have e1 := keys_sorted hown hr hP
  have e2 : ss.mergeSort (fun x y => decide (x ≤ y)) = M.pendL n d.P := (mergeSort_of_perm_i hp).trans e1
  have e3 : ss.length = (M.pendL n d.P).length := by rw [← e2, List.length_mergeSort]
  rw [e2, e3] at hrow
  exact ⟨v, rfl, hrow, hb⟩
end Go.Proofs.YtofhijnfbilieaaGreat
namespace Go.Proofs.YtofhijnfbilieaaGreat
open Go.RowKit Go.Maps
set_option linter.unusedVariables false
set_option linter.unusedSimpArgs false
set_option maxRecDepth 20000

variable {dB sB mB n : Nat} {d : M.Dv}

theorem sectors_any (w : World) (h : DevAt w dB sB mB n d) : Calls Tryz.prog 25 #[.pointer (some ⟨dB, 0, none⟩)] w fun e w' => e = .returned (.int .i64 n) ∧ w = w' := by
  have h1 := h.sec
  clear h
  go_enter Tryz.func25, Tryz.ntmps25
  go_wp2
  go_ret
  exact ⟨rfl, rfl⟩

theorem fuse_any (w : World) (h : DevAt w dB sB mB n d) (k : Int) (hk1 : -9223372036854775808 ≤ k) (hk2 : k ≤ 9223372036854775807) :
    Calls Tryz.prog 15 #[.pointer (some ⟨dB, 0, none⟩), .int .i64 k] w fun e w' => e = .returned (.tuple #[]) ∧ DevAt w' dB sB mB n (M.fuseD d k) ∧ But [dB] w w' := by
  have H := Lib.hid (h.setFuse hk1 hk2)
  have h1 := h.fuse
  have h2 := h.fz 3
  clear h
  go_enter Tryz.func15, Tryz.ntmps15
  go_wp2
  go_end0
  exact ⟨rfl, H.out, (But.refl _ _).set _ (.inl (by simp))⟩

theorem reach_any (w : World) (h : DevAt w dB sB mB n d) (i : Int) (hi1 : -9223372036854775808 ≤ i) (hi2 : i ≤ 9223372036854775807) :
    Calls Tryz.prog 41 #[.pointer (some ⟨dB, 0, none⟩), .int .i64 i] w fun e w' => e = .returned (.int .i64 (M.reach n d i)) ∧ w = w' := by
  have h1 := h.dead
  have h2 := h.sec
  have H5 := Lib.hid h.n512
  clear h
  unfold M.reach
  cases hd : d.dead with
  | true =>
    rw [hd] at h1
    have Hd := Lib.hid hd
    clear hd
    go_enter Tryz.func41, Tryz.ntmps41
    go_wp2
    go_ret
    exact ⟨rfl, rfl⟩
  | false =>
    rw [hd] at h1
    have Hd := Lib.hid hd
    clear hd
    by_cases c1 : i < 0
    · have e : (if i < 0 ∨ (n : Int) ≤ i then (2 : Int) else 0) = 2 := if_pos (.inl c1)
      simp only [e, Bool.false_eq_true, if_false]
      clear e
      go_enter Tryz.func41, Tryz.ntmps41
      go_wp2
      go_ret
      exact ⟨rfl, rfl⟩
    · by_cases c2 : (n : Int) ≤ i
      · have e : (if i < 0 ∨ (n : Int) ≤ i then (2 : Int) else 0) = 2 := if_pos (.inr c2)
        simp only [e, Bool.false_eq_true, if_false]
        clear e
        have c1' : (0 : Int) ≤ i := by omega
        clear c1
        go_enter Tryz.func41, Tryz.ntmps41
        go_wp2
        go_ret
        exact ⟨rfl, rfl⟩
      · have e : (if i < 0 ∨ (n : Int) ≤ i then (2 : Int) else 0) = 0 := if_neg (by omega)
        simp only [e, Bool.false_eq_true, if_false]
        clear e
        have c1' : (0 : Int) ≤ i := by omega
        have c2' : i < (n : Int) := by omega
        clear c1 c2
        go_enter Tryz.func41, Tryz.ntmps41
        go_wp2
        go_ret
        exact ⟨rfl, rfl⟩

theorem act_any (w : World) (h : DevAt w dB sB mB n d) :
    Calls Tryz.prog 42 #[.pointer (some ⟨dB, 0, none⟩)] w fun e w' => e = .returned (.int .i64 (M.actE d)) ∧ DevAt w' dB sB mB n (M.actD d) ∧ But [dB] w w' := by
  have h1 := h.fuse
  have h2 := h.fz 2
  have h3 := h.fz 3
  have h4 := h.dead
  have hlo := h.wf.lo
  have hhi := h.wf.hi
  have H := Lib.hid h
  clear h
  unfold M.actE M.actD
  by_cases c0 : d.fuse = 0
  · have K := Lib.hid (H.out.setDead true)
    simp only [if_pos c0]
    rw [c0] at h1
    clear c0 hlo hhi
    go_enter Tryz.func42, Tryz.ntmps42
    go_wp2
    go_ret
    exact ⟨rfl, K.out, (But.refl _ _).set _ (.inl (by simp))⟩
  · simp only [if_neg c0]
    by_cases c1 : 0 < d.fuse
    · have K := Lib.hid (H.out.setFuse (k := d.fuse - 1) (by omega) (by omega))
      simp only [if_pos c1]
      clear c0
      go_enter Tryz.func42, Tryz.ntmps42
      go_wp2
      go_ret
      exact ⟨rfl, K.out, (But.refl _ _).set _ (.inl (by simp))⟩
    · simp only [if_neg c1]
      have c2 : d.fuse < 0 := by omega
      clear c0 c1
      go_enter Tryz.func42, Tryz.ntmps42
      go_wp2
      go_ret
      exact ⟨rfl, H.out, But.refl _ _⟩

theorem kept_any (w : World) (a b : Int) : Calls Tryz.prog 39 #[.agg #[.int .i64 a, .int .i64 b]] w fun e w' => e = .returned (.int .i64 (M.keptN a b)) ∧ Below w.heap.size w w' := by
  unfold M.keptN
  by_cases c1 : a = 1
  · simp only [if_pos c1]
    subst c1
    go_enter Tryz.func39, Tryz.ntmps39
    go_wp2
    go_ret
    exact ⟨rfl, (Below.refl _ _).alloc (Nat.le_refl _) _⟩
  · by_cases c2 : a = 2
    · have e : (if a = 1 then 144 else if a = 2 then (min (max b 0) 144).toNat else 0) = (min (max b 0) 144).toNat := by rw [if_neg c1, if_pos c2]
      rw [e]
      clear e c1
      subst c2
      have e : ((min (max b 0) 144).toNat : Int) = min (max b 0) 144 := by omega
      rw [e]
      clear e
      go_enter Tryz.func39, Tryz.ntmps39
      go_wp2
      go_ret
      exact ⟨rfl, (Below.refl _ _).alloc (Nat.le_refl _) _⟩
    · have e : (if a = 1 then 144 else if a = 2 then (min (max b 0) 144).toNat else 0) = 0 := by rw [if_neg c1, if_neg c2]
      rw [e]
      clear e
      go_enter Tryz.func39, Tryz.ntmps39
      go_wp2
      go_ret
      exact ⟨rfl, (Below.refl _ _).alloc (Nat.le_refl _) _⟩


theorem restart_any (w : World) (h : DevAt w dB sB mB n d) :
    Calls Tryz.prog 40 #[.pointer (some ⟨dB, 0, none⟩)] w fun e w' => e = .returned (.tuple #[]) ∧ DevAt w' dB sB mB n ⟨d.S, fun _ => none, false, -1⟩ ∧ But [dB, mB] w w' := by
  obtain ⟨w1, hrun, hm, hb⟩ := mapis_clear h.pend 1
  have hc : ∀ ty, (Builtin.clear_ #[65] ty #[.map (some mB)]).run Tryz.prog w = .ok (.tuple #[]) w1 := fun ty => hrun
  have K := h.setMap hb hm (fun k s hk => by simp at hk)
  have h1 := h.map
  have h2 := K.dead
  have h3 := K.fuse
  have h4 := K.fz 2
  have h5 := K.fz 3
  have HK := Lib.hid ((K.setDead false).setFuse (k := -1) (by omega) (by omega))
  have HB := Lib.hid hb
  clear h K hrun hm hb
  go_enter Tryz.func40, Tryz.ntmps40
  go_wp2
  go_end0
  exact ⟨rfl, HK.out, ((HB.out.mono (by simp)).set _ (.inl (by simp))).set _ (.inl (by simp))⟩

end Go.Proofs.YtofhijnfbilieaaGreat
namespace Go.Proofs.YtofhijnfbilieaaGreat
open Go.RowKit Go.Maps
set_option linter.unusedVariables false
set_option linter.unusedSimpArgs false
set_option maxRecDepth 20000

variable {dB sB mB n : Nat} {d : M.Dv}

theorem made_get (k j : Nat) (hj : j < k) : (madeCells (u8s M.zero).toArray k)[j]? = some (u8 0) := by
  rw [zero_is]
  have : ((Array.replicate 144 (Value.int .u8 0))[j % 144]!) = u8 0 := by
    rw [getElem!_pos _ _ (by simp; omega)]
    simp [u8]
  simp [madeCells, hj, this]

theorem made_toList (k : Nat) : (madeCells (u8s M.zero).toArray k).toList = u8s (List.replicate k 0) := by
  apply List.ext_getElem?
  intro j
  rw [Array.getElem?_toList]
  by_cases hj : j < k
  · rw [made_get k j hj]; simp [u8s, hj]
  · rw [Array.getElem?_eq_none (by rw [size_madeCells]; omega), List.getElem?_eq_none (by rw [u8s_length, List.length_replicate]; omega)]

theorem zero_range {w : World} {k : Nat} (h : ∀ j, j < k → w.cell? ⟨sB, j, none⟩ = some (u8 0)) (i : Nat) (hi : i * 144 + 144 ≤ k) : w.rangeAt sB (i * 144) (u8s M.zero) := fun j v hv => by
  have hj : j < 144 := by have := (List.getElem?_eq_some_iff.1 hv).1; rw [u8s_length, M.zero_len] at this; exact this
  rw [h _ (by omega), ← hv]
  unfold u8s M.zero
  rw [List.map_replicate, List.getElem?_replicate, if_pos hj]

theorem new_no (k : Int) (hk : k < 0 ∨ 512 < k) (w : World) : Calls Tryz.prog 5 #[.int .i64 k] w fun e w' => e = .returned (.pointer none) ∧ w = w' := by
  rcases hk with hk | hk
  · go_enter Tryz.func5, Tryz.ntmps5
    go_wp2
    go_ret
    exact ⟨rfl, rfl⟩
  · have h0 : 0 ≤ k := by omega
    go_enter Tryz.func5, Tryz.ntmps5
    go_wp2
    go_ret
    exact ⟨rfl, rfl⟩

theorem new_yes (n : Nat) (hn : n ≤ 512) (w : World) : Calls Tryz.prog 5 #[.int .i64 n] w fun e w' =>
    ∃ dB sB mB, e = .returned (.pointer (some ⟨dB, 0, none⟩)) ∧ DevAt w' dB sB mB n M.fresh ∧ Below w.heap.size w w' ∧ w.heap.size ≤ dB ∧ w.heap.size ≤ sB ∧ w.heap.size ≤ mB := by
  obtain ⟨i0, hi0, hz0, hs0, hb0⟩ : ∃ i0, Tryz.prog.info? 104 = some i0 ∧ i0.zero = some (.agg (u8s M.zero).toArray) ∧ i0.size = 144 ∧ i0.bytes = 144 := by
    have h1 := sec_info
    have h2 := sec_size
    have h3 : (Tryz.prog.info? 104).map (·.bytes) = some 144 := by kernel_rfl
    cases hi : Tryz.prog.info? 104 with
    | none => simp [hi] at h1
    | some i => simp [hi] at h1 h2 h3; exact ⟨i, rfl, h1, h2, h3⟩
  have hm := run_makeSlice w 64 104 i0 _ Tryz.underlying64 hi0 hz0 .i64 .i64 n n (by omega) (by omega) (by rw [hs0]; omega) (by rw [hb0]; omega) (by omega)
  rw [hs0] at hm
  simp only [Int.toNat_natCast] at hm
  have HC : Hid (∀ j, j < n * 144 → (madeCells (Value.agg (u8s M.zero).toArray).cells (n * 144))[j]? = some (u8 0)) := Lib.hid (made_get (n * 144))
  generalize madeCells (Value.agg (u8s M.zero).toArray).cells (n * 144) = C at hm HC
  have hn0 : (0 : Int) ≤ (n : Int) := by omega
  have hn1 : (n : Int) ≤ 512 := by omega
  have Hn := Lib.hid hn
  clear hi0 hz0 hs0 hb0 hn
  have hmm := @run_makeMap Tryz.prog
  go_enter Tryz.func5, Tryz.ntmps5
  go_wp2
  go_ret
  refine ⟨_, w.heap.size, w.heap.size + 1, rfl, ?_, (((Below.refl _ _).alloc (Nat.le_refl _) _).alloc (by simp) _).alloc (by simp; omega) _, by omega, by omega, by omega⟩
  have hcell : ∀ j, j < n * 144 → (((w.alloc (.cells C 104)).alloc (.map #[] 0)).alloc (.cells #[.slice (some ⟨w.heap.size, 0, none⟩) n n, .map (some (w.heap.size + 1)), .bool false, .int .i64 (-1)] 67)).cell? ⟨w.heap.size, j, none⟩ = some (u8 0) := fun j hj => by
    rw [World.cell?_alloc_lt _ _ _ (by simp; omega), World.cell?_alloc_lt _ _ _ (by simp), World.cell?_alloc_mark]
    simpa using HC.out j hj
  have hfz : ∀ b o, w.heap.size ≤ b → (((w.alloc (.cells C 104)).alloc (.map #[] 0)).alloc (.cells #[.slice (some ⟨w.heap.size, 0, none⟩) n n, .map (some (w.heap.size + 1)), .bool false, .int .i64 (-1)] 67)).frozen? ⟨b, o, none⟩ = false := fun b o hb => by
    simp only [World.frozen?, World.alloc, Array.getElem?_push, Array.size_push]
    by_cases e1 : b = w.heap.size + 1 + 1
    · simp [e1]
    · by_cases e2 : b = w.heap.size + 1
      · simp [e2]
      · by_cases e3 : b = w.heap.size
        · simp [e3, show ¬ w.heap.size = w.heap.size + 1 + 1 by omega]
        · simp [e1, e2, e3, show ¬ b < w.heap.size by omega]
  exact { sec := by first | rfl | (rw [show w.heap.size + 1 + 1 = ((w.alloc (.cells C 104)).alloc (.map #[] 0)).heap.size from by simp, World.cell?_alloc_mark]; rfl)
          map := by first | rfl | (rw [show w.heap.size + 1 + 1 = ((w.alloc (.cells C 104)).alloc (.map #[] 0)).heap.size from by simp, World.cell?_alloc_mark]; rfl)
          dead := by first | rfl | (rw [show w.heap.size + 1 + 1 = ((w.alloc (.cells C 104)).alloc (.map #[] 0)).heap.size from by simp, World.cell?_alloc_mark]; rfl)
          fuse := by first | rfl | (rw [show w.heap.size + 1 + 1 = ((w.alloc (.cells C 104)).alloc (.map #[] 0)).heap.size from by simp, World.cell?_alloc_mark]; rfl)
          fz := fun o => hfz _ _ (by omega)
          ds := by omega
          dm := by omega
          sm := by omega
          lt := by simp; omega
          bytes := fun i hi => zero_range hcell i (by have : (i + 1) * 144 ≤ n * 144 := Nat.mul_le_mul_right _ hi; omega)
          there := fun j hj => ⟨by rw [Nat.zero_add, hcell j hj]; rfl, hfz _ _ (Nat.le_refl _)⟩
          pend := by
            have := mapis_made (w.alloc (.cells C 104))
            rw [show (w.alloc (.cells C 104)).heap.size = w.heap.size + 1 from by simp] at this
            exact this.of_block (Below.heap_alloc _ _ _ (by simp))
          wf := M.fresh_wf n
          n512 := Hn.out }

end Go.Proofs.YtofhijnfbilieaaGreat
namespace Go.Proofs.YtofhijnfbilieaaGreat
open Go.RowKit Go.Maps
set_option linter.unusedVariables false
set_option linter.unusedSimpArgs false
set_option maxRecDepth 20000

variable {dB sB mB n : Nat} {d : M.Dv}

theorem reach_bounds {i : Int} (h : M.reach n d i = 0) : 0 ≤ i ∧ i < (n : Int) ∧ d.dead = false := by
  unfold M.reach at h
  cases hd : d.dead with
  | true => rw [hd] at h; simp at h
  | false =>
    by_cases hc : i < 0 ∨ (n : Int) ≤ i
    · rw [hd] at h; simp [hc] at h
    · exact ⟨by omega, by omega, rfl⟩

set_option maxHeartbeats 1000000 in
theorem write_any (w : World) (h : DevAt w dB sB mB n d) (i : Int) (hi1 : -9223372036854775808 ≤ i) (hi2 : i ≤ 9223372036854775807) (aB : Option Addr) (m c : Nat) (l : List UInt8) (hr : Row w aB m c (u8s l)) (hnb : u8s l = [] ∨ ∀ b off, aB = some ⟨b, off, none⟩ → b ∉ [dB]) :
    Calls Tryz.prog 17 #[.pointer (some ⟨dB, 0, none⟩), .int .i64 i, .slice aB m c] w fun e w' => e = .returned (.int .i64 (M.writeE n d i l)) ∧ DevAt w' dB sB mB n (M.writeD n d i l) ∧ But [dB, mB] w w' := by
  have hml : m = l.length := by rw [← hr.1, u8s_length]
  have HR := Lib.hid (reach_any w h i hi1 hi2)
  have HD := Lib.hid h
  unfold M.writeE M.writeD
  by_cases c1 : M.reach n d i = 0
  · rw [c1] at HR
    simp only [if_pos c1]
    obtain ⟨b1, b2, b3⟩ := reach_bounds c1
    have Hc1 := Lib.hid c1
    clear c1
    by_cases c2 : 144 < l.length
    · simp only [if_pos c2]
      have c2' : (144 : Int) < (m : Int) := by omega
      have Hml := Lib.hid hml
      clear hml c2 hr h
      go_enter Tryz.func17, Tryz.ntmps17
      go_wp2_with (go_at_call 41; refine HR.out.mono ?_; rintro e w' ⟨rfl, rfl⟩)
      go_ret
      exact ⟨rfl, HD.out, But.refl _ _⟩
    · simp only [if_neg c2]
      have c2' : ¬ (144 : Int) < (m : Int) := by omega
      have c3' : (m : Int) ≤ 144 := by omega
      have HA := Lib.hid (act_any w h)
      unfold M.actE at HA ⊢
      by_cases c4 : d.fuse = 0
      · simp only [if_pos c4] at HA ⊢
        have Hml := Lib.hid hml
        clear hml c2 hr h c4
        go_enter Tryz.func17, Tryz.ntmps17
        go_wp2_with (first
          | (go_at_call 41; refine HR.out.mono ?_; rintro e w' ⟨rfl, rfl⟩)
          | (go_at_call 42; refine HA.out.mono ?_; rintro e w1 ⟨rfl, hd1, hb1⟩; have HD1 := Lib.hid hd1; have HB1 := Lib.hid hb1; clear hd1 hb1))
        go_ret
        exact ⟨rfl, HD1.out, HB1.out.mono (by simp)⟩
      · simp only [if_neg c4] at HA ⊢
        have Hml := Lib.hid hml
        have HRow := Lib.hid hr
        clear hml c2 hr h c4
        go_enter Tryz.func17, Tryz.ntmps17
        go_wp2_with (first
          | (go_at_call 41; refine HR.out.mono ?_; rintro e w' ⟨rfl, rfl⟩)
          | (go_at_call 42; refine HA.out.mono ?_; rintro e w1 ⟨rfl, hd1, hb1⟩; have HD1 := Lib.hid hd1; have HB1 := Lib.hid hb1; clear hd1 hb1)
          | (refine wpList_alloc_sec rfl rfl ?_; intro w2 hw2
             obtain ⟨g1, g2, g3, g4⟩ := sec_new w1 hw2
             have HD2 := Lib.hid (HD1.out.but (g4 []) (by simp) (by simp) (by simp))
             have HB2 := Lib.hid (HB1.out.trans (g4 _))
             have HRow2 := Lib.hid (row_but HRow.out HB2.out hnb)
             have Hg := Lib.hid (And.intro g1 (And.intro g2 g3))
             have HHD := Lib.hid (And.intro HD1.out.ltD HD1.out.pend.lt)
             clear hw2 g1 g2 g3 g4)
          | (refine wpList_copy_row rfl (.tmp 24) (.tmp 25) rfl w1.heap.size 0 144 144 rfl aB m c rfl l HRow2.out (by omega) Hg.out.2.1 ?_))
        have hm1 := HD2.out.map
        have hrg : (w2.setCells w1.heap.size 0 (u8s l)).rangeAt w1.heap.size 0 (u8s (M.pad l)) := by
          have := range_over Hg.out.1 (by rw [M.zero_len]; exact Hg.out.2.1) (l := l) (by rw [M.zero_len]; have := Hml.out; omega)
          unfold M.zero at this
          rw [List.drop_replicate] at this
          exact this
        have hne : w1.heap.size ≠ dB := by have := Hg.out.2.2; have := HHD.out.1; omega
        have hm2 : (w2.setCells w1.heap.size 0 (u8s l)).cell? ⟨dB, 1, none⟩ = some (.map (some mB)) := by
          rw [World.cell?_of_block (w := w2) (a := ⟨dB, 1, none⟩) (heap_setCells _ _ _ _ _ (Ne.symm hne))]; exact hm1
        clear hm1 hne
        have hpl : (M.pad l).length = 144 := M.pad_len (by have := Hml.out; omega)
        have HPL := Lib.hid hpl
        have HRG := Lib.hid hrg
        clear hpl hrg
        have HB3 := Lib.hid (HB2.out.sets w1.heap.size 0 (u8s l) (.inr HB1.out.size))
        have HD3 : Hid (DevAt (w2.setCells w1.heap.size 0 (u8s l)) dB sB mB n (M.actD d)) := Lib.hid (HD2.out.but ((But.refl [w1.heap.size] w2).sets w1.heap.size 0 (u8s l) (.inl (by simp))) (by have := HHD.out.1; simp; omega) (by have := HD1.out.lt; simp; omega) (by have := HHD.out.2; simp; omega))
        generalize w2.setCells w1.heap.size 0 (u8s l) = w3 at *
        refine wp_region_still_tail 6 (by kernel_rfl) (by kernel_rfl) ?_
        simp only [List.take_succ_cons, List.take_zero, List.drop_succ_cons, List.drop_zero]
        iterate 5 still_step
        refine wpStill_load_sec rfl (.tmp 9) rfl w1.heap.size 0 rfl (M.pad l) HPL.out (rangeAt_block HRG.out rfl) ?_
        refine wpStill_nil ?_
        have HD4 := Lib.hid HD3.out.drew
        have HB4 := Lib.hid HB3.out.drew
        refine wpList_update_sec rfl (.tmp 30) (.tmp 31) (.tmp 32) rfl mB rfl i rfl (M.pad l) rfl (P := (M.actD d).P) HD4.out.pend n (fun k s hk => ⟨(HD4.out.wf.pend k s hk).1, (HD4.out.wf.pend k s hk).2.1⟩) (by have := HD4.out.n512; omega) hi1 hi2 HPL.out ?_
        intro w4 hm4 hb4
        have HD5 := Lib.hid (HD4.out.setMap hb4 hm4 (fun k s hk => by
          simp only [M.upd] at hk
          split at hk
          · rename_i e
            injection hk with hk
            subst hk
            subst e
            exact ⟨b1, b2, HPL.out⟩
          · exact HD4.out.wf.pend k s hk))
        have HB5 : Hid (But [dB, mB] w w4) := Lib.hid ((HB4.out.mono (by simp)).trans (hb4.mono (by simp)))
        clear hm4 hb4
        go_wp2
        go_ret
        refine ⟨rfl, ?_, ?_⟩
        · have := HD5.out
          rw [M.act_P] at this
          exact this
        · exact HB5.out
  · simp only [if_neg c1]
    generalize he : M.reach n d i = e0 at HR c1 ⊢
    have hne : (e0 != 0) = true := by simpa using c1
    have hne2 : (e0 == 0) = false := by simpa using c1
    have He := Lib.hid he
    clear he c1 hr h hml
    go_enter Tryz.func17, Tryz.ntmps17
    go_wp2_with (go_at_call 41; refine HR.out.mono ?_; rintro e w' ⟨rfl, rfl⟩)
    go_ret
    exact ⟨rfl, HD.out, But.refl _ _⟩

/-- what a sector reads as -/
def M.seen (d : M.Dv) (i : Nat) : List UInt8 := (d.P i).getD (d.S i)

set_option maxHeartbeats 1000000 in
theorem read_no (w : World) (h : DevAt w dB sB mB n d) (i : Int) (hi1 : -9223372036854775808 ≤ i) (hi2 : i ≤ 9223372036854775807) (hr : M.reach n d i ≠ 0) :
    Calls Tryz.prog 23 #[.pointer (some ⟨dB, 0, none⟩), .int .i64 i] w fun e w' => e = .returned (.tuple #[.slice none 0 0, .int .i64 (M.reach n d i)]) ∧ w = w' := by
  have HR := Lib.hid (reach_any w h i hi1 hi2)
  generalize he : M.reach n d i = e0 at HR hr ⊢
  have hne : (e0 != 0) = true := by simpa using hr
  have hne2 : (e0 == 0) = false := by simpa using hr
  have He := Lib.hid he
  clear he hr h
  go_enter Tryz.func23, Tryz.ntmps23
  go_wp2_with (go_at_call 41; refine HR.out.mono ?_; rintro e w' ⟨rfl, rfl⟩)
  go_ret2
  exact ⟨rfl, rfl⟩

set_option maxHeartbeats 1000000 in
/-- a sector that is there is read into 144 bytes of its own -/
theorem read_yes (w : World) (h : DevAt w dB sB mB n d) (i : Nat) (hr : M.reach n d i = 0) :
    Calls Tryz.prog 23 #[.pointer (some ⟨dB, 0, none⟩), .int .i64 i] w fun e w' => ∃ b, e = .returned (.tuple #[.slice (some ⟨b, 0, none⟩) 144 144, .int .i64 0]) ∧ w.heap.size ≤ b ∧ b < w'.heap.size ∧
      w'.rangeAt b 0 (u8s (M.seen d i)) ∧ w'.there b 0 144 ∧ Below w.heap.size w w' := by
  obtain ⟨b1, b2, b3⟩ := reach_bounds hr
  have hi512 := h.n512
  have HR := Lib.hid (reach_any w h i (by omega) (by omega))
  rw [hr] at HR
  have HD := Lib.hid h
  have hmap := h.map
  have hsec := h.sec
  obtain ⟨hl1, _⟩ := mapis_look h.pend (i := (i : Int)) (by omega) (by omega)
  have hlen : ((d.P i).getD M.zero).length = 144 := by
    cases hp : d.P i with
    | none => exact M.zero_len
    | some s => exact (h.wf.pend _ _ hp).2.2
  have Hlen := Lib.hid hlen
  have Hr := Lib.hid hr
  have hin : i < n := by omega
  clear hr h hlen
  unfold M.seen
  cases hp : d.P i with
  | none =>
    rw [hp] at hl1
    simp only [Option.getD_none, Option.isSome_none] at hl1 ⊢
    have HP := Lib.hid hp
    clear hp
    have HS := Lib.hid (HD.out.bytes i hin)
    have HSl := Lib.hid (HD.out.wf.len i)
    generalize d.S i = s at HS HSl ⊢
    go_enter Tryz.func23, Tryz.ntmps23
    go_wp2_with (first
      | (go_at_call 41; refine HR.out.mono ?_; rintro e w' ⟨rfl, rfl⟩)
      | (refine wpList_alloc_sec rfl rfl ?_; intro w2 hw2
         obtain ⟨g1, g2, g3, g4⟩ := sec_new w hw2
         have Hg := Lib.hid (And.intro g1 (And.intro g2 (And.intro g3 (g4 []))))
         clear hw2 g1 g2 g3 g4)
      | (refine wpList_store_sec rfl (.tmp 7) (.tmp 22) rfl w.heap.size 0 rfl M.zero rfl M.zero_len Hg.out.2.1 ?_
         have Hn := Lib.hid (World.there_setCells Hg.out.2.1 w.heap.size 0 (u8s M.zero))
         have hb3 := (Hg.out.2.2.2.mono (m := [w.heap.size]) (by simp)).sets w.heap.size 0 (u8s M.zero) (.inl (by simp))
         have HB3 := Lib.hid hb3
         have hsec3 : (w2.setCells w.heap.size 0 (u8s M.zero)).cell? ⟨dB, 0, none⟩ = some (.slice (some ⟨sB, 0, none⟩) n n) := by
           rw [hb3.cell HD.out.ltD (by have := HD.out.ltD; simp; omega)]; exact hsec
         have Hz3 := Lib.hid (show (w2.setCells w.heap.size 0 (u8s M.zero)).heap.size = w.heap.size + 1 by rw [size_setCells]; exact Hg.out.2.2.1)
         clear hb3
         generalize w2.setCells w.heap.size 0 (u8s M.zero) = w3 at *)
      | (refine wpList_load_sec rfl (.tmp 31) rfl sB (i * 144) rfl s HSl.out (rangeAt_block HS.out (HB3.out.block _ HD.out.lt (by have := HD.out.lt; simp; omega))) ?_)
      | (refine wpList_store_sec rfl (.tmp 7) (.tmp 32) rfl w.heap.size 0 rfl s rfl HSl.out Hn.out ?_))
    go_ret2
    have hb4 := HB3.out.sets w.heap.size 0 (u8s s) (.inl (by simp))
    refine ⟨w.heap.size, rfl, Nat.le_refl _, ?_, ?_, ?_, hb4.to_below (by simp) (Nat.le_refl _)⟩
    · rw [size_setCells, Hz3.out]; omega
    · have := World.rangeAt_setCells_same w3 w.heap.size 0 (u8s s) (by rw [u8s_length, HSl.out]; exact Hn.out)
      exact this
    · exact World.there_setCells Hn.out _ _ _
  | some s =>
    rw [hp] at hl1 Hlen
    simp only [Option.getD_some, Option.isSome_some] at hl1 Hlen ⊢
    have HP := Lib.hid hp
    clear hp
    go_enter Tryz.func23, Tryz.ntmps23
    go_wp2_with (first
      | (go_at_call 41; refine HR.out.mono ?_; rintro e w' ⟨rfl, rfl⟩)
      | (refine wpList_alloc_sec rfl rfl ?_; intro w2 hw2
         obtain ⟨g1, g2, g3, g4⟩ := sec_new w hw2
         have Hg := Lib.hid (And.intro g1 (And.intro g2 (And.intro g3 (g4 [w.heap.size]))))
         clear hw2 g1 g2 g3 g4)
      | (refine wpList_store_sec rfl (.tmp 7) (.tmp 22) rfl w.heap.size 0 rfl s rfl Hlen.out Hg.out.2.1 ?_))
    go_ret2
    have hb4 := Hg.out.2.2.2.sets w.heap.size 0 (u8s s) (.inl (by simp))
    refine ⟨w.heap.size, rfl, Nat.le_refl _, ?_, ?_, ?_, hb4.to_below (by simp) (Nat.le_refl _)⟩
    · rw [size_setCells, Hg.out.2.2.1]; omega
    · exact World.rangeAt_setCells_same w2 w.heap.size 0 (u8s s) (by rw [u8s_length, Hlen.out]; exact Hg.out.2.1)
    · exact World.there_setCells Hg.out.2.1 _ _ _
end Go.Proofs.YtofhijnfbilieaaGreat
namespace Go.Proofs.YtofhijnfbilieaaGreat
open Go.RowKit Go.Maps
set_option linter.unusedVariables false
set_option linter.unusedSimpArgs false
set_option maxRecDepth 20000

variable {dB sB mB n : Nat} {d : M.Dv}

theorem DevAt.same {w : World} {d' : M.Dv} (h : DevAt w dB sB mB n d) (h1 : ∀ i, d.S i = d'.S i) (h2 : ∀ i, d.P i = d'.P i) (h3 : d.dead = d'.dead) (h4 : d.fuse = d'.fuse) : DevAt w dB sB mB n d' := by
  obtain ⟨S, P, de, fu⟩ := d
  obtain ⟨S', P', de', fu'⟩ := d'
  obtain rfl : S = S' := funext h1
  obtain rfl : P = P' := funext h2
  obtain rfl : de = de' := h3
  obtain rfl : fu = fu' := h4
  exact h

/-- behind changes to blocks that are new -/
theorem But.trans' {l : List Nat} {a b c : World} {k : Nat} (h : But l a b) (h2 : But [k] b c) (hk : a.heap.size ≤ k) : But l a c :=
  ⟨h2.os.trans h.os, h2.tape.trans h.tape, h2.output.trans h.output, Nat.le_trans h.size h2.size, fun i hi hn => (h2.block i (Nat.lt_of_lt_of_le hi h.size) (by simp; omega)).trans (h.block i hi hn)⟩

theorem _root_.Go.World.ranges.but {w w' : World} {b r N : Nat} {D : DataW Unit} {left : Lit → Bool} {cnt : Nat} (h : w.ranges (H := Unit) Tryz.prog 3 secR b r N D left cnt) {l : List Nat} (hb : But l w w') (h1 : b ∉ l) (h2 : r ∉ l) : w'.ranges (H := Unit) Tryz.prog 3 secR b r N D left cnt := by
  have l1 := h.owns.lt
  have l2 := h.lt
  obtain ⟨es, clock, since, seen, c0, hb1, F, hs, hD, hr, rest⟩ := h
  exact ⟨es, clock, since, seen, c0, (hb.block b l1 h1).trans hb1, F, hs, hD, (hb.block r l2 h2).trans hr, rest⟩

/-- the sectors while a barrier is under way: those that are still to come are as they were -/
def M.part (d : M.Dv) (left : Lit → Bool) : Nat → M.Sec := fun j => if left (.int .i64 (j : Int)) then d.S j else M.sure d j

theorem part_start {D : DataW Unit} (h : Reads D d.P) (i : Nat) : d.S i = M.part d (has D) i := by
  unfold M.part M.sure
  cases hp : d.P i with
  | none => simp
  | some s => rw [h.2.1, hp]; simp
theorem part_end {left : Lit → Bool} (h : ∀ kl, left kl = false) (i : Nat) : M.part d left i = M.sure d i := by
  unfold M.part; rw [h]; rfl
theorem part_step {left : Lit → Bool} {j : Nat} {s : M.Sec} (hs : d.P j = some s) (i : Nat) : (if i = j then s else M.part d left i) = M.part d (fun z => left z && !z.sameKey (.int .i64 (j : Int))) i := by
  unfold M.part M.sure
  by_cases e : i = j
  · subst e
    rw [if_pos rfl, hs]
    have : (Lit.int .i64 (i : Int)).sameKey (.int .i64 (i : Int)) = true := by simp [Lit.sameKey]
    simp [this]
  · rw [if_neg e]
    have : (Lit.int .i64 (i : Int)).sameKey (.int .i64 (j : Int)) = false := sameKey_ne (by intro h; injection h with _ h; omega)
    simp [this]

set_option maxHeartbeats 2000000 in
theorem barrier_any (w : World) (h : DevAt w dB sB mB n d) :
    Calls Tryz.prog 76 #[.pointer (some ⟨dB, 0, none⟩)] w fun e w' => e = .returned (.int .i64 (M.barrierE d)) ∧ DevAt w' dB sB mB n (M.barrierD d) ∧ But [dB, sB, mB] w w' := by
  have HD := Lib.hid h
  have hdead := h.dead
  unfold M.barrierE M.barrierD
  cases hd : d.dead with
  | true =>
    rw [hd] at hdead
    have Hd := Lib.hid hd
    clear hd h
    go_enter Tryz.func76, Tryz.ntmps76
    go_wp2
    go_ret
    exact ⟨rfl, HD.out, But.refl _ _⟩
  | false =>
    rw [hd] at hdead
    have Hd := Lib.hid hd
    clear hd
    have HA := Lib.hid (act_any w h)
    unfold M.actE at HA ⊢
    simp only [Bool.false_eq_true, if_false]
    by_cases c4 : d.fuse = 0
    · simp only [if_pos c4] at HA ⊢
      clear h c4
      go_enter Tryz.func76, Tryz.ntmps76
      go_wp2_with (go_at_call 42; refine HA.out.mono ?_; rintro e w1 ⟨rfl, hd1, hb1⟩; have HD1 := Lib.hid hd1; have HB1 := Lib.hid hb1; clear hd1 hb1)
      go_ret
      exact ⟨rfl, HD1.out, HB1.out.mono (by simp)⟩
    · simp only [if_neg c4] at HA ⊢
      clear h c4
      have HSP := Lib.hid (And.intro (M.act_S d) (M.act_P d))
      generalize M.actD d = d1 at HA HSP ⊢
      go_enter Tryz.func76, Tryz.ntmps76
      go_wp2_with (first
        | (go_at_call 42; refine HA.out.mono ?_; rintro e w1 ⟨rfl, hd1, hb1⟩; have HD1 := Lib.hid hd1; have HB1 := Lib.hid hb1; have hmap := hd1.map; obtain ⟨N, D, hown, hrd⟩ := hd1.pend; have HO := Lib.hid hown; have HRd := Lib.hid hrd; clear hd1 hb1 hown hrd)
        | (at_range; refine wpList_range_own _ rfl (.tmp 18) 65 rfl 3 104 (int_keyed Tryz.underlying3) Tryz.underlying65 secR mB N D rfl HO.out ?_; intro w0 hrg0 hg0 hs0))
      go_frame
      have HB0 : Hid (But [dB, sB, mB] w w0) := Lib.hid ((HB1.out.mono (by simp)).grown hg0 (by simp))
      have HD0 : Hid (DevAt w0 dB sB mB n { d1 with S := M.part d1 (has D) }) := Lib.hid ((HD1.out.but ((But.refl [] _).grown hg0 (by simp)) (by simp) (by simp) (by simp)).same (part_start HRd.out) (fun _ => rfl) rfl rfl)
      have HRg0 := Lib.hid hrg0
      have Hr : Hid (w1.heap.size ≠ dB ∧ w1.heap.size ≠ sB ∧ w1.heap.size ≠ mB) := Lib.hid ⟨by have := HD1.out.ltD; omega, by have := HD1.out.lt; omega, by have := HD1.out.pend.lt; omega⟩
      have Hrw : Hid (w.heap.size ≤ w1.heap.size) := Lib.hid HB1.out.size
      generalize w1.heap.size = r at *
      clear hrg0 hg0 hs0 hmap hdead
      go_loopw [4, 5] (fun _ _ wr => ∃ (left : Lit → Bool) (cnt : Nat), wr.ranges (H := Unit) Tryz.prog 3 secR mB r N D left cnt ∧ DevAt wr dB sB mB n { d1 with S := M.part d1 left } ∧ But [dB, sB, mB] w wr) (fun _ _ wr => wr.rangeLeft mB r)
      case atStart => exact ⟨_, _, HRg0.out, HD0.out, HB0.out⟩
      case round =>
        obtain ⟨left, cnt, hrg, hdv, hbw⟩ := hrel
        obtain ⟨w9, hclr, hm9, hb9⟩ := mapis_clear hdv.pend 1
        have hc : ∀ ty, (Builtin.clear_ #[65] ty #[.map (some mB)]).run Tryz.prog wr = .ok (.tuple #[]) w9 := fun ty => hclr
        have hmap := hdv.map
        have HDv := Lib.hid hdv
        have HBw := Lib.hid hbw
        have HRg := Lib.hid hrg
        have H9 := Lib.hid (And.intro hm9 hb9)
        clear hclr hm9 hb9 hdv hbw hrg HA HB0 HD0 HRg0
        go_wp2_with (at_next; refine wpList_next_ranges _ rfl (.tmp 19) rfl 3 (int_keyed Tryz.underlying3) secR (Value.int .i64) (fun s : List UInt8 => .agg (u8s s).toArray) (fun key kl hk => by obtain ⟨x, hx, _⟩ := Maps.keyOf_i64 Tryz.underlying3 hk; exact ⟨x, hx⟩) (fun v y hv => by obtain ⟨s, _, hs, _⟩ := secR_inv hv; exact ⟨s, hs⟩) mB r N D left cnt rfl HRg.out ?_ ?_)
        · intro hc0 hl0
          have HL0 := Lib.hid hl0
          clear hc0 hl0
          go_wp2
          go_ret
          have hk := HDv.out.setMap H9.out.2 H9.out.1 (fun k s hk => by simp at hk)
          refine ⟨rfl, hk.same (fun i => ?_) (fun _ => rfl) rfl rfl, HBw.out.trans (H9.out.2.mono (by simp))⟩
          show M.part d1 left i = M.sure d i
          rw [part_end HL0.out]
          unfold M.sure
          rw [HSP.out.1, HSP.out.2]
        · intro x c kl yd yp w2 cnt2 hkey hlk hv hat hrg2 hlt hg2 hs2 hen
          obtain ⟨x', ex, rfl, hwx⟩ := Maps.keyOf_i64 Tryz.underlying3 hkey
          obtain rfl : x = x' := encZ_inj ex
          obtain ⟨s, hsl, hcs, hyy⟩ := secR_inv hv
          injection hyy with hy1 hy2
          subst hy1 hy2
          obtain rfl : c = s := u8s_inj (List.toArray_inj (Value.agg.inj hcs))
          have hPx : d1.P x = some c := by
            have hx1 := has_true_of_atKey hat
            rw [HRd.out.2.1] at hx1
            obtain ⟨t, ht⟩ := Option.isSome_iff_exists.1 hx1
            have h2 := HRd.out.2.2 x t ht (.lit (.string []))
            rw [hat] at h2
            injection h2 with h2
            injection h2 with h2
            rw [ht, h2]
          obtain ⟨hx0, hxn, _⟩ := HDv.out.wf.pend x c hPx
          obtain ⟨j, rfl⟩ : ∃ j : Nat, x = (j : Int) := ⟨x.toNat, by omega⟩
          have hjn : j < n := by omega
          have HD2 := Lib.hid (HDv.out.but ((But.refl [r] _).grown hg2 (by simp)) (by have := Hr.out.1; simp; omega) (by have := Hr.out.2.1; simp; omega) (by have := Hr.out.2.2; simp; omega))
          have HB2 : Hid (But [dB, sB, mB] w w2) := Lib.hid (HBw.out.grown hg2 (fun k hk => by injection hk with hk; subst hk; exact .inr Hrw.out))
          have HX := Lib.hid (And.intro hPx (And.intro hsl hjn))
          have HG2 := Lib.hid (And.intro hg2 (And.intro hrg2 hlt))
          clear ex hwx hcs hv hkey hlk hat hPx hsl hg2 hrg2 hlt hmap hc hs2
          go_wp2_with (first
            | (refine wpList_alloc_sec rfl rfl ?_; intro w3 hw3
               obtain ⟨g1, g2, g3, g4⟩ := sec_new w2 hw3
               have Hg := Lib.hid (And.intro g1 (And.intro g2 (And.intro g3 (g4 [w2.heap.size]))))
               clear hw3 g1 g2 g3 g4)
            | (refine wpList_store_sec rfl (.tmp 5) (.tmp 24) rfl w2.heap.size 0 rfl c rfl HX.out.2.1 Hg.out.2.1 ?_
               have hb4 := Hg.out.2.2.2.sets w2.heap.size 0 (u8s c) (.inl (by simp))
               have HRow := Lib.hid (World.rangeAt_setCells_same w3 w2.heap.size 0 (u8s c) (by rw [u8s_length, HX.out.2.1]; exact Hg.out.2.1))
               have HD4 := Lib.hid (HD2.out.but hb4 (by have := HD2.out.ltD; simp; omega) (by have := HD2.out.lt; simp; omega) (by have := HD2.out.pend.lt; simp; omega))
               have HB4 : Hid (But [dB, sB, mB] w (w3.setCells w2.heap.size 0 (u8s c))) := Lib.hid (HB2.out.trans' hb4 HB2.out.size)
               have HG4 := Lib.hid (HG2.out.2.1.but hb4 (by have := HG2.out.2.1.owns.lt; simp; omega) (by have := HG2.out.2.1.lt; simp; omega))
               clear hb4
               generalize w3.setCells w2.heap.size 0 (u8s c) = w4 at *))
          have hsec4 := HD4.out.sec
          have hj0 : (0 : Int) ≤ (j : Int) := by omega
          have hj1 : (j : Int) < (n : Int) := by omega
          refine wp_region_still_tail 7 (by kernel_rfl) (by kernel_rfl) ?_
          simp only [List.take_succ_cons, List.take_zero, List.drop_succ_cons, List.drop_zero]
          iterate 5 still_step
          refine wpStill_load_sec rfl (.tmp 5) rfl w2.heap.size 0 rfl c HX.out.2.1 (rangeAt_block HRow.out rfl) ?_
          still_step
          refine wpStill_nil ?_
          have HD5 := Lib.hid HD4.out.drew
          have HB5 := Lib.hid HB4.out.drew
          have HG5 := Lib.hid (HG4.out.but ((But.refl [] w4).drew) (by simp) (by simp))
          refine wpList_store_sec rfl (.tmp 31) (.tmp 30) rfl sB (j * 144) rfl c rfl HX.out.2.1 (fun k hk => by have := HD5.out.there (j * 144 + k) (by have : (j + 1) * 144 ≤ n * 144 := Nat.mul_le_mul_right _ HX.out.2.2; omega); simpa using this) ?_
          have HD6 := Lib.hid (HD5.out.setSec HX.out.2.2 (l := c) (by rw [HX.out.2.1]; omega))
          have HB6 := Lib.hid (HB5.out.sets sB (j * 144) (u8s c) (.inl (by simp)))
          have HG6 := Lib.hid (HG5.out.but ((But.refl [sB] _).sets sB (j * 144) (u8s c) (.inl (by simp))) (by have := HD5.out.sm; simp; omega) (by have := Hr.out.2.1; simpa using this))
          go_wp2
          go_roundw
          case rel =>
            refine ⟨_, ⟨cnt2, HG6.out⟩, HD6.out.same (fun i => ?_) (fun _ => rfl) rfl rfl, HB6.out⟩
            refine Eq.trans (b := if i = j then c else M.part d1 left i) ?_ (part_step HX.out.1 i)
            show (if i = j then c ++ (M.part d1 left i).drop c.length else M.part d1 left i) = _
            split
            · rw [List.drop_of_length_le (by rw [HX.out.2.1]; have := HDv.out.wf.len i; exact Nat.le_of_eq this), List.append_nil]
            · rfl
          case measure => rw [HG6.out.left_eq, HRg.out.left_eq]; exact HG2.out.2.2
end Go.Proofs.YtofhijnfbilieaaGreat
namespace Go.Proofs.YtofhijnfbilieaaGreat
open Go.RowKit Go.Maps
set_option linter.unusedVariables false
set_option linter.unusedSimpArgs false
set_option maxRecDepth 20000
attribute [local go_sem ↓] Go.wp_at_zero Go.wp_at_succ

variable {dB sB mB n : Nat} {d : M.Dv}

/-- what a crash leaves, as it lies in memory -/
def KRow (w : World) (a : Option Addr) (m c : Nat) (l : List (Int × Int)) : Prop :=
  l.length = m ∧ m ≤ c ∧ c ≤ maxLen ∧ (l = [] ∨ ∃ b off, a = some ⟨b, off, none⟩ ∧ b < w.heap.size ∧ ∀ i x, l[i]? = some x → w.cell? ⟨b, off + i * 2, none⟩ = some (.int .i64 x.1) ∧ w.cell? ⟨b, off + i * 2 + 1, none⟩ = some (.int .i64 x.2))
theorem krow_nil (w : World) : KRow w none 0 0 [] := ⟨rfl, Nat.le_refl _, by simp [maxLen], .inl rfl⟩
theorem krow_but {w w' : World} {l : List Nat} {a : Option Addr} {m c : Nat} {ks : List (Int × Int)} (h : KRow w a m c ks) (hb : But l w w') (hn : ks = [] ∨ ∀ b off, a = some ⟨b, off, none⟩ → b ∉ l) : KRow w' a m c ks := by
  obtain ⟨h1, h2, h3, h4⟩ := h
  refine ⟨h1, h2, h3, ?_⟩
  rcases h4 with h4 | ⟨b, off, ha, hlt, hc⟩
  · exact .inl h4
  · rcases hn with hn | hn
    · exact .inl hn
    · exact .inr ⟨b, off, ha, Nat.lt_of_lt_of_le hlt hb.size, fun i x hi => by rw [hb.cell hlt (hn b off ha), hb.cell hlt (hn b off ha)]; exact hc i x hi⟩
theorem krow_old {w : World} {a : Option Addr} {m c : Nat} {ks : List (Int × Int)} (h : KRow w a m c ks) {l : List Nat} (hl : ∀ x ∈ l, w.heap.size ≤ x) : ks = [] ∨ ∀ b off, a = some ⟨b, off, none⟩ → b ∉ l := by
  obtain ⟨h1, h2, h3, h4⟩ := h
  rcases h4 with h4 | ⟨b, off, rfl, hlt, hc⟩
  · exact .inl h4
  · refine .inr fun b' off' e hm => ?_
    injection e with e
    injection e with e1 e2
    have := hl _ hm
    omega

/-- a row of the call's own, from block B on, as a row that is read -/
theorem own_row {e : TypeId} {w : World} {B : Nat} {v : Value} {n : Nat} {vs : List Value} (h : w.ownsRow B e 1 v n vs) (hl : vs.length = n) : ∃ a cap, v = .slice a n cap ∧ Row w a n cap vs ∧ ∀ b off, a = some ⟨b, off, none⟩ → B ≤ b ∧ off = 0 := by
  rcases h.2 with ⟨rfl, h'⟩ | ⟨g, c, cur, rfl, hB, hh, hn, hm, hs, ht⟩
  · subst h'
    exact ⟨none, 0, rfl, ⟨hl, Nat.le_refl _, by simp [maxLen], .inl (List.eq_nil_of_length_eq_zero hl)⟩, by simp⟩
  · refine ⟨some ⟨g, 0, none⟩, c, rfl, ⟨hl, hn, hm, .inr ⟨g, 0, rfl, (h.lt g rfl).2, fun i hi => ?_⟩⟩, fun b off hb => ?_⟩
    · rw [Nat.zero_add]; exact World.ownsRow.cellAt h i (by omega)
    · injection hb with hb
      injection hb with hb1 hb2
      omega

theorem step_copy_row {ops : Array Oper} {o : Oper} {a : Act} {w : World} {K : Act → World → Prop} {Q : Exit → Act → World → Prop} {E : Prop}
    (hg : o.guard = none) (x y : Operand) (ho : o.op = Op.call { callee := Callee.builtin Builtin.copy, args := #[x, y], argTypes := #[50, 50] })
    (b off n c : Nat) (hx : a.eval x = .slice (some ⟨b, off, none⟩) n c) (A : Option Addr) (m cc : Nat) (hy : a.eval y = .slice A m cc) (l : List UInt8) (hr : Row w A m cc (u8s l)) (hm : m ≤ n) (ht : w.there b off n)
    (h : K (a.put o.dst (.int .i64 m)) (w.setCells b off (u8s l))) : if Region.wanted o (yielded ops a.tmps) = true then Oper.wp Tryz.prog o a w K Q else E := by
  have hw : Region.wanted o (yielded ops a.tmps) = true := by simp [Region.wanted, hg]
  rw [if_pos hw]
  obtain ⟨h1, h2, h3, h4⟩ := hr
  have hrun : ∀ ty, (Builtin.copy_ #[50, 50] ty #[.slice (some ⟨b, off, none⟩) n c, .slice A m cc]).run Tryz.prog w = .ok (.int .i64 m) (w.setCells b off (u8s l)) := by
    intro ty
    have hi : (Tryz.prog.info? 5).map (·.size) = some 1 := by kernel_rfl
    rcases h4 with h4 | ⟨b', off', rfl, hlt, hc⟩
    · have h0 : m = 0 := by rw [← h1, h4]; rfl
      subst h0
      rw [h4, run_copy_none (P := Tryz.prog) w 50 50 ty 5 _ _ _ _ _ _ Tryz.underlying50 hi (by simp)]
      simp [goInt, World.setCells]
    · rw [run_copy_cells (P := Tryz.prog) w 50 50 ty 5 b off n c ⟨b', off', none⟩ m cc (u8s l) Tryz.underlying50 hi (by rw [h1]; exact (Nat.min_eq_left hm).symm)
        (fun j v hv => by
          have hj : j < m := by have := (List.getElem?_eq_some_iff.1 hv).1; omega
          rw [Addr.add_mid, hc j hj, hv])
        (fun j hj => (ht j (by omega)).1) (fun j hj => (ht j (by omega)).2) (u8s_one l), h1]
      simp [goInt]
  unfold Oper.wp
  simp [execOp, ho, resolve, invoke, builtin, hx, hy, hrun, Result.andThen]
  exact h

/-- since the region began only new blocks were made, and block b written -/
def KB (b : Nat) (w0 : World) (w : World) : Prop := But [b] w0 w

theorem crash_src {w4 w5 : World} {H q : Nat} {s : M.Sec} (hr : w4.rangeAt H 0 (u8s s)) (hkb : But [] w4 w5) (hlt : H < w4.heap.size) (hq : q ≤ 144) (hsl : s.length = 144) : Row w5 (some ⟨H, 0, none⟩) q 144 (u8s (s.take q)) := by
  have h1 := rangeAt_block hr (hkb.block H hlt (by simp))
  have h2 := row_range h1 (Nat.lt_of_lt_of_le hlt hkb.size) (cap := 144) (by rw [u8s_length]; omega) (by simp [maxLen])
  have h3 := row_take h2 (k := q) (by rw [u8s_length]; omega)
  unfold u8s at h3 ⊢
  rw [← List.map_take] at h3
  exact h3
theorem crash_dst {w4 w5 : World} (hd : DevAt w4 dB sB mB n d) (hkb : But [] w4 w5) {j : Nat} (hj : j < n) : w5.there sB (j * 144) 144 := fun k hk => by
  have h1 := there_block hd.there (hkb.block sB hd.lt (by simp)) (j * 144 + k) (by have : (j + 1) * 144 ≤ n * 144 := Nat.mul_le_mul_right _ hj; omega)
  simpa using h1

set_option maxHeartbeats 2000000 in
theorem crash_any (w : World) (h : DevAt w dB sB mB n d) (aK : Option Addr) (mK cK : Nat) (ks : List (Int × Int)) (hk : KRow w aK mK cK ks) (hnb : ks = [] ∨ ∀ b off, aK = some ⟨b, off, none⟩ → b ∉ [dB, sB, mB]) :
    Calls Tryz.prog 12 #[.pointer (some ⟨dB, 0, none⟩), .slice aK mK cK] w fun e w' => e = .returned (.tuple #[]) ∧ DevAt w' dB sB mB n (M.crashD n d ks) ∧ But [dB, sB, mB] w w' := by
  have HD := Lib.hid h
  have HK := Lib.hid hk
  have HP := Lib.hid (pending_any w h)
  have HL : Hid ((M.pendL n d.P).length ≤ 512) := Lib.hid (Nat.le_trans (M.pendL_len n d.P) h.n512)
  have HM : Hid (∀ k, k ∈ M.pendL n d.P → ∃ j : Nat, k = (j : Int) ∧ j < n ∧ (d.P k).isSome = true) := Lib.hid (fun k hk => by
    have hs := (M.mem_pendL (n := n) (P := d.P) (fun k s hk => ⟨(h.wf.pend k s hk).1, (h.wf.pend k s hk).2.1⟩) k).1 hk
    obtain ⟨s, hs'⟩ := Option.isSome_iff_exists.1 hs
    have := h.wf.pend k s hs'
    exact ⟨k.toNat, by omega, by omega, hs⟩)
  unfold M.crashD
  generalize hpl : M.pendL n d.P = pl at HP HL HM ⊢
  have Hpl := Lib.hid hpl
  clear hpl h hk
  go_enter Tryz.func12, Tryz.ntmps12
  go_wp2_with (go_at_call 38
               refine HP.out.mono ?_
               rintro e w1 ⟨v, rfl, hrow, hb1⟩
               obtain ⟨aP, cP, rfl, hr1, hab⟩ := own_row hrow (by simp [ints])
               have HR1 := Lib.hid hr1
               have HB1 : Hid (But [dB, sB, mB] w w1) := Lib.hid ((But.refl _ _).below hb1 (Nat.le_refl _))
               have HD1 := Lib.hid (HD.out.but ((But.refl [] _).below hb1 (Nat.le_refl _)) (by simp) (by simp) (by simp))
               have HK1 := Lib.hid (krow_but HK.out ((But.refl [] _).below hb1 (Nat.le_refl _)) (.inr (by simp)))
               have HAB : Hid (∀ b off, aP = some ⟨b, off, none⟩ → b ≠ dB ∧ b ≠ sB ∧ b ≠ mB) := Lib.hid (fun b off e => by have := (hab b off e).1; have := HD.out.ltD; have := HD.out.lt; have := HD.out.pend.lt; omega)
               clear hrow hb1 hr1 hab)
  go_loopw [4, 5, 6, 10] (fun _ _ _ i wr => ∃ (k : Nat) (S : Nat → M.Sec), k ≤ pl.length ∧ k ≤ ks.length ∧ i = .int .i64 k ∧ DevAt wr dB sB mB n { d with S := S } ∧ But [dB, sB, mB] w1 wr ∧ But [dB, sB, mB] w wr ∧ M.crashS d.P S (pl.drop k) (ks.drop k) = M.crashS d.P d.S pl ks)
    (fun _ _ _ i _ => pl.length - (intOf i).toNat)
  case atStart => exact ⟨0, d.S, Nat.zero_le _, Nat.zero_le _, rfl, HD1.out, But.refl _ _, HB1.out, rfl⟩
  case round =>
    obtain ⟨k, S, hk, hkm, rfl, hdv, hbw, hb0, hS⟩ := hrel
    have HDv := Lib.hid hdv
    have HBw := Lib.hid hbw
    have HS := Lib.hid hS
    have HB0 := Lib.hid hb0
    have Hk := Lib.hid hk
    have Hkm := Lib.hid hkm
    have hml : mK = ks.length := HK.out.1.symm
    have Hml := Lib.hid hml
    have hkmI : (k : Int) ≤ (mK : Int) := by omega
    have HRS := Lib.hid (restart_any wr HDv.out)
    clear hml hkm
    clear hdv hbw hS hb0
    have hk0 : (0 : Int) ≤ (k : Int) := by omega
    have hk512 : (k : Int) ≤ 512 := by have := HL.out; omega
    by_cases hend : k = pl.length
    · have hge : ¬ ((k : Int) < (pl.length : Int)) := by omega
      have HE : Hid (S = M.crashS d.P d.S pl ks) := by
        have := HS.out
        rw [hend, List.drop_length] at this
        show S = _
        rw [← this]
        simp [M.crashS]
      clear hend hk
      go_wp2_with (go_at_call 40; refine HRS.out.mono ?_; rintro e w2 ⟨rfl, hd2, hb2⟩; have HD2 := Lib.hid hd2; have HB2 := Lib.hid hb2; clear hd2 hb2)
      go_end0
      refine ⟨rfl, ?_, HB0.out.trans (HB2.out.mono (by simp))⟩
      rw [← HE.out]
      exact HD2.out
    · have hlt : (k : Int) < (pl.length : Int) := by omega
      have hlen : (ints pl).length = pl.length := by simp [ints]
      have hkl : k < pl.length := by omega
      obtain ⟨j, hj, hjn, hjs⟩ := HM.out pl[k] (List.getElem_mem hkl)
      have hRow := row_but HR1.out HBw.out (.inr fun b off e => by have := HAB.out b off e; simpa using this)
      obtain ⟨bP, oP, rfl, hcP⟩ : ∃ bP oP, aP = some ⟨bP, oP, none⟩ ∧ wr.cell? ⟨bP, oP + k, none⟩ = some (.int .i64 (j : Int)) := by
        rcases hRow.2.2.2 with h0 | ⟨b, off, e, hb, hc⟩
        · rw [h0] at hlen; simp at hlen; omega
        · refine ⟨b, off, e, ?_⟩
          rw [hc k hkl]
          simp [ints, hkl, hj]
      clear hRow hlen
      have Hj := Lib.hid (And.intro hj (And.intro hjn hjs))
      clear hj hjs hend hk
      by_cases hbr : k = mK
      · have hbrI : (k : Int) = (mK : Int) := by omega
        have HE : Hid (S = M.crashS d.P d.S pl ks) := by
          have := HS.out
          rw [show ks.drop k = [] from List.drop_of_length_le (by have := Hml.out; omega)] at this
          show S = _
          rw [← this]
          cases pl.drop k <;> simp [M.crashS]
        have hbeq : ((k : Int) == (mK : Int)) = true := by simpa using hbrI
        clear hbr hbrI
        go_wp2_with (go_at_call 40; refine HRS.out.mono ?_; rintro e w2 ⟨rfl, hd2, hb2⟩; have HD2 := Lib.hid hd2; have HB2 := Lib.hid hb2; clear hd2 hb2)
        go_end0
        refine ⟨rfl, ?_, HB0.out.trans (HB2.out.mono (by simp))⟩
        rw [← HE.out]
        exact HD2.out
      · have hbeq : ((k : Int) == (mK : Int)) = false := by
          have : ¬ ((k : Int) = (mK : Int)) := by omega
          simpa using this
        have hkm : (k : Int) < (mK : Int) := by omega
        obtain ⟨s, hs⟩ := Option.isSome_iff_exists.1 Hj.out.2.2
        have hs : d.P (j : Int) = some s := by rw [← Hj.out.1]; exact hs
        have hsl : s.length = 144 := (HD.out.wf.pend _ _ hs).2.2
        have hn512 := HDv.out.n512
        have hlk0 := (mapis_look HDv.out.pend (i := (j : Int)) (by omega) (by omega)).2
        have hlk : (Instr.lookup 65 (.map (some mB)) (.int .i64 (j : Int)) false).run Tryz.prog wr = .ok (.agg (u8s s).toArray) wr := by
          have e : ({ d with S := S } : M.Dv).P (j : Int) = some s := hs
          rw [e] at hlk0
          exact hlk0
        clear hlk0
        have hmap := HDv.out.map
        obtain ⟨x, hx⟩ : ∃ x, ks[k]? = some x := ⟨ks[k]'(by have := Hml.out; omega), List.getElem?_eq_getElem _⟩
        obtain ⟨bK, oK, rfl, hKs, hKlt, hKc⟩ : ∃ bK oK, aK = some ⟨bK, oK, none⟩ ∧ bK ≠ sB ∧ bK < wr.heap.size ∧ (wr.cell? ⟨bK, oK + k * 2, none⟩ = some (.int .i64 x.1) ∧ wr.cell? ⟨bK, oK + k * 2 + 1, none⟩ = some (.int .i64 x.2)) := by
          have hK1 := krow_but HK1.out HBw.out hnb
          rcases hK1.2.2.2 with h0 | ⟨b, off, e, hb, hc⟩
          · subst h0; simp at hx
          · rcases hnb with h0 | hn
            · subst h0; simp at hx
            · exact ⟨b, off, e, by have := hn b off e; simp at this; omega, hb, hc k x hx⟩
        have HX := Lib.hid (And.intro hs (And.intro hsl (And.intro hx (And.intro hKlt hKc))))
        clear hbr hs hsl hx hKlt hKc
        go_wp2_with (first
          | (refine wpList_alloc_sec rfl rfl ?_; intro w3 hw3
             obtain ⟨g1, g2, g3, g4⟩ := sec_new wr hw3
             have Hg := Lib.hid (And.intro g1 (And.intro g2 (And.intro g3 (g4 [wr.heap.size]))))
             clear hw3 g1 g2 g3 g4)
          | (refine wpList_store_sec rfl (.tmp 6) (.tmp 24) rfl wr.heap.size 0 rfl s rfl HX.out.2.1 Hg.out.2.1 ?_
             have hb4 := Hg.out.2.2.2.sets wr.heap.size 0 (u8s s) (.inl (by simp))
             have HRow := Lib.hid (World.rangeAt_setCells_same w3 wr.heap.size 0 (u8s s) (by rw [u8s_length, HX.out.2.1]; exact Hg.out.2.1))
             have HD4 := Lib.hid (HDv.out.but hb4 (by have := HDv.out.ltD; simp; omega) (by have := HDv.out.lt; simp; omega) (by have := HDv.out.pend.lt; simp; omega))
             have HB4 : Hid (But [dB, sB, mB] wr (w3.setCells wr.heap.size 0 (u8s s))) := Lib.hid ((But.refl _ _).trans' hb4 (Nat.le_refl _))
             have hk1 := (hb4.cell HX.out.2.2.2.1 (o := oK + k * 2) (by have := HX.out.2.2.2.1; simp; omega)).trans HX.out.2.2.2.2.1
             have hk2 := (hb4.cell HX.out.2.2.2.1 (o := oK + k * 2 + 1) (by have := HX.out.2.2.2.1; simp; omega)).trans HX.out.2.2.2.2.2
             have HZ := Lib.hid (show (w3.setCells wr.heap.size 0 (u8s s)).heap.size = wr.heap.size + 1 by rw [size_setCells]; exact Hg.out.2.2.1)
             clear hb4
             generalize w3.setCells wr.heap.size 0 (u8s s) = w4 at *))
        have hsec4 := HD4.out.sec
        have hj0 : (0 : Int) ≤ (j : Int) := by omega
        have hj1 : (j : Int) < (n : Int) := by omega
        have hq0 : (0 : Int) ≤ ((M.keptN x.1 x.2 : Nat) : Int) := by omega
        have hq1 : ((M.keptN x.1 x.2 : Nat) : Int) ≤ 144 := by have := M.keptN_le x.1 x.2; omega
        have HKS : Hid (∀ w', KB sB w4 w' → (w'.cell? ⟨dB, 0, none⟩ = some (.slice (some ⟨sB, 0, none⟩) n n) ∧ w'.cell? ⟨bK, oK + k * 2, none⟩ = some (.int .i64 x.1) ∧ w'.cell? ⟨bK, oK + k * 2 + 1, none⟩ = some (.int .i64 x.2) ∧ KB sB w4 w')) := Lib.hid (fun w' hkb =>
          ⟨(But.cell hkb HD4.out.ltD (by have := HD4.out.ds; simpa using this)).trans hsec4, (But.cell hkb (by have := HX.out.2.2.2.1; have := HZ.out; omega) (by simpa using hKs)).trans hk1, (But.cell hkb (by have := HX.out.2.2.2.1; have := HZ.out; omega) (by simpa using hKs)).trans hk2, hkb⟩)
        have HH : Hid (wr.heap.size < w4.heap.size) := Lib.hid (by have := HZ.out; omega)
        go_region_held_law (fun w' => w'.cell? ⟨dB, 0, none⟩ = some (.slice (some ⟨sB, 0, none⟩) n n) ∧ w'.cell? ⟨bK, oK + k * 2, none⟩ = some (.int .i64 x.1) ∧ w'.cell? ⟨bK, oK + k * 2 + 1, none⟩ = some (.int .i64 x.2) ∧ KB sB w4 w')
          (first
            | exact HKS.out _ (But.refl _ _)
            | exact HKS.out _ (But.drew (But.refl _ _))
            | exact HKS.out _ (But.below (But.drew (But.refl _ _)) hb5 (Nat.le_refl _))
            | exact HKS.out _ (But.sets (But.below (But.drew (But.refl _ _)) hb5 (Nat.le_refl _)) _ _ _ (Or.inl (by simp))))
          ((first
            | (refine step_copy_row (by rfl) (.tmp 31) (.tmp 37) (by rfl) sB (j * 144) 144 144 (by rfl) (some ⟨wr.heap.size, 0, none⟩) (M.keptN x.1 x.2) 144 (by rfl) (s.take (M.keptN x.1 x.2)) (crash_src HRow.out (But.below (But.drew (But.refl _ _)) hb5 (Nat.le_refl _)) HH.out (M.keptN_le _ _) HX.out.2.1) (M.keptN_le _ _) (crash_dst HD4.out (But.below (But.drew (But.refl _ _)) hb5 (Nat.le_refl _)) Hj.out.2.1) ?_)
            | (refine (kept_any _ x.1 x.2).mono ?_; rintro e w5 ⟨rfl, hb5⟩)))
        have hbut := But.below (But.drew (But.refl [] w4)) hb5 (Nat.le_refl _)
        have HD6 := Lib.hid ((HD4.out.but hbut (by simp) (by simp) (by simp)).setSec Hj.out.2.1 (l := s.take (M.keptN x.1 x.2)) (by rw [List.length_take, HX.out.2.1]; omega))
        have HB6 : Hid (But [dB, sB, mB] wr (w5.setCells sB (j * 144) (u8s (s.take (M.keptN x.1 x.2))))) := Lib.hid ((HB4.out.trans (hbut.mono (by simp))).sets _ _ _ (.inl (by simp)))
        have HN : Hid (M.crashS d.P (fun i => if (i : Int) = pl[k] then M.mix ((d.P pl[k]).getD (S i)) (S i) (M.keptN x.1 x.2) else S i) (pl.drop (k + 1)) (ks.drop (k + 1)) = M.crashS d.P d.S pl ks) := by
          have h1 := HS.out
          have hkk : k < ks.length := (List.getElem?_eq_some_iff.1 HX.out.2.2.1).1
          have hxx : ks[k] = x := (List.getElem?_eq_some_iff.1 HX.out.2.2.1).2
          rw [List.drop_eq_getElem_cons hkl, List.drop_eq_getElem_cons hkk, hxx] at h1
          simp only [M.crashS] at h1
          exact h1
        have hkk : k < ks.length := (List.getElem?_eq_some_iff.1 HX.out.2.2.1).1
        have HKK := Lib.hid hkk
        have HW := Lib.hid HDv.out.wf
        clear hbut hb5 hkk
        generalize w5.setCells sB (j * 144) (u8s (s.take (M.keptN x.1 x.2))) = w6 at *
        go_wp2
        go_roundw
        case rel =>
          refine ⟨k + 1, _, by omega, by have := HKK.out; omega, by go_num, HD6.out.same (d' := { d with S := fun i => if (i : Int) = pl[k] then M.mix ((d.P pl[k]).getD (S i)) (S i) (M.keptN x.1 x.2) else S i }) (fun i => ?_) (fun _ => rfl) rfl rfl, HBw.out.trans HB6.out, HB0.out.trans HB6.out, HN.out⟩
          show (if i = j then s.take (M.keptN x.1 x.2) ++ (S i).drop (s.take (M.keptN x.1 x.2)).length else S i) = (if (i : Int) = pl[k] then M.mix ((d.P pl[k]).getD (S i)) (S i) (M.keptN x.1 x.2) else S i)
          rw [Hj.out.1]
          by_cases e : i = j
          · subst e
            rw [if_pos rfl, if_pos rfl, HX.out.1]
            unfold M.mix
            rw [Option.getD_some, List.length_take, HX.out.2.1, Nat.min_eq_left (M.keptN_le _ _)]
          · rw [if_neg e, if_neg (by omega)]
        case measure => simp [intOf]; omega
end Go.Proofs.YtofhijnfbilieaaGreat
namespace Go.Proofs.YtofhijnfbilieaaGreat
open Go.RowKit Go.Maps
set_option linter.unusedVariables false
set_option linter.unusedSimpArgs false
set_option maxRecDepth 20000

def str (l : List UInt8) : ByteArray := ⟨l.toArray⟩

/-- bytes that lie in memory, as a string -/
theorem conv_row {w : World} {a : Option Addr} {m c : Nat} {l : List UInt8} (h : Row w a m c (u8s l)) : (convert 50 9 (.slice a m c)).run Tryz.prog w = .ok (.string (str l)) w := by
  obtain ⟨h1, h2, h3, h4⟩ := h
  have hl : l.length = m := by rw [← h1, u8s_length]
  subst hl
  cases a with
  | none =>
    rcases h4 with h4 | ⟨b, off, e, _⟩
    · have : l = [] := by simpa [u8s] using h4
      subst this
      rw [run_convert_bytes_string w 50 9 5 none _ c Tryz.underlying50 Tryz.underlying5 Tryz.underlying9]
      simp [Conv.bytesToString, str]
      rfl
    · cases e
  | some x =>
    refine run_convert_bytes_back w 50 9 5 x c l Tryz.underlying50 Tryz.underlying5 Tryz.underlying9 fun j hj => ?_
    rcases h4 with h4 | ⟨b, off, e, _, hc⟩
    · have : l = [] := by simpa [u8s] using h4
      subst this
      simp at hj
    · injection e with e
      subst e
      rw [Addr.add_mid, hc j hj]
      simp [u8s, u8, hj]

/-- a row that has just been laid -/
theorem row_lit (w : World) (l : List UInt8) (fr : Nat × Nat) (h : l.length ≤ 1000) : Row (w.alloc (.cells (u8s l).toArray 5 fr)) (some ⟨w.heap.size, 0, none⟩) l.length l.length (u8s l) := by
  refine ⟨u8s_length l, Nat.le_refl _, by simp only [maxLen]; omega, .inr ⟨w.heap.size, 0, rfl, by simp, fun i hi => ?_⟩⟩
  rw [World.cell?_alloc_mark]
  simp

/-- no fuse, and not dead -/
def Free (d : M.Dv) : Prop := d.fuse = -1 ∧ d.dead = false

theorem Free.crash (n : Nat) (d : M.Dv) (l : List (Int × Int)) : Free (M.crashD n d l) := ⟨rfl, rfl⟩
theorem Free.fresh : Free M.fresh := ⟨rfl, rfl⟩
theorem Free.reach {d : M.Dv} (h : Free d) (n : Nat) (i : Int) : M.reach n d i = if i < 0 ∨ (n : Int) ≤ i then 2 else 0 := by
  unfold M.reach; rw [h.2]; simp
theorem Free.act {d : M.Dv} (h : Free d) : M.actE d = 0 ∧ M.actD d = d := by
  obtain ⟨h1, h2⟩ := h
  unfold M.actE M.actD
  rw [h1]
  exact ⟨by simp, by simp⟩
theorem Free.writeE {d : M.Dv} (h : Free d) (n : Nat) (i : Int) (b : List UInt8) : M.writeE n d i b = if i < 0 ∨ (n : Int) ≤ i then 2 else if 144 < b.length then 3 else 0 := by
  unfold M.writeE
  rw [h.reach, h.act.1]
  by_cases c : i < 0 ∨ (n : Int) ≤ i
  · simp [c]
  · simp [c]
theorem Free.writeD {d : M.Dv} (h : Free d) (n : Nat) (i : Int) (b : List UInt8) : M.writeD n d i b = if M.writeE n d i b = 0 then { d with P := M.upd d.P i (M.pad b) } else d := by
  rw [h.writeE]
  unfold M.writeD
  rw [h.reach, h.act.2, if_neg (show ¬ d.fuse = 0 by rw [h.1]; omega)]
  by_cases c : i < 0 ∨ (n : Int) ≤ i
  · simp [c]
  · by_cases c2 : 144 < b.length
    · simp [c, c2]
    · simp [c, c2]
theorem Free.write {d : M.Dv} (h : Free d) (n : Nat) (i : Int) (b : List UInt8) : Free (M.writeD n d i b) := by
  rw [h.writeD]; split <;> exact h
theorem Free.barrierD {d : M.Dv} (h : Free d) : M.barrierD d = { d with S := M.sure d, P := fun _ => none } := by
  unfold M.barrierD
  rw [h.act.2, if_neg (by rw [h.2]; simp), if_neg (by rw [h.1]; omega)]
theorem Free.barrier {d : M.Dv} (h : Free d) : Free (M.barrierD d) := by rw [h.barrierD]; exact h

theorem seen_write {d : M.Dv} (h : Free d) (n : Nat) {i : Nat} {j : Int} (hj : j ≠ (i : Int)) (b : List UInt8) : M.seen (M.writeD n d j b) i = M.seen d i := by
  rw [h.writeD]
  split
  · simp only [M.seen, M.upd]
    rw [if_neg (Ne.symm hj)]
  · rfl
theorem seen_write_same {d : M.Dv} (h : Free d) (n : Nat) {i : Nat} (b : List UInt8) (he : M.writeE n d i b = 0) : M.seen (M.writeD n d i b) i = M.pad b := by
  rw [h.writeD, if_pos he]
  simp [M.seen, M.upd]
theorem seen_barrier {d : M.Dv} (h : Free d) (i : Nat) : M.seen (M.barrierD d) i = M.seen d i := by
  rw [h.barrierD]
  rfl
theorem seen_len {n : Nat} {d : M.Dv} (h : M.Wf n d) (i : Nat) : (M.seen d i).length = 144 := M.sure_len h i

theorem pad_take {b : List UInt8} (h : b.length ≤ 144) : (M.pad b).take b.length = b := by
  unfold M.pad
  rw [List.take_append_of_le_length (Nat.le_refl _), List.take_length]
theorem pad_zero {b : List UInt8} {j : Nat} (h1 : b.length ≤ j) (h2 : j < 144) : (M.pad b)[j]? = some 0 := by
  unfold M.pad
  rw [List.getElem?_append_right h1, List.getElem?_replicate, if_pos (by omega)]

/-- a sector's byte in memory -/
theorem range_byte {w : World} {b j : Nat} {s : List UInt8} {c : UInt8} (h : w.rangeAt b 0 (u8s s)) (hj : s[j]? = some c) : w.cell? ⟨b, 0 + j, none⟩ = some (.int .u8 (c.toNat : Int)) := by
  have := h j (u8 c) (by simp [u8s, hj])
  exact this

/-- the first bytes of a sector as a string -/
theorem conv_take {w : World} {b k : Nat} {s : List UInt8} (h : w.rangeAt b 0 (u8s s)) (hb : b < w.heap.size) (hs : s.length = 144) (hk : k ≤ 144) : (convert 50 9 (.slice (some ⟨b, 0, none⟩) k 144)).run Tryz.prog w = .ok (.string (str (s.take k))) w := by
  have h1 := row_range h hb (cap := 144) (by rw [u8s_length]; omega) (by simp [maxLen])
  have h2 := row_take h1 (k := k) (by rw [u8s_length]; omega)
  unfold u8s at h2
  rw [← List.map_take] at h2
  exact conv_row h2
end Go.Proofs.YtofhijnfbilieaaGreat
