/-
  The map that a law keeps beside the cache, as a function of the block.
  CacheLives: plain mathematics.
  CacheAnew: the walk.
-/
import Derived.Test.YtmcalgnpinolmaaGreatQH
import Derived.Deep.DeepCutAuto
namespace Go.Proofs.YtmcalgnpinolmaaGreat
open Go.RowKit Go.Maps
set_option linter.unusedVariables false
set_option linter.unusedSimpArgs false
set_option maxRecDepth 20000
namespace Q
def En.code (e : En) : DataW Unit := .agg [.lit (.int .i64 e.b), .lit (.int .i64 e.ep), .lit (.int .i64 e.sq), .lit (.string e.data.data.toList), .lit (.bool e.dirty), .lit (.int .i64 e.cl), .lit (.int .i64 e.n)]
def noneV : Vm := fun _ => none

theorem En.val_inj {x y : En} (h : x.val = y.val) : x = y := by
  obtain ⟨b, ep, sq, data, dirty, cl, n⟩ := x
  obtain ⟨b', ep', sq', data', dirty', cl', n'⟩ := y
  simp [En.val] at h
  obtain ⟨rfl, rfl, rfl, rfl, rfl, rfl, rfl⟩ := h
  rfl
theorem En.code_inj {x y : En} (h : x.code = y.code) : x = y := by
  obtain ⟨b, ep, sq, data, dirty, cl, n⟩ := x
  obtain ⟨b', ep', sq', data', dirty', cl', n'⟩ := y
  simp [En.code] at h
  obtain ⟨rfl, rfl, rfl, h4, rfl, rfl, rfl⟩ := h
  obtain ⟨⟨l⟩⟩ := data
  obtain ⟨⟨l'⟩⟩ := data'
  simp at h4
  subst h4
  rfl

theorem ent_infoZ : (Tryz.prog.info? 37).map (·.zero) = some (some zeroE.val) := by kernel_rfl
theorem ent_zero (w : World) : (zeroValue 37).run Tryz.prog w = .ok zeroE.val w := by
  have h := ent_infoZ
  cases hi : Tryz.prog.info? 37 with
  | none => simp [hi] at h
  | some i =>
    simp only [hi, Option.map_some, Option.some.injEq] at h
    simp [zeroValue, typeInfo, hi, h]

open Classical in
noncomputable def entR (v : Value) : Option (DataW Unit × List MemPlace) :=
  if h : ∃ x : En, v = x.val then some (h.choose.code, []) else none
theorem entR_mk (x : En) : entR x.val = some (x.code, []) := by
  have hx : ∃ y : En, x.val = y.val := ⟨x, rfl⟩
  unfold entR
  rw [dif_pos hx]
  have e : x = hx.choose := En.val_inj hx.choose_spec
  exact congrArg (fun y => some (En.code y, ([] : List MemPlace))) e.symm
theorem entR_inv {v : Value} {y : DataW Unit × List MemPlace} (h : entR v = some y) : ∃ x : En, v = x.val ∧ y = (x.code, []) := by
  unfold entR at h
  split at h
  · rename_i hx
    injection h with h
    exact ⟨hx.choose, hx.choose_spec, h.symm⟩
  · cases h

def RdsE (D : DataW Unit) (E : Vm) : Prop := IsMap D ∧ (∀ k, has D (.int .i64 k) = (E k).isSome) ∧ ∀ k x, E k = some x → ∀ z, D.atKey (.int .i64 k) z = x.code
def MapE (w : World) (mb : Nat) (E : Vm) : Prop := ∃ N D, w.ownsMap (H := Unit) Tryz.prog 3 entR mb N D ∧ RdsE D E

theorem rdse_none : RdsE (.map []) noneV := ⟨isMap_empty, fun k => rfl, fun k s h => by cases h⟩
theorem rdse_put {D : DataW Unit} {E : Vm} (h : RdsE D E) {i : Int} (h1 : -9223372036854775808 ≤ i) (h2 : i ≤ 9223372036854775807) (x : En) : RdsE (D.put (.int .i64 i) x.code) (updV E i (some x)) := by
  obtain ⟨ha, hb, hc⟩ := h
  refine ⟨ha.put _ _, fun k => ?_, fun k t hk z => ?_⟩
  · by_cases e : k = i
    · subst e; simp [updV, has_put_same ha (is_key h1 h2)]
    · rw [has_put_other (fun e' => e (by injection e')), hb k]; simp [updV, e]
  · by_cases e : k = i
    · subst e
      simp only [updV, if_true, Option.some.injEq] at hk
      subst hk
      exact atKey_put_same ha (is_key h1 h2) _ _
    · rw [atKey_put_other (fun e' => e (by injection e'))]
      simp only [updV, if_neg e] at hk
      exact hc k t hk z
theorem rdse_del {D : DataW Unit} {E : Vm} (h : RdsE D E) (i : Int) : RdsE (D.del (.int .i64 i)) (updV E i none) := by
  obtain ⟨ha, hb, hc⟩ := h
  refine ⟨ha.del _, fun k => ?_, fun k t hk z => ?_⟩
  · by_cases e : k = i
    · subst e; simp [updV, has_del_same]
    · rw [has_del_other (fun e' => e (by injection e')), hb k]; simp [updV, e]
  · by_cases e : k = i
    · subst e; simp [updV] at hk
    · rw [atKey_del_other (fun e' => e (by injection e'))]
      simp only [updV, if_neg e] at hk
      exact hc k t hk z

theorem mape_made (w : World) : MapE (w.alloc (.map #[] 0)) w.heap.size noneV := ⟨0, _, World.ownsMap_made w _ _ _, rdse_none⟩
theorem MapE.lt {w : World} {mb : Nat} {E : Vm} (h : MapE w mb E) : mb < w.heap.size := by
  obtain ⟨N, D, h, _⟩ := h
  exact h.lt
theorem MapE.of_block {w w' : World} {mb : Nat} {E : Vm} (h : MapE w mb E) (hb : w'.heap[mb]? = w.heap[mb]?) : MapE w' mb E := by
  obtain ⟨N, D, ⟨es, clock, h1, h2⟩, h3⟩ := h
  exact ⟨N, D, ⟨es, clock, hb.trans h1, h2⟩, h3⟩
theorem MapE.but {w w' : World} {mb : Nat} {E : Vm} (h : MapE w mb E) {l : List Nat} (hb : But l w w') (hn : mb ∉ l) : MapE w' mb E := h.of_block (hb.block _ h.lt hn)

def keysE (nb : Nat) (E : Vm) : List Int := ((List.range nb).map Int.ofNat).filter fun k => (E k).isSome

theorem mem_keysE {nb : Nat} {E : Vm} (h : ∀ k x, E k = some x → 0 ≤ k ∧ k < (nb : Int)) (k : Int) : k ∈ keysE nb E ↔ (E k).isSome = true := by
  unfold keysE
  rw [List.mem_filter, List.mem_map]
  constructor
  · exact fun h => h.2
  · intro hk
    refine ⟨?_, hk⟩
    obtain ⟨s, hs⟩ := Option.isSome_iff_exists.1 hk
    have := h k s hs
    exact ⟨k.toNat, List.mem_range.2 (by omega), by show ((k.toNat : Nat) : Int) = k; omega⟩
theorem keysE_rising (nb : Nat) (E : Vm) : (keysE nb E).Pairwise (· < ·) := (M.range_rising nb).filter _
theorem keysE_succ (nb : Nat) (E : Vm) : keysE (nb + 1) E = keysE nb E ++ (if (E (nb : Int)).isSome then [(nb : Int)] else []) := by
  unfold keysE
  rw [List.range_succ, List.map_append, List.filter_append]
  congr 1
  simp only [List.map_cons, List.map_nil, List.filter_cons, List.filter_nil]
  rfl
theorem keysE_len (nb : Nat) (E : Vm) : (keysE nb E).length = num nb E := by
  unfold num
  induction nb with
  | zero => rfl
  | succ n ih =>
    rw [keysE_succ, List.length_append, ih]
    show _ = cnt n (fun b => (E b).isSome) + (if (E (n : Int)).isSome then 1 else 0)
    congr 1
    cases E (n : Int) <;> simp

theorem keysE_sorted {w : World} {mb N nb : Nat} {D : DataW Unit} {E : Vm} (hown : w.ownsMap (H := Unit) Tryz.prog 3 entR mb N D) (hr : RdsE D E) (hP : ∀ k s, E k = some s → 0 ≤ k ∧ k < (nb : Int)) :
    (intKeys D).mergeSort (fun x y => decide (x ≤ y)) = keysE nb E := by
  obtain ⟨es, rfl, hp, hk⟩ := hown.entries (int_keyed Tryz.underlying3)
  obtain ⟨es', e, hk'⟩ := hown.keysOf
  injection e with e
  subst e
  have hk2 : ∀ p ∈ es, ∃ x, p.1 = .int .i64 x := fun p hp' => by
    obtain ⟨v, hv⟩ := hk' p hp'
    obtain ⟨x, _, hx, _⟩ := Maps.keyOf_i64 Tryz.underlying3 hv
    exact ⟨x, hx⟩
  have hperm : (keysE nb E).Perm (intKeys (.map es)) := by
    refine perm_intKeys hp hk2 ?_ fun x => ?_
    · exact (keysE_rising nb E).imp fun h => by omega
    · rw [mem_keysE hP, hr.2.1]
  rw [← mergeSort_of_perm_i hperm]
  refine List.mergeSort_of_pairwise ?_
  exact (keysE_rising nb E).imp fun h => by simp; omega

theorem size_numE {w : World} {mb N nb : Nat} {D : DataW Unit} {E : Vm} (hown : w.ownsMap (H := Unit) Tryz.prog 3 entR mb N D) (hr : RdsE D E) (hP : ∀ k s, E k = some s → 0 ≤ k ∧ k < (nb : Int)) : Maps.size D = num nb E := by
  have h := congrArg List.length (keysE_sorted hown hr hP)
  rw [List.length_mergeSort, keysE_len] at h
  obtain ⟨es, rfl, _, _⟩ := hown.entries (int_keyed Tryz.underlying3)
  have h3 : (intKeys (.map es : DataW Unit)).length = es.length := by simp [intKeys]
  rw [size_eq]
  omega

theorem owne_bound {w : World} {mb N n : Nat} {D : DataW Unit} (hown : w.ownsMap (H := Unit) Tryz.prog 3 entR mb N D) (hn : Maps.size D ≤ n) : w.ownsMap (H := Unit) Tryz.prog 3 entR mb n D := by
  obtain ⟨es, clock, hb, F, _, rfl⟩ := hown
  refine ⟨es, clock, hb, F, ?_, rfl⟩
  simpa [Maps.size, length_sorted] using hn

theorem mape_look {w : World} {mb : Nat} {E : Vm} (h : MapE w mb E) {i : Int} (h1 : -9223372036854775808 ≤ i) (h2 : i ≤ 9223372036854775807) :
    (Instr.lookup 58 (.map (some mb)) (.int .i64 i) true).run Tryz.prog w = .ok (.tuple #[((E i).getD zeroE).val, .bool (E i).isSome]) w ∧
    (Instr.lookup 58 (.map (some mb)) (.int .i64 i) false).run Tryz.prog w = .ok ((E i).getD zeroE).val w := by
  obtain ⟨N, D, hown, hr⟩ := h
  have key : ∀ {v : Value} {ps : List MemPlace}, entR v = some (D.atKey (.int .i64 i) zeroE.code, ps) → v = ((E i).getD zeroE).val := by
    intro v ps hv
    obtain ⟨x, rfl, e⟩ := entR_inv hv
    simp only [Prod.mk.injEq] at e
    cases hp : E i with
    | none =>
      have : has D (.int .i64 i) = false := by rw [hr.2.1, hp]; rfl
      rw [atKey_of_not_has this] at e
      rw [← En.code_inj e.1]; rfl
    | some t =>
      rw [hr.2.2 i t hp] at e
      rw [← En.code_inj e.1]; rfl
  obtain ⟨v, ps, hrun, hv⟩ := hown.look_ok (int_keyed Tryz.underlying3) Tryz.underlying58 (ent_zero w) (entR_mk zeroE) (key_ok h1 h2)
  obtain ⟨v', ps', hrun', hv'⟩ := hown.lookup (int_keyed Tryz.underlying3) Tryz.underlying58 (ent_zero w) (entR_mk zeroE) (key_ok h1 h2)
  rw [key hv, hr.2.1] at hrun
  rw [key hv'] at hrun'
  exact ⟨hrun, hrun'⟩

theorem mape_store {w : World} {mb nb : Nat} {E : Vm} (h : MapE w mb E) (hP : ∀ k s, E k = some s → 0 ≤ k ∧ k < (nb : Int)) (hn : nb ≤ 1000000) {i : Int} (h1 : -9223372036854775808 ≤ i) (h2 : i ≤ 9223372036854775807) (x : En) :
    ∃ w', (Instr.mapUpdate 58 (.map (some mb)) (.int .i64 i) x.val).run Tryz.prog w = .ok () w' ∧ MapE w' mb (updV E i (some x)) ∧ But [mb] w w' := by
  obtain ⟨N, D, hown, hr⟩ := h
  have hsz := size_numE hown hr hP
  have hle : num nb E ≤ nb := cnt_le _ _
  obtain ⟨w', r1, r2, r3⟩ := (owne_bound hown (Nat.le_of_eq hsz)).update (int_keyed Tryz.underlying3) Tryz.underlying58 (by simp only [maxLen]; omega) (key_ok h1 h2) (entR_mk x)
  exact ⟨w', r1, ⟨_, _, r2, rdse_put hr h1 h2 x⟩, (But.refl _ _).grown r3 fun k hk => by injection hk with hk; subst hk; exact .inl (by simp)⟩

theorem mape_del {w : World} {mb : Nat} {E : Vm} (h : MapE w mb E) {i : Int} (h1 : -9223372036854775808 ≤ i) (h2 : i ≤ 9223372036854775807) (ty : TypeId) :
    ∃ w', (Builtin.delete_ #[58, 3] ty #[.map (some mb), .int .i64 i]).run Tryz.prog w = .ok (.tuple #[]) w' ∧ MapE w' mb (updV E i none) ∧ But [mb] w w' := by
  obtain ⟨N, D, hown, hr⟩ := h
  obtain ⟨w', r1, r2, r3⟩ := hown.drop (int_keyed Tryz.underlying3) Tryz.underlying58 (key_ok h1 h2) ty
  exact ⟨w', r1, ⟨_, _, r2, rdse_del hr i⟩, (But.refl _ _).grown r3.grown fun k hk => by injection hk with hk; subst hk; exact .inl (by simp)⟩

theorem mape_len {w : World} {mb nb : Nat} {E : Vm} (h : MapE w mb E) (hP : ∀ k s, E k = some s → 0 ≤ k ∧ k < (nb : Int)) (ty : TypeId) :
    (Builtin.len_ #[58] ty #[.map (some mb)]).run Tryz.prog w = .ok (.int .i64 (num nb E)) w := by
  obtain ⟨N, D, hown, hr⟩ := h
  rw [hown.len Tryz.underlying58 ty, size_numE hown hr hP]

theorem rangesE_but {w w' : World} {b r N : Nat} {D : DataW Unit} {left : Lit → Bool} {cnt : Nat} (h : w.ranges (H := Unit) Tryz.prog 3 entR b r N D left cnt) {l : List Nat} (hb : But l w w') (h1 : b ∉ l) (h2 : r ∉ l) : w'.ranges (H := Unit) Tryz.prog 3 entR b r N D left cnt := by
  have l1 := h.owns.lt
  have l2 := h.lt
  obtain ⟨es, clock, since, seen, c0, hb1, F, hs, hD, hr, rest⟩ := h
  exact ⟨es, clock, since, seen, c0, (hb.block b l1 h1).trans hb1, F, hs, hD, (hb.block r l2 h2).trans hr, rest⟩
theorem einv : ∀ v y, entR v = some y → ∃ c, v = En.val c := fun v y hv => by obtain ⟨s, hs, _⟩ := entR_inv hv; exact ⟨s, hs⟩

/-- an entry that has come out of the range -/
theorem come_ent {D : DataW Unit} {E : Vm} (hr : RdsE D E) {x : Int} {c : En} {kl : Lit} {y : DataW Unit × List MemPlace} (hkey : keyOf Tryz.prog 3 (.int .i64 x) = some kl) (hv : entR c.val = some y) (hat : ∀ zd, D.atKey kl zd = y.1) : kl = .int .i64 x ∧ E x = some c ∧ (Lit.int .i64 x).wf = true := by
  obtain ⟨x', ex, rfl, hwx⟩ := Maps.keyOf_i64 Tryz.underlying3 hkey
  obtain rfl : x = x' := encZ_inj ex
  obtain ⟨s, hcs, hyy⟩ := entR_inv hv
  obtain rfl : c = s := En.val_inj hcs
  refine ⟨rfl, ?_, hwx⟩
  have hx1 := has_true_of_atKey hat
  rw [hr.2.1] at hx1
  obtain ⟨t, ht⟩ := Option.isSome_iff_exists.1 hx1
  have h2 := hr.2.2 x t ht (.lit (.string []))
  rw [hat, hyy] at h2
  rw [ht, En.code_inj h2]
end Q
end Go.Proofs.YtmcalgnpinolmaaGreat
namespace Go.Proofs.YtmcalgnpinolmaaGreat
open Go.RowKit Go.Maps
set_option linter.unusedVariables false
set_option linter.unusedSimpArgs false
set_option maxRecDepth 20000
namespace Q
variable {w0 : World} {B : Bk} {G : Gm} {V V' : Vi} {K K' : Int}

def dirtyAt (E : Vm) (b : Int) : Bool := match E b with
  | some y => y.dirty
  | none => false
def dn (nb : Nat) (E : Vm) : Nat := cnt nb (dirtyAt E)
theorem cnt_lt {n : Nat} {f g : Int → Bool} {b : Int} (h0 : 0 ≤ b) (h1 : b < (n : Int)) (hf : f b = false) (hg : g b = true) (h : ∀ c, f c = true → g c = true) : cnt n f < cnt n g := by
  induction n with
  | zero => omega
  | succ n ih =>
    unfold cnt
    by_cases hb : b = (n : Int)
    · subst hb
      rw [hf, hg]
      have := cnt_mono (n := n) (f := f) (g := g) fun c _ _ hc => h c hc
      simp; omega
    · have := ih (by omega)
      have h2 := h (n : Int)
      cases hfn : f (n : Int) with
      | false => simp; omega
      | true => rw [h2 hfn]; simp; omega
theorem dn_le (nb : Nat) (E : Vm) : dn nb E ≤ num nb E := cnt_mono fun b _ _ h => by
  unfold dirtyAt at h
  cases hb : E b with
  | none => rw [hb] at h; cases h
  | some y => rfl
theorem dn_full {nb : Nat} {E : Vm} (h : lowest nb E = none) : dn nb E = num nb E := by
  refine cnt_congr fun b h0 h1 => ?_
  unfold dirtyAt
  cases hb : E b with
  | none => rfl
  | some y => exact lowest_none h y (mem_allV.2 ⟨b, h0, h1, hb⟩)
theorem dn_low {nb : Nat} {E : Vm} {z : En} (h : lowest nb E = some z) : dn nb E ≠ num nb E := by
  obtain ⟨h1, h2⟩ := lowest_mem h
  obtain ⟨b, hb0, hb1, hb⟩ := mem_allV.1 h1
  have : dn nb E < num nb E := cnt_lt hb0 hb1 (by unfold dirtyAt; rw [hb]; exact h2) (by rw [hb]; rfl) (fun c hc => by
    unfold dirtyAt at hc
    cases hc' : E c with
    | none => rw [hc'] at hc; cases hc
    | some y => rfl)
  omega

/-- the dirty ones that have come out of a range already -/
def dnl (nb : Nat) (E : Vm) (left : Lit → Bool) : Nat := cnt nb fun b => dirtyAt E b && !left (.int .i64 b)
theorem dnl_start {nb : Nat} {E : Vm} {left : Lit → Bool} (h : ∀ b y, E b = some y → left (.int .i64 b) = true) : dnl nb E left = 0 := by
  have : ∀ n, cnt n (fun b => dirtyAt E b && !left (.int .i64 b)) = 0 := by
    intro n
    induction n with
    | zero => rfl
    | succ n ih =>
      unfold cnt
      rw [ih]
      cases hb : E (n : Int) with
      | none => simp [dirtyAt, hb]
      | some y => simp [h _ y hb]
  exact this nb
theorem dnl_end {nb : Nat} {E : Vm} {left : Lit → Bool} (h : ∀ kl, left kl = false) : dnl nb E left = dn nb E := by
  unfold dnl dn
  exact cnt_congr fun b _ _ => by rw [h]; simp
theorem dnl_step {nb : Nat} {E : Vm} {left : Lit → Bool} {b : Int} {y : En} (hb : E b = some y) (h0 : 0 ≤ b) (h1 : b < (nb : Int)) (hl : left (.int .i64 b) = true) (hw : (Lit.int .i64 b).sameKey (.int .i64 b) = true) :
    dnl nb E (fun z => left z && !z.sameKey (.int .i64 b)) = dnl nb E left + (if y.dirty then 1 else 0) := by
  have hother : ∀ c, c ≠ b → (left (.int .i64 c) && !(Lit.int .i64 c).sameKey (.int .i64 b)) = left (.int .i64 c) := fun c hc => by
    rw [sameKey_ne (by intro h; injection h with _ h; exact hc h)]; simp
  cases hd : y.dirty with
  | true =>
    simp only [if_true]
    refine cnt_set h0 h1 (by rw [hl]; simp) ?_ fun c hc => ?_
    · simp only [hl, hw, dirtyAt, hb, hd]; rfl
    · simp only [hother c hc]
  | false =>
    simp only [Bool.false_eq_true, if_false, Nat.add_zero]
    refine cnt_congr fun c _ _ => ?_
    by_cases hc : c = b
    · subst hc; simp [dirtyAt, hb, hd]
    · simp only [hother c hc]

/-- what is kept after i writes -/
structure KOk (k : Kp) (i : Int) : Prop where
  v : (k.ep = 0 ∧ k.sq = 0) ∨ (k.ep = 1 ∧ k.sq ≤ i)
  a0 : k.t0 ≤ i
  a1 : k.t1 ≤ i
  a2 : k.t2 ≤ i
  a3 : k.t3 ≤ i
theorem KOk.none : KOk kp0 0 := ⟨.inl ⟨rfl, rfl⟩, Int.le_refl _, Int.le_refl _, Int.le_refl _, Int.le_refl _⟩
theorem KOk.mono {k : Kp} {i j : Int} (h : KOk k i) (hij : i ≤ j) : KOk k j := ⟨by have := h.v; omega, by have := h.a0; omega, by have := h.a1; omega, by have := h.a2; omega, by have := h.a3; omega⟩
theorem KOk.ord {k : Kp} {i : Int} (h : KOk k i) : 0 < ord 1 (i + 1) k.ep k.sq := by
  have hv := h.v
  unfold Q.ord
  by_cases h1 : (1 : Int) < k.ep
  · omega
  rw [if_neg h1]
  by_cases h2 : k.ep < 1
  · rw [if_pos h2]; omega
  rw [if_neg h2]
  have h3 : k.sq ≤ i := by omega
  rw [if_neg (by omega), if_pos (by omega)]; omega

def entL (b i q : Int) (D : ByteArray) (y : Bool) : En := ⟨b, 1, i + 1, D, y, q, i + 1⟩
theorem KOk.behind {k : Kp} {i b q : Int} {D : ByteArray} {y : Bool} (h : KOk k i) (hi : 0 ≤ i) (hq : 0 ≤ q ∧ q < 4) : KOk (behind k (entL b i q D y)) (i + 1) ∧ (Q.behind k (entL b i q D y)).ep = 1 ∧ (Q.behind k (entL b i q D y)).sq = i + 1 ∧ (Q.behind k (entL b i q D y)).get q = i + 1 := by
  obtain ⟨hv, h0, h1, h2, h3⟩ := h
  have hc : q = 0 ∨ q = 1 ∨ q = 2 ∨ q = 3 := by omega
  unfold Q.behind entL
  simp only
  rw [if_neg (by omega)]
  rcases hc with rfl | rfl | rfl | rfl
  all_goals
    simp (config := { decide := true }) only [Kp.set, Kp.get, if_true, if_false]
    refine ⟨⟨.inr ⟨rfl, Int.le_refl _⟩, ?_, ?_, ?_, ?_⟩, by first | rfl | trivial, by first | rfl | trivial, ?_⟩ <;> (try simp only) <;> omega
theorem entL_ok {b i q : Int} {D : ByteArray} {y : Bool} (hb : 0 ≤ b ∧ b < 32) (hi : 0 ≤ i ∧ i ≤ 1000) (hq : 0 ≤ q ∧ q < 4) (hD : D.size = 8) : checkE 32 (entL b i q D y) = 0 :=
  may_check ⟨hb.1, hb.2, by show (1 : Int) ≤ 1; omega, by show (1 : Int) ≤ _; omega, by show 1 ≤ i + 1; omega, by show i + 1 ≤ _; omega, hD, by show -1 ≤ q; omega, hq.2, by show 0 ≤ i + 1; omega, by show i + 1 ≤ _; omega⟩

theorem layV_e (x : En) : (layV V x).e = updV V.e x.b (some x) := rfl
theorem updV_at (E : Vm) (b : Int) (x : Option En) : updV E b x b = x := if_pos rfl
theorem updV_ne {E : Vm} {b c : Int} {x : Option En} (h : c ≠ b) : updV E b x c = E c := if_neg h
/-- a clean entry, in place of a dirty one -/
theorem clean_entL {E : Vm} {k : Kp} {b i q : Int} {D : ByteArray} (h : E b = some (entL b i q D true)) : cleanE ⟨E, k⟩ b 1 (i + 1) = 0 ∧ cleanVi ⟨E, k⟩ b 1 (i + 1) = ⟨updV E b (some (entL b i q D false)), k⟩ := by
  constructor
  · unfold cleanE; simp only [h]; exact if_pos ⟨rfl, rfl⟩
  · unfold cleanVi stepV; simp only [h]; rw [if_pos ⟨rfl, rfl⟩]; rfl
theorem updV_twice (E : Vm) (b : Int) (x y : Option En) : updV (updV E b x) b y = updV E b y := by
  funext c; unfold updV; split <;> rfl
end Q
end Go.Proofs.YtmcalgnpinolmaaGreat
namespace Go.Proofs.YtmcalgnpinolmaaGreat
open Go.RowKit Go.Maps
set_option linter.unusedVariables false
set_option linter.unusedSimpArgs false
set_option maxRecDepth 20000
namespace Q
variable {w0 : World} {B : Bk} {G : Gm} {V V' : Vi} {K K' : Int}

/-- a device on which such a cache is found -/
def Dm (w : World) (dB sB mB : Nat) (G : Gm) (V : Vi) (K : Int) : Prop := ∃ s : St, DevAt w dB sB mB G.n s.d ∧ Free s.d ∧ M.Good (M.seen s.d) s.K G.first G.N G.a G.b s.c s.L ∧ Geo G.n G.first G.N G.a G.b ∧ Hold G.nb G.N s.L s.E s.k ∧ vis s.E = V.e ∧ s.k = V.k ∧ s.K ≤ K ∧ s.L.rs.length ≤ G.N - 2
theorem Cs.dm {w : World} (h : Cs w B G V K) : Dm w B.dB B.sB B.mB G V K := by
  obtain ⟨s, h1, h2, h3, h4, h5⟩ := h
  exact ⟨s, h1.dv, h1.fr, h1.lg.gd, h1.lg.geo, h1.hd, h2, h3, h4, h5⟩
theorem Cs.sep {w : World} (h : Cs w B G V K) : Sep B := by obtain ⟨s, h1, _⟩ := h; exact h1.sp
theorem Dm.below {w w' : World} {dB sB mB : Nat} (h : Dm w dB sB mB G V K) (hb : Below w.heap.size w w') : Dm w' dB sB mB G V K := by
  obtain ⟨s, h1, h2⟩ := h
  exact ⟨s, h1.but (But.of_below hb) (by simp) (by simp) (by simp), h2⟩
theorem Dm.open {w : World} {dB sB mB : Nat} (h : Dm w dB sB mB G V K) (hK : K ≤ 900000000) (hnb1 : 1 ≤ G.nb) {x1 x2 x3 x4 x5 : Int} (e1 : x1 = (G.first : Int)) (e2 : x2 = (G.N : Int)) (e3 : x3 = (G.a : Int)) (e4 : x4 = (G.b : Int)) (e5 : x5 = (G.nb : Int)) :
    Calls Tryz.prog 17 #[.pointer (some ⟨dB, 0, none⟩), .int .i64 x1, .int .i64 x2, .int .i64 x3, .int .i64 x4, .int .i64 x5] w fun e w' => ∃ B2 : Bk, e = .returned (.tuple #[.pointer (some ⟨B2.qB, 0, none⟩), .int .i64 0]) ∧ Cs w' B2 G V (K + 1) ∧ Dm w' dB sB mB G V (K + 1) ∧ But [dB, sB, mB] w w' := by
  obtain ⟨s, h1, h2, h3, h4, h5, h6, h7, h8, h9⟩ := h
  refine (open_cs (V := V) (K' := K + 1) w h1 h2 h3 h4 h5 (by omega) (by omega) hnb1 h6 h7 h9 e1 e2 e3 e4 e5).mono ?_
  rintro e w' ⟨B2, rfl, rfl, rfl, rfl, g1, _, g2⟩
  exact ⟨B2, rfl, g1, g1.dm, g2⟩
theorem Ct.told {w : World} (h : Ct w B G V) {q : Nat} (hq : B.qB = q) : Calls Tryz.prog 13 #[.pointer (some ⟨q, 0, none⟩)] w fun e w' => ∃ a cap, e = .returned (.agg #[.slice a (num G.nb V.e) cap, .int .i64 V.k.ep, .int .i64 V.k.sq, .int .i64 V.k.t0, .int .i64 V.k.t1, .int .i64 V.k.t2, .int .i64 V.k.t3]) ∧ OwnE w.heap.size w' a cap (allV G.nb V.e) ∧ Below w.heap.size w w' := by
  subst hq; exact told_ct w h

set_option maxHeartbeats 8000000 in
theorem anew_any (x0 : Int) (a : Option Addr) (n c : Nat) (l : List Ac) (x2 : Int) (w : World) (f0 : (Lit.int .u8 x0).wf = true) (hA : Acts9 w a n c l) (f2 : (Lit.int .u8 x2).wf = true) :
    Calls Tryz.prog 6 #[.int .u8 x0, .slice a n c, .int .u8 x2] w fun e w' => e = .returned (.bool true) ∧ Below w.heap.size w w' := by
  have HA := Lib.hid (awake_any w)
  have HLO := Lib.hid (fun w1 hb => law_open w w1 hb x0 f0)
  have HW := Lib.hid hA
  have hnI : (n : Int) ≤ 9223372036854775807 := by have := hA.2.1; have := hA.2.2.1; unfold maxLen at this; omega
  obtain ⟨r6, hr6, hrm⟩ := u8_mod x2 6 (by decide) f2 (kI := 6) rfl
  have hr6I : (r6 : Int) < 6 := by omega
  have hr60 : (0 : Int) ≤ (r6 : Int) := by omega
  clear f0 hA f2 hr6
  go_enter Tryz.func6, Tryz.ntmps6
  go_wp2_with (first
    | (go_at_call 11; with_reducible refine HA.out.mono ?_; rintro e w1 ⟨rfl, hb1⟩; have HLO1 := Lib.hid (HLO.out w1 hb1); clear hb1)
    | (go_at_call 12; with_reducible refine HLO1.out.mono ?_; rintro e w2 ⟨B, N, h8, h37, hx, rfl, hR, _, _⟩
       have hNI : (N : Int) ≤ 37 := by omega
       have hN0 : (0 : Int) ≤ (N : Int) := by omega
       obtain ⟨G, hG⟩ : ∃ G : Gm, G = ⟨N + 2, 2, N, 0, 1, 32⟩ := ⟨_, rfl⟩
       rw [← hG] at hR
       have HR := Lib.hid hR
       have HGe : Hid ((2 : Int) = (G.first : Int) ∧ (N : Int) = (G.N : Int) ∧ (0 : Int) = (G.a : Int) ∧ (1 : Int) = (G.b : Int) ∧ (32 : Int) = (G.nb : Int) ∧ 1 ≤ G.nb) := Lib.hid (by subst hG; exact ⟨rfl, rfl, rfl, rfl, rfl, by simp⟩)
       clear h8 h37 hx hR hG))
  clear HLO HLO1 HA
  go_loopw [10] (fun i wr => ∃ (k : Nat) (B1 : Bk) (V : Vi), k ≤ n ∧ k ≤ 60 ∧ i = .int .i64 k ∧ B1.qB = B.qB ∧ B1.dB = B.dB ∧ Rq w wr B1 G V (2 + 2002 * (k : Int))) (fun i _ => 60 - (RowKit.intOf i).toNat)
  case atStart => exact ⟨0, B, _, by omega, by omega, rfl, rfl, rfl, HR.out.mono (by simp)⟩
  case round =>
    obtain ⟨k, B1, V, hkn, hk6, rfl, hq, hqd, hRq⟩ := hrel
    have HR1 := Lib.hid hRq
    have HQ := Lib.hid hq
    have HQd := Lib.hid hqd
    have hk0 : (0 : Int) ≤ (k : Int) := by omega
    have hways : (¬ (k : Int) < (n : Int) ∨ ((k : Int) < (n : Int) ∧ ¬ (k : Int) < 60)) ∨ ((k : Int) < (n : Int) ∧ (k : Int) < 60) := by omega
    clear hRq hq HR hqd
    rcases hways with hend | ⟨hlt, hlt6⟩
    · have hdm := HR1.out.cs.dm
      rw [HQd.out] at hdm
      have HDm : Hid (Dm wr B.dB B1.sB B1.mB G V (2 + 2002 * 60)) := Lib.hid (by
        obtain ⟨s, h1, h2, h3, h4, h5, h6, h7, h8, h9⟩ := hdm
        exact ⟨s, h1, h2, h3, h4, h5, h6, h7, by omega, h9⟩)
      have HCt := Lib.hid HR1.out.cs.ct
      have HOd : Hid ((∀ y ∈ [B.dB, B1.sB, B1.mB], w.heap.size ≤ y) ∧ B1.qB ∉ [B.dB, B1.sB, B1.mB] ∧ B1.mE ∉ [B.dB, B1.sB, B1.mB]) := Lib.hid (by
        have h1 := HR1.out.od
        have h2 := HR1.out.cs.sep.q
        have h3 := HR1.out.cs.sep.m
        simp only [Bk.l, List.mem_cons, List.not_mem_nil, or_false, forall_eq_or_imp, forall_eq] at h1
        rw [HQd.out] at h1 h2 h3
        refine ⟨by simp; omega, by simp; omega, by simp; omega⟩)
      have HBe := Lib.hid HR1.out.be
      clear hdm hkn hk6
      rcases hend with hend | ⟨hend, hend6⟩
      all_goals
        go_wp2_with fail
        go_loopw [11] (fun i wz => ∃ j : Nat, j ≤ 6 ∧ i = .int .i64 j ∧ Dm wz B.dB B1.sB B1.mB G V (2 + 2002 * 60 + (j : Int)) ∧ Ct wz B1 G V ∧ Below w.heap.size w wz) (fun i _ => 7 - (RowKit.intOf i).toNat)
        case atStart => exact ⟨0, by omega, rfl, by simpa using HDm.out, HCt.out, HBe.out⟩
        case round =>
          obtain ⟨j, hj, rfl, hdm, hct, hbe⟩ := hrel
          have HDj := Lib.hid hdm
          have HCj := Lib.hid hct
          have HBj := Lib.hid hbe
          have Hj := Lib.hid hj
          have hj0 : (0 : Int) ≤ (j : Int) := by omega
          have hjI : (j : Int) ≤ 6 := by omega
          clear hdm hct hbe hj
          by_cases hjr : (j : Int) < (r6 : Int) + 1
          · have HOp := Lib.hid (HDj.out.open (by omega) HGe.out.2.2.2.2.2 HGe.out.1 HGe.out.2.1 HGe.out.2.2.1 HGe.out.2.2.2.1 HGe.out.2.2.2.2.1)
            have Hjr := Lib.hid hjr
            go_wp2_with (first
              | (go_at_call 17; with_reducible refine HOp.out.mono ?_; rintro e w4 ⟨B2, rfl, h1, h2, h3⟩
                 have HT2 := Lib.hid (h1.ct.told (q := B2.qB) rfl)
                 have HD4 := Lib.hid h2
                 have HC4 := Lib.hid (HCj.out.but h3 HOd.out.2.1 HOd.out.2.2)
                 have HB4 := Lib.hid (HBj.out.trans (h3.to_below HOd.out.1 HBj.out.size))
                 clear h1 h2 h3)
              | (go_at_call 13; with_reducible refine HT2.out.mono ?_; rintro e w5 ⟨aT, cT, rfl, ho, hb5⟩
                 have HD5 := Lib.hid (HD4.out.below hb5)
                 have HC5 := Lib.hid (HC4.out.below hb5)
                 have HB5 := Lib.hid (HB4.out.trans (hb5.mono HB4.out.size))
                 have HO5 := Lib.hid ho
                 have HT5 := Lib.hid (HC5.out.told (q := B.qB) HQ.out)
                 clear ho hb5)
              | (go_at_call 13; with_reducible refine HT5.out.mono ?_; rintro e w6 ⟨aU, cU, rfl, ho, hb6⟩
                 have HD6 := Lib.hid (HD5.out.below hb6)
                 have HC6 := Lib.hid (HC5.out.below hb6)
                 have HB6 := Lib.hid (HB5.out.trans (hb6.mono HB5.out.size))
                 have hal := alike_q w6 aT aU (num G.nb V.e) cT cU _ _ (allV G.nb V.e) V.k (allV_len _ _) (HO5.out.but (But.of_below hb6) (by simp)) ho
                 unfold toldV at hal
                 have HAl := Lib.hid hal
                 clear ho hb6 hal)
              | (go_at_call 18; with_reducible refine HAl.out.mono ?_; rintro e w7 ⟨rfl, hb7⟩
                 have HD7 := Lib.hid (HD6.out.below hb7)
                 have HC7 := Lib.hid (HC6.out.below hb7)
                 have HB7 := Lib.hid (HB6.out.trans (hb7.mono HB6.out.size))
                 clear hb7))
            go_roundw
            case rel => exact ⟨j + 1, by have := Hjr.out; omega, by go_num, by have := HD7.out; rw [show (2 + 2002 * 60 + ((j + 1 : Nat) : Int) : Int) = 2 + 2002 * 60 + (j : Int) + 1 from by omega]; exact this, HC7.out, HB7.out⟩
            case measure => have := Hj.out; simp [RowKit.intOf]; omega
          · go_wp2_with fail
            go_ret
            exact ⟨rfl, HBj.out⟩
    · obtain ⟨b, off, x, rfl, hx, hok0, hok, hxa, hbl⟩ := acts9_at HW.out HR1.out.be (show k < n by omega)
      have HKn : Hid (k < n ∧ k < 60) := Lib.hid ⟨by omega, by omega⟩
      have HX := Lib.hid hxa
      have HOk := Lib.hid hok
      obtain ⟨x0', x1', x2', x3', x4', x5', x6', x7', x8', x9', x10', x11'⟩ := hxa
      have HLg := Lib.hid (fun w' => Ac.large w' x)
      clear hx hok0 hok hbl hkn hk6
      generalize decide (Lrg x.e x.nT x.s x.nL) = lg at *
      cases lg with
      | true =>
        go_wp2_with (go_at_call 14; with_reducible refine (HLg.out _).mono ?_; rintro e w4 ⟨rfl, hb4⟩; have HB4 := Lib.hid hb4; clear hb4)
        go_ret
        exact ⟨rfl, (HR1.out.below HB4.out).be⟩
      | false =>
        go_wp2_with (first
          | (go_at_call 14; with_reducible refine (HLg.out _).mono ?_; rintro e w4 ⟨rfl, hb4⟩
             have HB4 := Lib.hid hb4
             have HR4 := Lib.hid (HR1.out.below hb4)
             obtain ⟨y0, y1, y2, y3, y4, y5, y6, y7, y8, y9, y10, y11⟩ := HX.out.below hb4
             have HAc := Lib.hid (HR4.out.act HQ.out (by have := HKn.out; omega) x (HOk.out.below hb4))
             clear hb4)
          | (go_at_call 22; with_reducible refine HAc.out.mono ?_; rintro e w5 ⟨rfl, r5, hR5, _, _⟩
             have HR5 := Lib.hid hR5
             clear hR5))
        go_roundw
        case rel => exact ⟨k + 1, B1.row r5, _, by have := HKn.out; omega, by have := HKn.out; omega, by go_num, HQ.out, HQd.out, HR5.out.mono (by omega)⟩
        case measure => have := HKn.out; simp [RowKit.intOf]; omega
end Q
end Go.Proofs.YtmcalgnpinolmaaGreat
