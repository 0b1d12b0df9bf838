/-
  Lists in memory: a slice that reads as a list of values, and what stays of it; slices that a call makes itself, and what an append onto one leaves.
-/
import Derived.Test.YtpoolpckabpnfaaGreatProg
import Derived.Test.YtpoolpckabpnfaaGreatCMath
import Derived.WalkKit
import Derived.Lib.Hide
import Derived.Below
import Derived.Maps.AppendAt
import Derived.OwnWalk
import Derived.Lib.AppendStr
import Derived.Laws.BytesString
namespace Go.Proofs.YtpoolpckabpnfaaGreat.C
open Go.RowKit
set_option linter.unusedVariables false
set_option linter.unusedSimpArgs false
set_option maxRecDepth 20000

theorem u8_info : (Tryz.prog.info? 5).map (fun i => (i.zero, i.size, i.bytes)) = some (some (.int .u8 0), 1, 1) := by kernel_rfl
theorem i64_info : (Tryz.prog.info? 2).map (fun i => (i.zero, i.size, i.bytes)) = some (some (.int .i64 0), 1, 8) := by kernel_rfl
theorem str_info : (Tryz.prog.info? 9).map (fun i => (i.zero, i.size, i.bytes)) = some (some (.string ⟨#[]⟩), 1, 16) := by kernel_rfl

def u8 (c : UInt8) : Value := .int .u8 (c.toNat : Int)
def u8s (l : List UInt8) : List Value := l.map u8
def i64s (l : List Int) : List Value := l.map (Value.int .i64)
def strs (l : List ByteArray) : List Value := l.map Value.string

theorem u8s_length (l : List UInt8) : (u8s l).length = l.length := List.length_map _
theorem i64s_length (l : List Int) : (i64s l).length = l.length := List.length_map _
theorem strs_length (l : List ByteArray) : (strs l).length = l.length := List.length_map _
theorem u8s_append (l m : List UInt8) : u8s (l ++ m) = u8s l ++ u8s m := List.map_append
theorem i64s_append (l m : List Int) : i64s (l ++ m) = i64s l ++ i64s m := List.map_append
theorem strs_append (l m : List ByteArray) : strs (l ++ m) = strs l ++ strs m := List.map_append

/-- the slice at a, of length n, reads as vs -/
def Row (w : World) (a : Option Addr) (n cap : Nat) (vs : List Value) : Prop :=
  vs.length = n ∧ n ≤ cap ∧ cap ≤ maxLen ∧ (vs = [] ∨ ∃ b off, a = some ⟨b, off, none⟩ ∧ b < w.heap.size ∧ ∀ i, i < n → w.cell? ⟨b, off + i, none⟩ = vs[i]?)

theorem row_below {w w' : World} {B : Nat} {a : Option Addr} {n cap : Nat} {vs : List Value} (h : Row w a n cap vs) (hb : Below B w w') (hB : w.heap.size ≤ B) : Row w' a n cap vs := by
  obtain ⟨h1, h2, h3, h4⟩ := h
  refine ⟨h1, h2, h3, ?_⟩
  rcases h4 with h4 | ⟨b, off, ha, hlt, hc⟩
  · exact .inl h4
  · exact .inr ⟨b, off, ha, Nat.lt_of_lt_of_le hlt hb.size, fun i hi => by rw [hb.cell (p := ⟨b, off + i, none⟩) (Nat.lt_of_lt_of_le hlt hB)]; exact hc i hi⟩

theorem row_same {w w' : World} {a : Option Addr} {n cap : Nat} {vs : List Value} (h : Row w a n cap vs) (hs : w'.heap = w.heap) : Row w' a n cap vs := by
  obtain ⟨h1, h2, h3, h4⟩ := h
  refine ⟨h1, h2, h3, ?_⟩
  rcases h4 with h4 | ⟨b, off, ha, hlt, hc⟩
  · exact .inl h4
  · exact .inr ⟨b, off, ha, by rw [hs]; exact hlt, fun i hi => by rw [← hc i hi]; simp [World.cell?, hs]⟩

def adv (a : Option Addr) (cap k : Nat) : Option Addr := if cap = k then a else a.map (·.add k)

theorem row_drop {w : World} {a : Option Addr} {n cap : Nat} {vs : List Value} (h : Row w a n cap vs) (k : Nat) (hk : k ≤ n) : Row w (adv a cap k) (n - k) (cap - k) (vs.drop k) := by
  obtain ⟨h1, h2, h3, h4⟩ := h
  refine ⟨by rw [List.length_drop, h1], by omega, by omega, ?_⟩
  by_cases h0 : n = k
  · exact .inl (List.eq_nil_of_length_eq_zero (by rw [List.length_drop]; omega))
  · rcases h4 with h4 | ⟨b, off, ha, hlt, hc⟩
    · subst h4; simp at h1; omega
    · refine .inr ⟨b, off + k, ?_, hlt, fun i hi => ?_⟩
      · unfold adv
        rw [if_neg (by omega), ha]
        by_cases g : k = 0 <;> simp [Addr.add, g]
      · rw [Nat.add_assoc, hc (k + i) (by omega), List.getElem?_drop]

theorem row_take {w : World} {a : Option Addr} {n cap : Nat} {vs : List Value} (h : Row w a n cap vs) (k : Nat) (hk : k ≤ n) : Row w (adv a cap 0) k cap (vs.take k) := by
  obtain ⟨h1, h2, h3, h4⟩ := h
  refine ⟨by rw [List.length_take]; omega, by omega, by omega, ?_⟩
  by_cases h0 : k = 0
  · subst h0; exact .inl rfl
  · rcases h4 with h4 | ⟨b, off, ha, hlt, hc⟩
    · subst h4; simp at h1; omega
    · refine .inr ⟨b, off, ?_, hlt, fun i hi => ?_⟩
      · unfold adv
        rw [if_neg (by omega), ha]
        simp [Addr.add]
      · rw [hc i (by omega), List.getElem?_take, if_pos hi]

/-- a store elsewhere -/
theorem row_set {w : World} {a : Option Addr} {n cap : Nat} {vs : List Value} (h : Row w a n cap vs) {p : Addr} (v : Value) (hp : vs = [] ∨ ∀ b off, a = some ⟨b, off, none⟩ → b ≠ p.block) : Row (w.setCell p v) a n cap vs := by
  obtain ⟨h1, h2, h3, h4⟩ := h
  refine ⟨h1, h2, h3, ?_⟩
  rcases h4 with h4 | ⟨b, off, ha, hlt, hc⟩
  · exact .inl h4
  · rcases hp with hp | hp
    · exact .inl hp
    refine .inr ⟨b, off, ha, by simpa [World.setCell] using hlt, fun i hi => ?_⟩
    rw [← hc i hi]
    exact World.cell?_of_block (Below.heap_setCell w p v b (hp b off ha))

/-- a row of the call's own, from block B on, of elements of type e -/
def Own (e : TypeId) (w : World) (B : Nat) (a : Option Addr) (n cap : Nat) (vs : List Value) : Prop :=
  w.ownsRow B e 1 (.slice a n cap) n vs ∧ vs.length = n ∧ n ≤ 17592186044416

theorem own_row {e : TypeId} {w : World} {B : Nat} {a : Option Addr} {n cap : Nat} {vs : List Value} (h : Own e w B a n cap vs) : Row w a n cap vs ∧ ∀ b off, a = some ⟨b, off, none⟩ → B ≤ b ∧ off = 0 := by
  obtain ⟨h1, h2, h3⟩ := h
  rcases h1.2 with ⟨hv, h'⟩ | ⟨g, c, cur, hv, hB, hh, hn, hm, hs, ht⟩
  · injection hv with e1 e2 e3
    subst e1 e2 e3
    exact ⟨⟨h2, by omega, by simp [maxLen], .inl (List.eq_nil_of_length_eq_zero h2)⟩, by simp⟩
  · injection hv with e1 e2 e3
    subst e1 e3
    refine ⟨⟨h2, hn, hm, .inr ⟨g, 0, rfl, (h1.lt g rfl).2, fun i hi => ?_⟩⟩, fun b off hb => ?_⟩
    · rw [Nat.zero_add]; exact World.ownsRow.cellAt h1 i (by omega)
    · injection hb with hb
      injection hb with hb1 hb2
      omega

theorem own_nil (e : TypeId) (w : World) (B : Nat) : Own e w B none 0 0 [] := ⟨World.ownsRow_nil _ _ _ _, rfl, by omega⟩

theorem own_lit (e : TypeId) (w : World) (B : Nat) (vs : List Value) (hB : B ≤ w.heap.size) (hn : vs.length ≤ 1000) : Own e (w.alloc (.cells vs.toArray e)) B (some ⟨w.heap.size, 0, none⟩) vs.length vs.length vs :=
  ⟨World.ownsRow_lit w vs.toArray vs.length hB (by simp only [maxLen]; omega) (by simp), rfl, by omega⟩

theorem own_mono {e : TypeId} {w : World} {B B' : Nat} {a : Option Addr} {n cap : Nat} {vs : List Value} (h : Own e w B a n cap vs) (hB : B' ≤ B) : Own e w B' a n cap vs := by
  obtain ⟨h1, h2⟩ := h
  refine ⟨⟨h1.1, ?_⟩, h2⟩
  rcases h1.2 with h' | ⟨g, c, cur, hv, hg, r⟩
  · exact .inl h'
  · exact .inr ⟨g, c, cur, hv, Nat.le_trans hB hg, r⟩

theorem own_below {e : TypeId} {w w' : World} {B C : Nat} {a : Option Addr} {n cap : Nat} {vs : List Value} (h : Own e w B a n cap vs) (hb : Below C w w') (hC : w.heap.size ≤ C) : Own e w' B a n cap vs := by
  obtain ⟨h1, h2⟩ := h
  have hlt := h1.lt
  refine ⟨⟨h1.1, ?_⟩, h2⟩
  rcases h1.2 with h' | ⟨g, c, cur, hv, hg, hh, r⟩
  · exact .inl h'
  · have := hlt g (by rw [hv]; rfl)
    exact .inr ⟨g, c, cur, hv, hg, by rw [hb.block g (by omega)]; exact hh, r⟩

/-- a store elsewhere -/
theorem own_set {e : TypeId} {w : World} {B : Nat} {a : Option Addr} {n cap : Nat} {vs : List Value} (h : Own e w B a n cap vs) {p : Addr} (v : Value) (hp : p.block < B) : Own e (w.setCell p v) B a n cap vs := by
  obtain ⟨h1, h2⟩ := h
  refine ⟨⟨h1.1, ?_⟩, h2⟩
  rcases h1.2 with h' | ⟨g, c, cur, hv, hg, hh, r⟩
  · exact .inl h'
  · exact .inr ⟨g, c, cur, hv, hg, by rw [Below.heap_setCell _ _ _ _ (by omega)]; exact hh, r⟩

/-- an append onto a row of the call's own: of another row -/
theorem run_append_own' (t e : TypeId) (i : TypeInfo) (z : Value) (bytes : Nat) (ht : Tryz.prog.underlying t = some (.slice e)) (hi : Tryz.prog.info? e = some i) (hz : i.zero = some z) (hs : i.size = 1) (hby : i.bytes = bytes) (hzs : z.cells.size = 1) (hb8 : bytes ≤ 16)
    (w : World) (ty : TypeId) (B : Nat) (a : Option Addr) (n cap : Nat) (l : List Value) (hown : Own e w B a n cap l) (A : Option Addr) (m c : Nat) (x : List Value) (hr : Row w A m c x) (h1 : ∀ u ∈ x, u.oneCell' = true)
    (hsum : n + m ≤ 1048576) (hB : B ≤ w.heap.size) :
    ∃ a' cap' w', (Builtin.append_ #[t, t] ty #[.slice a n cap, .slice A m c]).run Tryz.prog w = .ok (.slice a' (n + m) cap') w' ∧ Own e w' B a' (n + m) cap' (l ++ x) ∧ Below B w w' ∧ w.grownBy w' (Value.slice a n cap).ownBlock ∧ ((Value.slice a' (n + m) cap').ownBlock = (Value.slice a n cap).ownBlock ∨ (Value.slice a' (n + m) cap').ownBlock = some w.heap.size) := by
  obtain ⟨g1, g2, g3⟩ := hown
  obtain ⟨r1, r2, r2', r4⟩ := hr
  have hlen : (l ++ x).length = n + m := by rw [List.length_append, g2, r1]
  have hbnd : (n + m) * bytes ≤ 140737488355328 := by
    have := Nat.mul_le_mul hsum hb8
    omega
  by_cases hm0 : m = 0
  · have hx : x = [] := List.eq_nil_of_length_eq_zero (by omega)
    subst hx
    subst hm0
    refine ⟨a, cap, w, ?_, ⟨by simpa using g1, by simpa using g2, by omega⟩, Below.refl _ _, ⟨rfl, rfl, rfl, Nat.le_refl _, fun _ _ _ => rfl⟩, .inl (by cases a <;> rfl)⟩
    rcases g1.2 with ⟨hv, _⟩ | ⟨g, c', cur, hv, _, _, hnc, _⟩
    · injection hv with e1 e2 e3
      subst e1 e2 e3
      cases A <;> simp [Builtin.append_, run_underlying ht, sizeOf, typeInfo, hi, Builtin.lenOf, Builtin.firstCells, loadCells, loadCellsFrom]
    · injection hv with e1 e2 e3
      subst e1 e3
      cases A <;> simp [Builtin.append_, run_underlying ht, sizeOf, typeInfo, hi, Builtin.lenOf, Builtin.firstCells, hnc, storeCells, loadCells, loadCellsFrom]
  · rcases r4 with r4 | ⟨b, off, rfl, hb, hc⟩
    · subst r4; simp at r1; omega
    have hcells : ∀ j u, x[j]? = some u → w.cell? ((⟨b, off, none⟩ : Addr).add j) = some u := by
      intro j u hu
      have hj : j < m := by
        have := (List.getElem?_eq_some_iff.1 hu).1
        omega
      rw [show ((⟨b, off, none⟩ : Addr).add j) = ⟨b, off + j, none⟩ from by by_cases g : j = 0 <;> simp [Addr.add, g]]
      rw [hc j hj, hu]
    obtain ⟨v', w', hrun, h5, h6, _, h7⟩ := run_append_own_at (P := Tryz.prog) w B t ty e i z 1 bytes ht hi hz hs hby hzs (by omega) _ n l g1 ⟨b, off, none⟩ m c x
      (by simpa using r1) hcells h1 (by simp only [maxLen]; omega) hbnd hB
    obtain ⟨a', cap', rfl⟩ : ∃ a' cap', v' = .slice a' (n + m) cap' := by
      rcases h5.2 with ⟨rfl, h0⟩ | ⟨g, c', cur, rfl, _⟩
      · exact ⟨none, 0, by rw [h0]⟩
      · exact ⟨_, _, rfl⟩
    exact ⟨a', cap', w', hrun, ⟨h5, hlen, by omega⟩, (Below.refl _ _).grown h6 hB fun k hk => (g1.lt k hk).1, h6, h7⟩

theorem u8s_one (l : List UInt8) : ∀ u ∈ u8s l, u.oneCell' = true := by
  intro u hu
  obtain ⟨_, _, rfl⟩ := List.mem_map.1 hu
  rfl
theorem i64s_one (l : List Int) : ∀ u ∈ i64s l, u.oneCell' = true := by
  intro u hu
  obtain ⟨_, _, rfl⟩ := List.mem_map.1 hu
  rfl
theorem strs_one (l : List ByteArray) : ∀ u ∈ strs l, u.oneCell' = true := by
  intro u hu
  obtain ⟨_, _, rfl⟩ := List.mem_map.1 hu
  rfl

theorem run_append_u8 (w : World) (ty : TypeId) (B : Nat) (a : Option Addr) (n cap : Nat) (l : List UInt8) (hown : Own 5 w B a n cap (u8s l)) (A : Option Addr) (m c : Nat) (x : List UInt8) (hr : Row w A m c (u8s x))
    (hsum : n + m ≤ 1048576) (hB : B ≤ w.heap.size) :
    ∃ a' cap' w', (Builtin.append_ #[50, 50] ty #[.slice a n cap, .slice A m c]).run Tryz.prog w = .ok (.slice a' (n + m) cap') w' ∧ Own 5 w' B a' (n + m) cap' (u8s (l ++ x)) ∧ Below B w w' ∧ w.grownBy w' (Value.slice a n cap).ownBlock ∧ ((Value.slice a' (n + m) cap').ownBlock = (Value.slice a n cap).ownBlock ∨ (Value.slice a' (n + m) cap').ownBlock = some w.heap.size) := by
  obtain ⟨i0, hi0, hz0, hz1, hz2⟩ := info_parts u8_info
  rw [u8s_append]
  exact run_append_own' 50 5 i0 _ 1 Tryz.underlying50 hi0 hz0 hz1 hz2 rfl (by omega) w ty B a n cap _ hown A m c _ hr (u8s_one x) hsum hB

theorem run_append_i64 (w : World) (ty : TypeId) (B : Nat) (a : Option Addr) (n cap : Nat) (l : List Int) (hown : Own 2 w B a n cap (i64s l)) (A : Option Addr) (m c : Nat) (x : List Int) (hr : Row w A m c (i64s x))
    (hsum : n + m ≤ 1048576) (hB : B ≤ w.heap.size) :
    ∃ a' cap' w', (Builtin.append_ #[77, 77] ty #[.slice a n cap, .slice A m c]).run Tryz.prog w = .ok (.slice a' (n + m) cap') w' ∧ Own 2 w' B a' (n + m) cap' (i64s (l ++ x)) ∧ Below B w w' ∧ w.grownBy w' (Value.slice a n cap).ownBlock ∧ ((Value.slice a' (n + m) cap').ownBlock = (Value.slice a n cap).ownBlock ∨ (Value.slice a' (n + m) cap').ownBlock = some w.heap.size) := by
  obtain ⟨i0, hi0, hz0, hz1, hz2⟩ := info_parts i64_info
  rw [i64s_append]
  exact run_append_own' 77 2 i0 _ 8 Tryz.underlying77 hi0 hz0 hz1 hz2 rfl (by omega) w ty B a n cap _ hown A m c _ hr (i64s_one x) hsum hB

theorem run_append_str (w : World) (ty : TypeId) (B : Nat) (a : Option Addr) (n cap : Nat) (l : List ByteArray) (hown : Own 9 w B a n cap (strs l)) (A : Option Addr) (m c : Nat) (x : List ByteArray) (hr : Row w A m c (strs x))
    (hsum : n + m ≤ 1048576) (hB : B ≤ w.heap.size) :
    ∃ a' cap' w', (Builtin.append_ #[78, 78] ty #[.slice a n cap, .slice A m c]).run Tryz.prog w = .ok (.slice a' (n + m) cap') w' ∧ Own 9 w' B a' (n + m) cap' (strs (l ++ x)) ∧ Below B w w' ∧ w.grownBy w' (Value.slice a n cap).ownBlock ∧ ((Value.slice a' (n + m) cap').ownBlock = (Value.slice a n cap).ownBlock ∨ (Value.slice a' (n + m) cap').ownBlock = some w.heap.size) := by
  obtain ⟨i0, hi0, hz0, hz1, hz2⟩ := info_parts str_info
  rw [strs_append]
  exact run_append_own' 78 9 i0 _ 16 Tryz.underlying78 hi0 hz0 hz1 hz2 rfl (by omega) w ty B a n cap _ hown A m c _ hr (strs_one x) hsum hB

/-- for the walk: an append whose run is known -/
theorem wpList_append_run (w : World) {ops : Array Oper} {rest : List Oper} {o : Oper} {act : Act} {Q : Exit → Act → World → Prop} (hgd : o.guard = none) (s x : Operand) (t u : TypeId)
    (ho : o.op = .call { callee := .builtin .append, args := #[s, x], argTypes := #[t, u] }) {p : Value → World → Prop}
    (hrun : ∃ v w', (Builtin.append_ #[t, u] o.type #[act.eval s, act.eval x]).run Tryz.prog w = .ok v w' ∧ p v w')
    (h : ∀ v w', p v w' → wpList Tryz.prog ops Q rest (act.put o.dst v) w') : wpList Tryz.prog ops Q (o :: rest) act w := by
  refine wpList_plain hgd fun K hK => ?_
  obtain ⟨v, w', hr, hp⟩ := hrun
  unfold Oper.wp execOp
  simp only [ho, resolve, invoke, builtin, Sem.run_bind, Sem.run_pure, Result.andThen_ok, List.map_toArray, List.map_cons, List.map_nil, hr]
  exact hK _ _ (h v w' hp)

theorem step_append_run (w : World) {ops : Array Oper} {o : Oper} {act : Act} {K : Act → World → Prop} {Q : Exit → Act → World → Prop} {E : Prop} (hgd : o.guard = none) (s x : Operand) (t u : TypeId)
    (ho : o.op = .call { callee := .builtin .append, args := #[s, x], argTypes := #[t, u] }) {p : Value → World → Prop}
    (hrun : ∃ v w', (Builtin.append_ #[t, u] o.type #[act.eval s, act.eval x]).run Tryz.prog w = .ok v w' ∧ p v w')
    (h : ∀ v w', p v w' → K (act.put o.dst v) w') :
    if Region.wanted o (yielded ops act.tmps) = true then Oper.wp Tryz.prog o act w K Q else E := by
  have hw : Region.wanted o (yielded ops act.tmps) = true := by simp [Region.wanted, hgd]
  rw [if_pos hw]
  obtain ⟨v, w', hr, hp⟩ := hrun
  unfold Oper.wp execOp
  simp only [ho, resolve, invoke, builtin, Sem.run_bind, Sem.run_pure, Result.andThen_ok, List.map_toArray, List.map_cons, List.map_nil, hr]
  exact h v w' hp

/-! strings of bytes -/
def str (l : List UInt8) : ByteArray := ⟨l.toArray⟩

theorem fold_push (l : List UInt8) (s : ByteArray) : (l.map fun c : UInt8 => (c.toNat : Int)).foldl (fun r n => r.push (UInt8.ofNat n.toNat)) s = ⟨s.data ++ l.toArray⟩ := by
  induction l generalizing s with
  | nil => simp
  | cons c l ih =>
    simp only [List.map_cons, List.foldl_cons, ih]
    apply ByteArray.ext
    apply Array.ext'
    simp [ByteArray.push]

theorem run_loadCells_row {w : World} {b off n : Nat} {vs : List Value} (hl : vs.length = n) (hc : ∀ i, i < n → w.cell? ⟨b, off + i, none⟩ = vs[i]?) : (loadCells ⟨b, off, none⟩ n).run Tryz.prog w = .ok vs.toArray w := by
  subst hl
  refine run_loadCells_list w _ vs fun j v hj => ?_
  have hlt := (List.getElem?_eq_some_iff.1 hj).1
  rw [show ((⟨b, off, none⟩ : Addr).add j) = ⟨b, off + j, none⟩ from by by_cases g : j = 0 <;> simp [Addr.add, g]]
  rw [hc j hlt, hj]

theorem run_string_bytes {w : World} {a : Option Addr} {n cap : Nat} {l : List UInt8} (h : Row w a n cap (u8s l)) : (convert 50 9 (.slice a n cap)).run Tryz.prog w = .ok (.string (str l)) w := by
  rw [run_convert_bytes_string w 50 9 5 a n cap Tryz.underlying50 Tryz.underlying5 Tryz.underlying9]
  obtain ⟨h1, h2, h3, h4⟩ := h
  have e1 : u8s l = (l.map fun c : UInt8 => (c.toNat : Int)).map (Value.int .u8) := by simp [u8s, u8]
  have e2 := fold_push l ByteArray.empty
  have e3 : (⟨ByteArray.empty.data ++ l.toArray⟩ : ByteArray) = str l := by
    apply ByteArray.ext
    apply Array.ext'
    simp [str, ByteArray.empty, ByteArray.emptyWithCapacity]
    rfl
  by_cases h0 : l = []
  · subst h0
    have hn : n = 0 := by simpa [u8s] using h1.symm
    subst hn
    cases a with
    | none => simp [Conv.bytesToString, str]; rfl
    | some ad =>
      have := run_bytesToString (P := Tryz.prog) w ad 0 cap [] (by simp [loadCells, loadCellsFrom])
      exact this
  · rcases h4 with h4 | ⟨b, off, rfl, hb, hc⟩
    · exact absurd (List.map_eq_nil_iff.1 h4) h0
    · have := run_bytesToString (P := Tryz.prog) w ⟨b, off, none⟩ n cap (l.map fun c : UInt8 => (c.toNat : Int)) (e1 ▸ run_loadCells_row h1 hc)
      rw [this, e2, e3]
end Go.Proofs.YtpoolpckabpnfaaGreat.C
