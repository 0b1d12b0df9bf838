/-
  Rows of bytes that a call makes itself: what an append onto one leaves, that it is read as a row, and what a byte that is written to it leaves.
-/
import Derived.Test.YtoaebaglahhpbaaWalks
import Derived.Maps.AppendAt
import Derived.OwnWalk
namespace Go.Proofs.Ytoaebaglahhpbaa
open Go.RowKit
set_option linter.unusedVariables false
set_option linter.unusedSimpArgs false

theorem u8_info : (Try.prog.info? 5).map (fun i => (i.zero, i.size, i.bytes)) = some (some (.int .u8 0), 1, 1) := by kernel_rfl

abbrev u8s (l : List Int) : List Value := l.map (Value.int .u8)

/-- a row of the call's own, from block B on, that holds the bytes l -/
def Own (w : World) (B : Nat) (a : Option Addr) (n cap : Nat) (l : List Int) : Prop :=
  w.ownsRow B 5 1 (.slice a n cap) n (u8s l) ∧ l.length = n ∧ n ≤ 140737488355328 ∧ ∀ x ∈ l, 0 ≤ x ∧ x < 256

theorem own_empty (w : World) (B : Nat) (hB : B ≤ w.heap.size) : Own (w.alloc (.cells #[] 5)) B (some ⟨w.heap.size, 0, none⟩) 0 0 [] :=
  ⟨World.ownsRow_made w #[] 0 hB (Nat.zero_le _) rfl, rfl, by omega, by simp⟩

theorem own_row {w : World} {B : Nat} {a : Option Addr} {n cap : Nat} {l : List Int} (h : Own w B a n cap l) : Row w a n l := by
  obtain ⟨h1, h2, h3, h4⟩ := h
  refine ⟨h2, h3, h4, ?_⟩
  by_cases h0 : l = []
  · exact .inl h0
  · refine .inr ?_
    rcases h1.2 with ⟨_, h'⟩ | ⟨g, c, cur, hv, _, hh, hn, hm, hs, ht⟩
    · exact absurd (List.eq_nil_of_length_eq_zero (by omega)) h0
    · injection hv with e1 e2 e3
      subst e1
      subst e3
      refine ⟨g, 0, rfl, fun i hi => ?_⟩
      have := World.ownsRow.cellAt h1 i (by omega)
      rw [Nat.zero_add, this]
      simp [u8s, List.getD_eq_getElem?_getD, hi]

theorem own_below {w w' : World} {B : Nat} {a : Option Addr} {n cap : Nat} {l : List Int} (h : Own w B a n cap l) {row : Option Nat} (hg : w.grownBy w' row)
    (hne : (Value.slice a n cap).ownBlock = none ∨ (Value.slice a n cap).ownBlock ≠ row) : Own w' B a n cap l :=
  ⟨h.1.kept hg hne, h.2⟩

theorem run_append_bytes (w : World) (ty : TypeId) (B : Nat) (a : Option Addr) (n cap : Nat) (l : List Int) (hown : Own w B a n cap l) (A : Option Addr) (m c : Nat) (x : List Int) (hr : Row w A m x)
    (hsum : n + m ≤ 140737488355328) (hB : B ≤ w.heap.size) :
    ∃ a' cap' w', (Builtin.append_ #[22, 22] ty #[.slice a n cap, .slice A m c]).run Try.prog w = .ok (.slice a' (n + m) cap') w' ∧ Own w' B a' (n + m) cap' (l ++ x) ∧ Below B w w' := by
  obtain ⟨i0, hi0, hz0, hz1, hz2⟩ := info_parts u8_info
  obtain ⟨h1, h2, h3, h4⟩ := hown
  obtain ⟨r1, r2, r3, r4⟩ := hr
  have hrange : ∀ y ∈ l ++ x, 0 ≤ y ∧ y < 256 := by
    intro y hy
    rcases List.mem_append.1 hy with hy | hy
    · exact h4 y hy
    · exact r3 y hy
  have hlen : (l ++ x).length = n + m := by rw [List.length_append, h2, r1]
  cases A with
  | none =>
    have hx : x = [] := by
      rcases r4 with r4 | ⟨b, off, hb, _⟩
      · exact r4
      · cases hb
    subst hx
    have hm : m = 0 := by simpa using r1.symm
    subst hm
    refine ⟨a, cap, w, ?_, ⟨by simpa using h1, by simpa using h2, by omega, by simpa using h4⟩, Below.refl _ _⟩
    rcases h1.2 with ⟨hv, _⟩ | ⟨g, c', cur, hv, _, _, hnc, _⟩
    · injection hv with e1 e2 e3
      subst e1 e2 e3
      simp [Builtin.append_, run_underlying Try.underlying22, sizeOf, typeInfo, hi0, Builtin.lenOf, Builtin.firstCells]
    · injection hv with e1 e2 e3
      subst e1 e3
      simp [Builtin.append_, run_underlying Try.underlying22, sizeOf, typeInfo, hi0, Builtin.lenOf, Builtin.firstCells, hnc, storeCells]
  | some ad =>
    have hcells : ∀ j u, (u8s x)[j]? = some u → w.cell? (ad.add j) = some u := by
      intro j u hu
      rcases r4 with r4 | ⟨b, off, hb, hc⟩
      · subst r4; simp at hu
      · injection hb with hb
        subst hb
        have hj : j < x.length := by
          rcases Nat.lt_or_ge j x.length with h | h
          · exact h
          · simp [u8s, List.getElem?_eq_none h] at hu
        have := hc j hj
        rw [show ((⟨b, off, none⟩ : Addr).add j) = ⟨b, off + j, none⟩ from by by_cases g : j = 0 <;> simp [Addr.add, g]]
        rw [this]
        simp [u8s, hj, List.getD_eq_getElem?_getD] at hu ⊢
        exact hu
    obtain ⟨v', w', hrun, h5, h6, _, h7⟩ := run_append_own_at (P := Try.prog) w B 22 ty 5 i0 (.int .u8 0) 1 1 Try.underlying22 hi0 hz0 hz1 hz2 rfl (by omega) _ n (u8s l) h1 ad m c (u8s x)
      (by simpa using r1) hcells (ints_oneCell .u8 x) (by simp only [maxLen]; omega) (by omega) hB
    have hlt := h5.lt
    obtain ⟨a', cap', rfl⟩ : ∃ a' cap', v' = .slice a' (n + m) cap' := by
      rcases h5.2 with ⟨rfl, h0⟩ | ⟨g, c', cur, rfl, _⟩
      · exact ⟨none, 0, by rw [h0]⟩
      · exact ⟨_, _, rfl⟩
    refine ⟨a', cap', w', hrun, ⟨by rw [u8s, List.map_append]; exact h5, hlen, hsum, hrange⟩, (Below.refl _ _).grown h6 hB fun k hk => (h1.lt k hk).1⟩

theorem wpList_append_bytes (w : World) {ops : Array Oper} {rest : List Oper} {o : Oper} {act : Act} {Q : Exit → Act → World → Prop} (hgd : o.guard = none) (s x : Operand)
    (ho : o.op = .call { callee := .builtin .append, args := #[s, x], argTypes := #[22, 22] })
    (B : Nat) (a : Option Addr) (n cap : Nat) (l : List Int) (hs : act.eval s = .slice a n cap) (hown : Own w B a n cap l)
    (A : Option Addr) (m c : Nat) (y : List Int) (hx : act.eval x = .slice A m c) (hr : Row w A m y)
    (k : Nat) (hk : n + m = k) (ly : List Int) (hly : l ++ y = ly) (hsum : k ≤ 140737488355328) (hB : B ≤ w.heap.size)
    (h : ∀ a' cap' w', Own w' B a' k cap' ly → Below B w w' → wpList Try.prog ops Q rest (act.put o.dst (.slice a' k cap')) w') : wpList Try.prog ops Q (o :: rest) act w := by
  subst hk
  subst hly
  refine wpList_plain hgd fun K hK => ?_
  obtain ⟨a', cap', w', hrun, h2, h3⟩ := run_append_bytes w o.type B a n cap l hown A m c y hr hsum hB
  unfold Oper.wp execOp
  simp only [ho, resolve, invoke, builtin, Sem.run_bind, Sem.run_pure, Result.andThen_ok, List.map_toArray, List.map_cons, List.map_nil, hs, hx, hrun]
  exact hK _ _ (h a' cap' w' h2 h3)

theorem own_set {w : World} {B g n cap : Nat} {l : List Int} (h : Own w B (some ⟨g, 0, none⟩) n cap l) (i : Nat) (v : Int) (hv : 0 ≤ v ∧ v < 256) :
    Own (w.setCell ⟨g, i, none⟩ (.int .u8 v)) B (some ⟨g, 0, none⟩) n cap (l.set i v) := by
  obtain ⟨h1, h2, h3, h4⟩ := h
  refine ⟨?_, by rw [List.length_set]; exact h2, h3, fun x hx => ?_⟩
  · have := (h1.stored i (.int .u8 v)).1
    rw [u8s, List.map_set]
    exact this
  · rcases List.mem_or_eq_of_mem_set hx with hx | rfl
    · exact h4 x hx
    · exact hv

theorem own_drew {w : World} {B : Nat} {a : Option Addr} {n cap : Nat} {l : List Int} (h : Own w B a n cap l) : Own w.drew B a n cap l := h

/-- where a row of the call's own that is not empty lies -/
theorem own_at {w : World} {B : Nat} {a : Option Addr} {n cap : Nat} {l : List Int} (h : Own w B a n cap l) (hn : 0 < n) :
    ∃ g, a = some ⟨g, 0, none⟩ ∧ B ≤ g ∧ g < w.heap.size ∧ n ≤ cap ∧ (∀ i, i < n → w.cell? ⟨g, i, none⟩ = some (.int .u8 (l.getD i 0))) ∧ (∀ i, w.frozen? ⟨g, i, none⟩ = false) := by
  obtain ⟨h1, h2, h3, h4⟩ := h
  rcases h1.2 with ⟨hv, h'⟩ | ⟨g, c, cur, hv, hB, hh, hnc, hm, hs, ht⟩
  · omega
  · injection hv with e1 e2 e3
    subst e1
    subst e3
    refine ⟨g, rfl, hB, (h1.lt g rfl).2, hnc, fun i hi => ?_, fun i => World.ownsRow.frozenAt h1 i⟩
    rw [World.ownsRow.cellAt h1 i (by omega)]
    simp [u8s, List.getD_eq_getElem?_getD, h2, hi]

theorem toNat_bne {x y : BitVec 32} (h : x ≠ y) : ((x.toNat : Int) != (y.toNat : Int)) = true := by
  simp only [bne, toNat_ne h]; rfl

/-! bytes told apart -/
theorem xor_u8 (a b : Int) (ha : 0 ≤ a ∧ a < 256) (hb : 0 ≤ b ∧ b < 256) :
    (0 ≤ bits .xor .u8 a b ∧ bits .xor .u8 a b < 256) ∧ BitVec.ofInt 32 (bits .xor .u8 a b) = BitVec.ofInt 32 a ^^^ BitVec.ofInt 32 b := by
  obtain ⟨A, rfl⟩ := Int.eq_ofNat_of_zero_le ha.1
  obtain ⟨C, rfl⟩ := Int.eq_ofNat_of_zero_le hb.1
  have hx : A ^^^ C < 2 ^ 8 := Nat.xor_lt_two_pow (by omega) (by omega)
  rw [u8_xor_nat A C (by omega) (by omega)]
  refine ⟨by omega, ?_⟩
  rw [BitVec.ofInt_natCast, BitVec.ofInt_natCast, BitVec.ofInt_natCast, BitVec.ofNat_xor]

theorem xor_u8_back (a b : Int) (ha : 0 ≤ a ∧ a < 256) (hb : 0 ≤ b ∧ b < 256) : bits .xor .u8 (bits .xor .u8 a b) b = a := by
  obtain ⟨A, rfl⟩ := Int.eq_ofNat_of_zero_le ha.1
  obtain ⟨C, rfl⟩ := Int.eq_ofNat_of_zero_le hb.1
  have hx : A ^^^ C < 2 ^ 8 := Nat.xor_lt_two_pow (by omega) (by omega)
  rw [u8_xor_nat A C (by omega) (by omega), u8_xor_nat (A ^^^ C) C (by omega) (by omega), Nat.xor_assoc, Nat.xor_self, Nat.xor_zero]

theorem bit_range (k : Nat) : 0 ≤ (2 : Int) ^ (k % 8) % 256 ∧ (2 : Int) ^ (k % 8) % 256 < 256 := by omega

theorem bit_word (k : Nat) : BitVec.ofInt 32 ((2 : Int) ^ (k % 8) % 256) = 1#32 <<< (k % 8) := by
  have h : ∀ j : Fin 8, BitVec.ofInt 32 ((2 : Int) ^ j.val % 256) = 1#32 <<< j.val := by decide +kernel
  exact h ⟨k % 8, Nat.mod_lt _ (by omega)⟩

theorem bit_word_ne (k : Nat) : 1#32 <<< (k % 8) ≠ 0#32 := by
  have h : ∀ j : Fin 8, 1#32 <<< j.val ≠ 0#32 := by decide +kernel
  exact h ⟨k % 8, Nat.mod_lt _ (by omega)⟩

/-- the byte c with the bit of place p turned -/
def turned (c : Int) (p : Nat) : Int := bits .xor .u8 c ((2 : Int) ^ (p % 8) % 256)

theorem turned_range (c : Int) (p : Nat) (h : 0 ≤ c ∧ c < 256) : 0 ≤ turned c p ∧ turned c p < 256 := (xor_u8 _ _ h (bit_range p)).1
theorem turned_back (c : Int) (p : Nat) (h : 0 ≤ c ∧ c < 256) : turned (turned c p) p = c := xor_u8_back _ _ h (bit_range p)
theorem turned_word (c : Int) (p : Nat) (h : 0 ≤ c ∧ c < 256) : BitVec.ofInt 32 (turned c p) ^^^ BitVec.ofInt 32 c = 1#32 <<< (p % 8) := by
  rw [turned, (xor_u8 _ _ h (bit_range p)).2, bit_word, BitVec.xor_comm, ← BitVec.xor_assoc, BitVec.xor_self, BitVec.zero_xor]

/-- the sum of bytes of which the bit of place p was turned -/
theorem more_turned (l : List Int) (p : Nat) (hp : p / 8 < l.length) (hr : ∀ x ∈ l, 0 ≤ x ∧ x < 256) :
    M.more 0#32 (l.set (p / 8) (turned (l.getD (p / 8) 0) p)) = M.more 0#32 l ^^^ M.iter (8 * (l.length - p / 8)) (1#32 <<< (p % 8)) := by
  have hm : l.getD (p / 8) 0 ∈ l := by rw [List.getD_eq_getElem?_getD]; simp [hp]
  rw [M.more_set l (p / 8) hp, turned_word _ _ (hr _ hm)]

theorem more_turned_ne (l : List Int) (p : Nat) (hp : p / 8 < l.length) (hr : ∀ x ∈ l, 0 ≤ x ∧ x < 256) :
    M.more 0#32 (l.set (p / 8) (turned (l.getD (p / 8) 0) p)) ≠ M.more 0#32 l := by
  rw [more_turned l p hp hr]
  intro h
  have : M.iter (8 * (l.length - p / 8)) (1#32 <<< (p % 8)) = 0#32 := by
    have h2 : M.more 0#32 l ^^^ (M.more 0#32 l ^^^ M.iter (8 * (l.length - p / 8)) (1#32 <<< (p % 8))) = M.more 0#32 l ^^^ M.more 0#32 l := by rw [h]
    rw [← BitVec.xor_assoc, BitVec.xor_self, BitVec.zero_xor] at h2
    exact h2
  exact M.iter_ne (bit_word_ne p) this

theorem set_back (l : List Int) (i : Nat) (v : Int) (hi : i < l.length) : (l.set i v).set i (l.getD i 0) = l := by
  rw [List.set_set]
  apply List.ext_getElem?
  intro j
  rw [List.getElem?_set]
  split
  · rename_i h; subst h; simp [hi, List.getD_eq_getElem?_getD]
  · rfl

/-- what the statement 'one byte, told apart from one bit' leaves of a row of the call's own -/
theorem own_flip {w : World} {B g n cap : Nat} {l : List Int} (p : Nat) (c : Int) (h : Own w B (some ⟨g, 0, none⟩) n cap l) (hp : p / 8 < n) (hc : l.getD (p / 8) 0 = c) :
    Own (w.setCell ⟨g, p / 8, none⟩ (.int .u8 (bits .xor .u8 c ((2 : Int) ^ (p % 8) % 256)))).drew B (some ⟨g, 0, none⟩) n cap (l.set (p / 8) (turned c p)) ∧
    (w.setCell ⟨g, p / 8, none⟩ (.int .u8 (bits .xor .u8 c ((2 : Int) ^ (p % 8) % 256)))).drew.cell? ⟨g, p / 8, none⟩ = some (.int .u8 (turned c p)) ∧
    (w.setCell ⟨g, p / 8, none⟩ (.int .u8 (bits .xor .u8 c ((2 : Int) ^ (p % 8) % 256)))).drew.frozen? ⟨g, p / 8, none⟩ = false ∧
    Below B w (w.setCell ⟨g, p / 8, none⟩ (.int .u8 (bits .xor .u8 c ((2 : Int) ^ (p % 8) % 256)))).drew ∧
    (0 ≤ c ∧ c < 256) ∧ (0 ≤ turned c p ∧ turned c p < 256) := by
  have hm : c ∈ l := by
    have hl := h.2.1
    rw [← hc, List.getD_eq_getElem?_getD]; simp [hl, hp]
  have hcr := h.2.2.2 c hm
  have hr := turned_range c p hcr
  have ho := own_drew (own_set h (p / 8) (turned c p) hr)
  obtain ⟨g', he, hB, _, _, h4, h5⟩ := own_at ho (by omega)
  injection he with he
  injection he with he1 he2 he3
  subst he1
  refine ⟨ho, ?_, h5 (p / 8), ((Below.refl B w).setCell (p := ⟨g, p / 8, none⟩) hB _).drew, hcr, hr⟩
  have := h4 (p / 8) hp
  rw [List.getD_eq_getElem?_getD, List.getElem?_set_self (by have hl := h.2.1; omega)] at this
  exact this

theorem bit_up (x : BitVec 32) (i : Nat) : (bits .and .u32 ((x.toNat : Int) / ((2 : Int) ^ i)) 1 == 1) = x.getLsbD i := by
  have e : (x.toNat : Int) / ((2 : Int) ^ i) = (((x >>> i).toNat : Nat) : Int) := by
    rw [BitVec.toNat_ushiftRight, Nat.shiftRight_eq_div_pow]
    simp
  rw [e, low_bit]
  have h := M.and_one (x >>> i)
  rw [BitVec.getLsbD_ushiftRight] at h
  rw [Bool.eq_iff_iff, decide_eq_true_eq]
  exact h

/-- what the loop that turns bits holds on to: so far the bits of q were turned, from place p on, all of them below place k; b tells whether there was one -/
def Turning (w : World) (B g n cap : Nat) (l : List Int) (p k : Nat) (b : Bool) : Prop :=
  ∃ (q : BitVec 32) (l' : List Int), Own w B (some ⟨g, 0, none⟩) n cap l' ∧ M.more 0#32 l' = M.more 0#32 l ^^^ M.iter (8 * n - p) q ∧ (b = true ↔ q ≠ 0#32) ∧ ∀ j, k ≤ j → q.getLsbD j = false

theorem turning_start {w : World} {B g n cap : Nat} {l : List Int} {p : Nat} (h : Own w B (some ⟨g, 0, none⟩) n cap l) : Turning w B g n cap l p 0 false :=
  ⟨0#32, l, h, by rw [M.iter_zero, BitVec.xor_zero], by simp, by simp⟩

theorem turning_on {w : World} {B g n cap : Nat} {l : List Int} {p k : Nat} {b : Bool} (h : Turning w B g n cap l p k b) : Turning w B g n cap l p (k + 1) b := by
  obtain ⟨q, l', h1, h2, h3, h4⟩ := h
  exact ⟨q, l', h1, h2, h3, fun j hj => h4 j (by omega)⟩

theorem iter_shifted (m k : Nat) (hk : k < 32) (hm : k ≤ m) : M.iter m (1#32 <<< k) = M.iter (m - k) 1#32 := by
  have e : m = k + (m - k) := by omega
  generalize m - k = r at *
  subst e
  rw [M.iter_add, M.iter_bit k hk]

/-- one bit more -/
theorem turning_flip {w : World} {B g n cap : Nat} {l : List Int} {p k : Nat} {l' : List Int} {q : BitVec 32} (hk : k < 32) (hin : (p + k) / 8 < n)
    (h1 : Own w B (some ⟨g, 0, none⟩) n cap l') (h2 : M.more 0#32 l' = M.more 0#32 l ^^^ M.iter (8 * n - p) q) (h4 : ∀ j, k ≤ j → q.getLsbD j = false) (w' : World)
    (h' : Own w' B (some ⟨g, 0, none⟩) n cap (l'.set ((p + k) / 8) (turned (l'.getD ((p + k) / 8) 0) (p + k)))) : Turning w' B g n cap l p (k + 1) true := by
  refine ⟨q ^^^ (1#32 <<< k), _, h', ?_, ?_, ?_⟩
  · have hl := h1.2.1
    rw [more_turned l' (p + k) (by omega) h1.2.2.2, h2, M.iter_xor, BitVec.xor_assoc]
    congr 2
    rw [hl, iter_shifted _ _ (by omega) (by omega), iter_shifted _ _ hk (by omega)]
    congr 1
    omega
  · refine ⟨fun _ hz => ?_, fun _ => rfl⟩
    have hb := congrArg (fun y : BitVec 32 => y.getLsbD k) hz
    have hq := h4 k (Nat.le_refl _)
    have h5 : (1#32 <<< k).getLsbD k = true := by
      have : ∀ j : Fin 32, (1#32 <<< j.val).getLsbD j.val = true := by decide +kernel
      exact this ⟨k, hk⟩
    simp only [BitVec.getLsbD_xor, hq, h5] at hb
    simp at hb
  · intro j hj
    rw [BitVec.getLsbD_xor, h4 j (by omega), BitVec.getLsbD_shiftLeft]
    by_cases hj2 : j < 32
    · rw [BitVec.getLsbD_one]
      rw [show (decide (j - k = 0)) = false from decide_eq_false (by omega)]
      simp
    · simp [show ¬ j < 32 from hj2]

theorem own_cell {w : World} {B g n cap : Nat} {l : List Int} (h : Own w B (some ⟨g, 0, none⟩) n cap l) (i : Nat) (hi : i < n) :
    w.cell? ⟨g, i, none⟩ = some (.int .u8 (l.getD i 0)) ∧ w.frozen? ⟨g, i, none⟩ = false := by
  obtain ⟨g', he, _, _, _, h4, h5⟩ := own_at h (by omega)
  injection he with he
  injection he with he1 he2 he3
  subst he1
  exact ⟨h4 i hi, h5 i⟩

theorem turning_ne {w : World} {B g n cap : Nat} {l : List Int} {p k : Nat} {b : Bool} (h : Turning w B g n cap l p k b) (hb : b = true) :
    ∃ l', Row w (some ⟨g, 0, none⟩) n l' ∧ M.more 0#32 l' ≠ M.more 0#32 l := by
  obtain ⟨q, l', h1, h2, h3, h4⟩ := h
  refine ⟨l', own_row h1, fun e => ?_⟩
  rw [e] at h2
  have h5 : M.more 0#32 l ^^^ M.more 0#32 l = M.more 0#32 l ^^^ (M.more 0#32 l ^^^ M.iter (8 * n - p) q) := by rw [← h2]
  rw [← BitVec.xor_assoc, BitVec.xor_self, BitVec.zero_xor] at h5
  exact M.iter_ne (h3.1 hb) h5.symm

theorem step_append_bytes (w : World) {ops : Array Oper} {o : Oper} {act : Act} {K : Act → World → Prop} {Q : Exit → Act → World → Prop} {E : Prop} (hgd : o.guard = none) (s x : Operand)
    (ho : o.op = .call { callee := .builtin .append, args := #[s, x], argTypes := #[22, 22] })
    (B : Nat) (a : Option Addr) (n cap : Nat) (l : List Int) (hs : act.eval s = .slice a n cap) (hown : Own w B a n cap l)
    (A : Option Addr) (m c : Nat) (y : List Int) (hx : act.eval x = .slice A m c) (hr : Row w A m y)
    (k : Nat) (hk : n + m = k) (ly : List Int) (hly : l ++ y = ly) (hsum : k ≤ 140737488355328) (hB : B ≤ w.heap.size)
    (h : ∀ a' cap' w', Own w' B a' k cap' ly → Below B w w' → K (act.put o.dst (.slice a' k cap')) w') :
    if Region.wanted o (yielded ops act.tmps) = true then Oper.wp Try.prog o act w K Q else E := by
  have hw : Region.wanted o (yielded ops act.tmps) = true := by simp [Region.wanted, hgd]
  rw [if_pos hw]
  subst hk
  subst hly
  obtain ⟨a', cap', w', hrun, h2, h3⟩ := run_append_bytes w o.type B a n cap l hown A m c y hr hsum hB
  unfold Oper.wp execOp
  simp only [ho, resolve, invoke, builtin, Sem.run_bind, Sem.run_pure, Result.andThen_ok, List.map_toArray, List.map_cons, List.map_nil, hs, hx, hrun]
  exact h a' cap' w' h2 h3

theorem own_alloc {w : World} {B : Nat} {a : Option Addr} {n cap : Nat} {l : List Int} (h : Own w B a n cap l) (o : Obj) : Own (w.alloc o) B a n cap l := ⟨h.1.alloc o, h.2⟩

theorem row_one (w : World) (v : Int) (hv : 0 ≤ v ∧ v < 256) : Row (w.alloc (.cells #[.int .u8 v] 5)) (some ⟨w.heap.size, 0, none⟩) 1 [v] := by
  refine ⟨rfl, by omega, by simp; exact hv, .inr ⟨w.heap.size, 0, rfl, fun i hi => ?_⟩⟩
  have : i = 0 := by simpa using hi
  subst this
  rw [World.cell?_alloc_mark]
  rfl

theorem row_drew {w : World} {a : Option Addr} {n : Nat} {l : List Int} (h : Row w a n l) : Row w.drew a n l := h
theorem row_drewN {w : World} {a : Option Addr} {n : Nat} {l : List Int} (h : Row w a n l) (k : Nat) : Row (w.drewN k) a n l := h

/-- three bytes told apart -/
def three (x y z : List Int) (i : Nat) : Int := bits .xor .u8 (bits .xor .u8 (x.getD i 0) (y.getD i 0)) (z.getD i 0)

theorem take_range (l : List Int) (n : Nat) (h : n ≤ l.length) : l.take n = (List.range n).map (fun i => l.getD i 0) := by
  apply List.ext_getElem?
  intro i
  rw [List.getElem?_take, List.getElem?_map]
  by_cases hi : i < n
  · rw [if_pos hi, List.getElem?_range hi]
    simp [List.getD_eq_getElem?_getD, show i < l.length by omega]
  · rw [if_neg hi, List.getElem?_eq_none (by simp; omega)]
    rfl

theorem more_rows (x y z : List Int) (n : Nat) (hx : n ≤ x.length) (hy : n ≤ y.length) (hz : n ≤ z.length)
    (rx : ∀ v ∈ x, 0 ≤ v ∧ v < 256) (ry : ∀ v ∈ y, 0 ≤ v ∧ v < 256) (rz : ∀ v ∈ z, 0 ≤ v ∧ v < 256) :
    M.more 0#32 ((List.range n).map (three x y z)) = M.more 0#32 (x.take n) ^^^ M.more 0#32 (y.take n) ^^^ M.more 0#32 (z.take n) := by
  have hin : ∀ (l : List Int) i, i < l.length → (∀ v ∈ l, 0 ≤ v ∧ v < 256) → 0 ≤ l.getD i 0 ∧ l.getD i 0 < 256 := by
    intro l i hi hr
    exact hr _ (by rw [List.getD_eq_getElem?_getD]; simp [hi])
  have h := M.run_rows (fun i => x.getD i 0) (fun i => y.getD i 0) (fun i => z.getD i 0) n (~~~ 0#32) (~~~ 0#32) (~~~ 0#32) (three x y z) (fun i hi => by
    have h1 := xor_u8 _ _ (hin x i (by omega) rx) (hin y i (by omega) ry)
    have h2 := xor_u8 _ _ h1.1 (hin z i (by omega) rz)
    show BitVec.ofInt 32 (three x y z i) = _
    unfold three
    rw [h2.2, h1.2])
  rw [take_range x n hx, take_range y n hy, take_range z n hz]
  unfold M.more
  rw [show ~~~ 0#32 ^^^ ~~~ 0#32 ^^^ ~~~ 0#32 = ~~~ 0#32 from by decide] at h
  rw [h]
  apply BitVec.eq_of_getLsbD_eq
  intro i hi
  simp [hi]

theorem three_range (x y z : List Int) (k : Nat) (rx : ∀ v ∈ x, 0 ≤ v ∧ v < 256) (ry : ∀ v ∈ y, 0 ≤ v ∧ v < 256) (rz : ∀ v ∈ z, 0 ≤ v ∧ v < 256)
    (hx : k < x.length) (hy : k < y.length) (hz : k < z.length) :
    0 ≤ bits .xor .u8 (bits .xor .u8 (x.getD k 0) (y.getD k 0)) (z.getD k 0) ∧ bits .xor .u8 (bits .xor .u8 (x.getD k 0) (y.getD k 0)) (z.getD k 0) < 256 := by
  have hin : ∀ (l : List Int), k < l.length → (∀ v ∈ l, 0 ≤ v ∧ v < 256) → 0 ≤ l.getD k 0 ∧ l.getD k 0 < 256 := by
    intro l hi hr
    exact hr _ (by rw [List.getD_eq_getElem?_getD]; simp [hi])
  exact (xor_u8 _ _ (xor_u8 _ _ (hin x hx rx) (hin y hy ry)).1 (hin z hz rz)).1

theorem range_next (x y z : List Int) (k : Nat) :
    (List.range k).map (three x y z) ++ [bits .xor .u8 (bits .xor .u8 (x.getD k 0) (y.getD k 0)) (z.getD k 0)] = (List.range (k + 1)).map (three x y z) := by
  rw [List.range_succ, List.map_append]
  rfl

theorem sum_quiet {W : World} {m : Nat} {a : Option Addr} {len cap : Nat} {l : List Int} (h : Row W a len l) :
    Calls Try.prog 12 #[.slice a len cap] (W.drewN m) fun e w'' => e = .returned (.int .u32 ((M.more 0#32 l).toNat : Int)) ∧ ∃ j, w'' = W.drewN j :=
  (sum_any a len cap l _ (row_drewN h m)).mono fun _ _ ⟨he, hw⟩ => ⟨he, m, hw.symm⟩

theorem part_row {w : World} {a : Option Addr} {len cap n : Nat} {l : List Int} (h : Part w a len cap l) (hn : n ≤ len) (hm : n ≤ 140737488355328) : Row w a n (l.take n) := by
  obtain ⟨h1, h2, h3, h4⟩ := h
  have hl : (l.take n).length = n := by rw [List.length_take]; omega
  refine ⟨hl, hm, fun v hv => h3 v (List.mem_of_mem_take hv), ?_⟩
  rcases h4 with h4 | ⟨b, off, rfl, hb, hc⟩
  · refine .inl (List.eq_nil_of_length_eq_zero ?_)
    omega
  · refine .inr ⟨b, off, rfl, fun i hi => ?_⟩
    rw [List.getD_eq_getElem?_getD, List.getElem?_take, if_pos (by omega), ← List.getD_eq_getElem?_getD]
    exact hc i (by omega)

/-- where a row that is not empty lies -/
theorem row_lies {w : World} {a : Option Addr} {n : Nat} {l : List Int} (h : Row w a n l) : l = [] ∨ ∃ b off, a = some ⟨b, off, none⟩ ∧ b < w.heap.size := by
  obtain ⟨h1, h2, h3, h4⟩ := h
  rcases h4 with h4 | ⟨b, off, ha, hc⟩
  · exact .inl h4
  · by_cases h0 : l.length = 0
    · exact .inl (List.eq_nil_of_length_eq_zero h0)
    · exact .inr ⟨b, off, ha, World.block_lt_of_cell? w _ (hc 0 (by omega))⟩

theorem row_keep {w w' : World} {B : Nat} {a : Option Addr} {n : Nat} {l : List Int} (h : Row w a n l) (hl : l = [] ∨ ∃ b off, a = some ⟨b, off, none⟩ ∧ b < B) (hb : Below B w w') : Row w' a n l := by
  obtain ⟨h1, h2, h3, h4⟩ := h
  refine ⟨h1, h2, h3, ?_⟩
  rcases hl with hl | ⟨b, off, ha, hlt⟩
  · exact .inl hl
  · rcases h4 with h4 | ⟨b', off', ha', hc⟩
    · exact .inl h4
    · rw [ha] at ha'
      injection ha' with ha'
      injection ha' with e1 e2 e3
      subst e1 e2
      exact .inr ⟨b, off, ha, fun i hi => by rw [hb.cell (p := ⟨b, off + i, none⟩) hlt]; exact hc i hi⟩
end Go.Proofs.Ytoaebaglahhpbaa
