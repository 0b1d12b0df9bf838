/-
  A log, its device and all that holds, as one, through the calls; what the acts' numbers are.
-/
import Derived.Test.YtbmgaopdahlkkaaLActs
namespace Go.Proofs.Ytbmgaopdahlkkaa
open Go.RowKit
set_option linter.unusedVariables false
set_option linter.unusedSimpArgs false
set_option maxRecDepth 20000

variable {w0 : World} {dB sB mB n : Nat} {d : M.Dv} {lB rb cB first N a b : Nat} {c : M.Cl} {L : M.Lg} {K : Int}

theorem and31 (x : Int) : ∃ m : Nat, m < 32 ∧ bits .and .i64 x 31 = (m : Int) := by
  refine ⟨((BitVec.ofInt 64 x).toNat % 32), Nat.mod_lt _ (by decide), ?_⟩
  have h1 : bits .and .i64 x 31 = IntKind.i64.wrap (((BitVec.ofInt 64 x) &&& (BitVec.ofInt 64 31)).toNat : Int) := rfl
  have h2 : ((BitVec.ofInt 64 x) &&& (BitVec.ofInt 64 31)).toNat = (BitVec.ofInt 64 x).toNat % 32 := by
    rw [BitVec.toNat_and]
    have : (BitVec.ofInt 64 31).toNat = 2 ^ 5 - 1 := by decide
    rw [this, Nat.and_two_pow_sub_one_eq_mod]
  have h3 : (BitVec.ofInt 64 x).toNat % 32 < 32 := Nat.mod_lt _ (by decide)
  rw [h1, h2]
  generalize (BitVec.ofInt 64 x).toNat % 32 = m at *
  simp [IntKind.wrap, IntKind.bits, IntKind.signed]
  omega

/-- a call's own device and log -/
structure Run (w0 w : World) (dB sB mB n : Nat) (d : M.Dv) (lB rb cB first N a b : Nat) (c : M.Cl) (L : M.Lg) (K : Int) : Prop where
  dv : DevAt w dB sB mB n d
  fr : Free d
  lg : LG w dB sB mB n d lB rb cB first N a b c L K
  be : Below w0.heap.size w0 w
  od : w0.heap.size ≤ dB ∧ w0.heap.size ≤ sB ∧ w0.heap.size ≤ mB
  ol : w0.heap.size ≤ lB ∧ w0.heap.size ≤ rb ∧ w0.heap.size ≤ cB

theorem Run.below {w w' : World} (h : Run w0 w dB sB mB n d lB rb cB first N a b c L K) (hb : Below w.heap.size w w') : Run w0 w' dB sB mB n d lB rb cB first N a b c L K :=
  ⟨h.dv.but (But.of_below hb) (by simp) (by simp) (by simp), h.fr, h.lg.below hb, h.be.trans (hb.mono h.be.size), h.od, h.ol⟩
theorem Run.mono {w : World} {K' : Int} (h : Run w0 w dB sB mB n d lB rb cB first N a b c L K) (hk : K ≤ K') : Run w0 w dB sB mB n d lB rb cB first N a b c L K' := ⟨h.dv, h.fr, h.lg.mono hk, h.be, h.od, h.ol⟩

theorem Run.append {w : World} (h : Run w0 w dB sB mB n d lB rb cB first N a b c L K) (hK : K ≤ 1000000000) (s : ByteArray) :
    Calls Try.prog 11 #[.pointer (some ⟨lB, 0, none⟩), .string s] w fun e w' => ∃ d' rb', e = .returned (.int .i64 (M.appR N L s)) ∧ Run w0 w' dB sB mB n d' lB rb' cB first N a b c (M.appL (M.appR N L s) L s) (K + 1) ∧
      But [dB, mB, lB, rb] w w' ∧ (rb' = rb ∨ w.heap.size ≤ rb') ∧ (∀ j : Nat, j ≠ M.place first N L.tail → M.seen d' j = M.seen d j) := by
  refine (append_lg w h.dv h.fr h.lg hK s).mono ?_
  rintro e w' ⟨rfl, d', rb', hd', hf', hg', hr', hb', hs'⟩
  refine ⟨d', rb', rfl, ⟨hd', hf', hg', h.be.trans (hb'.to_below (by have := h.od; have := h.ol; simp; omega) h.be.size), h.od, ⟨h.ol.1, by have := h.be.size; have := h.ol; omega, h.ol.2.2⟩⟩, hb', hr', hs'⟩

theorem Run.sync {w : World} (h : Run w0 w dB sB mB n d lB rb cB first N a b c L K) :
    Calls Try.prog 19 #[.pointer (some ⟨lB, 0, none⟩)] w fun e w' => ∃ d', e = .returned (.int .i64 0) ∧ Run w0 w' dB sB mB n d' lB rb cB first N a b c L K ∧ But [dB, sB, mB] w w' ∧ (∀ j : Nat, M.seen d' j = M.seen d j) := by
  refine (sync_lg w h.dv h.fr h.lg).mono ?_
  rintro e w' ⟨rfl, d', hd', hf', hg', hb', hs', _⟩
  exact ⟨d', rfl, ⟨hd', hf', hg', h.be.trans (hb'.to_below (by have := h.od; simp; omega) h.be.size), h.od, h.ol⟩, hb', hs'⟩

/-- what Trim tells and makes, for a head that is moved by m -/
def M.cutR (L : Lg) (m : Nat) : Int := if m ≤ L.rs.length then 0 else 1
def M.cutL (L : Lg) (m : Nat) : Lg := if m ≤ L.rs.length then L.cut m else L

theorem Run.trim {w : World} (h : Run w0 w dB sB mB n d lB rb cB first N a b c L K) (hK : K ≤ 1000000000) (m : Nat) :
    Calls Try.prog 12 #[.pointer (some ⟨lB, 0, none⟩), .int .i64 (L.head + m)] w fun e w' => ∃ d' c', e = .returned (.int .i64 (M.cutR L m)) ∧ Run w0 w' dB sB mB n d' lB rb cB first N a b c' (M.cutL L m) (K + 1) ∧
      But [dB, sB, mB, cB, lB, rb] w w' ∧ (∀ j : Nat, j ≠ a → j ≠ b → M.seen d' j = M.seen d j) := by
  by_cases hm : m ≤ L.rs.length
  · have e1 : M.cutR L m = 0 := if_pos hm
    have e2 : M.cutL L m = L.cut m := if_pos hm
    rw [e1, e2]
    refine (trim_lg w h.dv h.fr h.lg hK m hm).mono ?_
    rintro e w' ⟨rfl, d', c', hd', hf', hg', hb', hs', _⟩
    exact ⟨d', c', rfl, ⟨hd', hf', hg', h.be.trans (hb'.to_below (by have := h.od; have := h.ol; simp; omega) h.be.size), h.od, h.ol⟩, hb', hs'⟩
  · have e1 : M.cutR L m = 1 := if_neg hm
    have e2 : M.cutL L m = L := if_neg hm
    rw [e1, e2]
    refine (trim_no w h.dv h.lg hK (L.head + m) (.inr (by unfold M.Lg.tail; omega))).mono ?_
    rintro e w' ⟨rfl, hb⟩
    exact ⟨d, c, rfl, (h.below hb).mono (by omega), (But.of_below hb).mono (by simp), fun _ _ _ => rfl⟩

theorem Run.records {w : World} (h : Run w0 w dB sB mB n d lB rb cB first N a b c L K) :
    Calls Try.prog 15 #[.pointer (some ⟨lB, 0, none⟩)] w fun e w' => ∃ aR cR, e = .returned (.slice aR L.rs.length cR) ∧ C.Own 9 w' w.heap.size aR L.rs.length cR (C.strs (L.rs.map (·.s))) ∧ Below w.heap.size w w' := records_any w L h.lg.la

theorem cut_time (L : M.Lg) (m : Nat) : (M.cutL L m).time = L.time := by unfold M.cutL; split <;> rfl
theorem cut_head (L : M.Lg) (m : Nat) : (M.cutL L m).head = if M.cutR L m = 0 then L.head + m else L.head := by
  unfold M.cutL M.cutR; split <;> rfl
theorem cut_tail2 (L : M.Lg) (m : Nat) : (M.cutL L m).tail = L.tail := by
  unfold M.cutL; split
  · exact M.cut_tail L (by assumption)
  · rfl
theorem app_head (e : Int) (L : M.Lg) (s : ByteArray) : (M.appL e L s).head = L.head := by unfold M.appL; split <;> rfl
theorem app_time (e : Int) (L : M.Lg) (s : ByteArray) : (M.appL e L s).time = L.time := by unfold M.appL; split <;> rfl
theorem app_tail (e : Int) (L : M.Lg) (s : ByteArray) : (M.appL e L s).tail = if e = 0 then L.tail + 1 else L.tail := by
  unfold M.appL; split
  · exact M.add_tail L s
  · rfl
theorem appR_in (N : Nat) (L : M.Lg) (s : ByteArray) : M.appR N L s = 0 ∨ M.appR N L s = 3 ∨ M.appR N L s = 12 := by
  unfold M.appR; split
  · exact .inr (.inl rfl)
  · split
    · exact .inr (.inr rfl)
    · exact .inl rfl
end Go.Proofs.Ytbmgaopdahlkkaa
