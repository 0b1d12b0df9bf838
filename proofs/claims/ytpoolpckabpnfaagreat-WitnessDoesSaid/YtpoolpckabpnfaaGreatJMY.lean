/-
  Messages compared; the calls that awake makes.
  The document's own answer to whether a message may be.
-/
import Derived.Test.YtpoolpckabpnfaaGreatMlDec
import Derived.ChangeKeysEq
import Derived.Deep.CutBlock
import Derived.Deep.DeepCutAuto
namespace Go.Proofs.YtpoolpckabpnfaaGreat.Ml
open Go.RowKit
open C (str)
set_option linter.unusedVariables false
set_option linter.unusedSimpArgs false
set_option maxRecDepth 20000

theorem mg_struct : Tryz.prog.underlying 37 = some (.struct (Tryz.prog.fieldsOf 37)) := by kernel_rfl
theorem mg_held : Tryz.prog.stoodInHeld 37 = false := by kernel_rfl
theorem mg_guard : Tryz.prog.eqGuardType Tryz.prog.depth 37 = false := by kernel_rfl
theorem toList_inj {a b : ByteArray} (h : a.toList = b.toList) : a = b := by
  rw [ByteArray.toList_eq, ByteArray.toList_eq] at h
  obtain ⟨⟨x⟩⟩ := a
  obtain ⟨⟨y⟩⟩ := b
  simp only at h
  rw [h]
theorem toList_ne {a b : ByteArray} (h : a ≠ b) : ¬ a.toList = b.toList := fun e => h (toList_inj e)
theorem arr_eql (w : World) (x0 x1 x2 x3 y0 y1 y2 y3 : Int) : (Op.equalIn 9999 35 (.agg #[.int .i64 x0, .int .i64 x1, .int .i64 x2, .int .i64 x3]) (.agg #[.int .i64 y0, .int .i64 y1, .int .i64 y2, .int .i64 y3])).run Tryz.prog w = .ok (decide (x0 = y0 ∧ x1 = y1 ∧ x2 = y2 ∧ x3 = y3)) w := by
  obtain ⟨i, hi, _⟩ := info_parts C.i64_info
  have u2 := Tryz.underlying2
  have z2 := Tryz.sizeOf2
  have c2 : Tryz.prog.cellsOf 2 = 1 := by kernel_rfl
  rw [show (9999 : Nat) = 9998 + 1 from rfl, run_equalIn_array w 9998 _ _ Tryz.underlying35 hi, c2]
  simp only [show List.range 4 = [0, 1, 2, 3] from rfl, Op.eqItems]
  go_simp
  by_cases h0 : x0 = y0 <;> by_cases h1 : x1 = y1 <;> by_cases h2 : x2 = y2 <;> by_cases h3 : x3 = y3 <;> simp [h0, h1, h2, h3]
theorem mg_eq (x y : Mg) : x = y ↔ (x.kind = y.kind ∧ x.epoch = y.epoch ∧ x.seq = y.seq ∧ x.n = y.n ∧ x.block = y.block ∧ x.client = y.client ∧ x.e = y.e ∧ (x.t0 = y.t0 ∧ x.t1 = y.t1 ∧ x.t2 = y.t2 ∧ x.t3 = y.t3) ∧ x.data = y.data ∧ x.row = y.row) := by
  obtain ⟨kind, epoch, seq, n, block, client, e, t0, t1, t2, t3, data, row⟩ := x
  obtain ⟨kind', epoch', seq', n', block', client', e', t0', t1', t2', t3', data', row'⟩ := y
  simp only [Mg.mk.injEq, and_assoc]
theorem toList_iff {a b : ByteArray} : a.toList = b.toList ↔ a = b := ⟨toList_inj, fun h => by rw [h]⟩
theorem msg_equal (x y : Mg) (w : World) : (Op.equalIn 10000 37 (msgV x) (msgV y)).run Tryz.prog w = .ok (decide (x = y)) w := by
  have u3 := Tryz.underlying3
  have u9 := Tryz.underlying9
  have z3 := Tryz.sizeOf3
  have z9 := Tryz.sizeOf9
  unfold msgV
  rw [show (10000 : Nat) = 9999 + 1 from rfl, run_equalIn_agg w 9999 37 _ _ mg_struct mg_held]
  simp only [Program.fieldsOf, Tryz.underlying37, Mg.cells]
  go_simp
  have ha := arr_eql w x.t0 x.t1 x.t2 x.t3 y.t0 y.t1 y.t2 y.t3
  simp only [ha, Result.andThen_ok, toList_iff]
  have he := mg_eq x y
  by_cases h0 : x.kind = y.kind
  · by_cases h1 : x.epoch = y.epoch
    · by_cases h2 : x.seq = y.seq
      · by_cases h3 : x.n = y.n
        · by_cases h4 : x.block = y.block
          · by_cases h5 : x.client = y.client
            · by_cases h6 : x.e = y.e
              · by_cases h7 : (x.t0 = y.t0 ∧ x.t1 = y.t1 ∧ x.t2 = y.t2 ∧ x.t3 = y.t3)
                · by_cases h8 : x.data = y.data
                  · by_cases h9 : x.row = y.row
                    · simp [h0, h1, h2, h3, h4, h5, h6, h7, h8, h9, he]
                    · simp [h0, h1, h2, h3, h4, h5, h6, h7, h8, h9, he]
                  · simp [h0, h1, h2, h3, h4, h5, h6, h7, h8, he]
                · simp [h0, h1, h2, h3, h4, h5, h6, h7, he]
              · simp [h0, h1, h2, h3, h4, h5, h6, he]
            · simp [h0, h1, h2, h3, h4, h5, he]
          · simp [h0, h1, h2, h3, h4, he]
        · simp [h0, h1, h2, h3, he]
      · simp [h0, h1, h2, he]
    · simp [h0, h1, he]
  · simp [h0, he]
theorem msg_eql (x y : Mg) (w : World) : (binOp .eql 37 (msgV x) (msgV y)).run Tryz.prog w = .ok (.bool (decide (x = y))) w := by
  have := msg_equal x y w
  unfold msgV at *
  rw [run_eql_struct, this]
  rfl
theorem msg_neq (x y : Mg) (w : World) : (binOp .neq 37 (msgV x) (msgV y)).run Tryz.prog w = .ok (.bool (!decide (x = y))) w := by
  have := msg_equal x y w
  unfold msgV at *
  rw [run_neq_struct, this]
  rfl

/-- the chapter's example -/
def M0 : Mg := ⟨1, 2, 0, 0, -1, 0, 0, 0, 0, 0, 0, ⟨#[]⟩, ⟨#[]⟩⟩
def S0 : ByteArray := ⟨#[1, 42, 4, 0, 0, 1, 0, 0, 0, 0, 0, 0, 0, 0]⟩
theorem m0_may : may M0 = true := by decide +kernel
theorem nil_may : may nil = false := by decide +kernel
theorem m0_bytes : str (bytes M0) = S0 := by decide +kernel
theorem m0_read : read S0.data.toList = some M0 := by
  have h : S0.data.toList = bytes M0 := by decide +kernel
  rw [h]; exact read_bytes m0_may
theorem q_read : read (⟨#[63]⟩ : ByteArray).data.toList = none := by
  have h : (match read (⟨#[63]⟩ : ByteArray).data.toList with | none => true | some _ => false) = true := by decide +kernel
  cases hr : read (⟨#[63]⟩ : ByteArray).data.toList with
  | none => rfl
  | some m => rw [hr] at h; cases h

end Go.Proofs.YtpoolpckabpnfaaGreat.Ml
namespace Go.Proofs.YtpoolpckabpnfaaGreat.Ml
open Go.RowKit
set_option linter.unusedVariables false
set_option linter.unusedSimpArgs false
set_option maxRecDepth 20000

/-- one box, whatever is made behind it -/
theorem one_box (w : World) (a : Mg) {w' : World} (hb : Below (w.alloc (.cells a.cells 37)).heap.size (w.alloc (.cells a.cells 37)) w') : MB w' w.heap.size a ∧ Below w.heap.size w w' :=
  ⟨(MB.new w a).below hb (by simp), ((Below.refl w.heap.size w).alloc (Nat.le_refl _) (.cells a.cells 37)).trans (hb.mono (by simp))⟩
theorem rwithin_any (w : World) (k low high : Int) : Calls Tryz.prog 59 #[.int .i64 k, .int .i64 low, .int .i64 high] w fun e w' => e = .returned (.bool (decide (low ≤ k ∧ k ≤ high))) ∧ w = w' := by
  by_cases h1 : low ≤ k
  · by_cases h2 : k ≤ high
    · rw [show decide (low ≤ k ∧ k ≤ high) = true by simp [h1, h2]]
      have d1 : decide (low ≤ k) = true := decide_eq_true h1
      have d2 : decide (k ≤ high) = true := decide_eq_true h2
      go_enter Tryz.func59, Tryz.ntmps59
      go_wp2
      go_ret
      exact ⟨rfl, rfl⟩
    · rw [show decide (low ≤ k ∧ k ≤ high) = false by simp [h2]]
      have d1 : decide (low ≤ k) = true := decide_eq_true h1
      have d2 : decide (k ≤ high) = false := decide_eq_false h2
      go_enter Tryz.func59, Tryz.ntmps59
      go_wp2
      go_ret
      exact ⟨rfl, rfl⟩
  · rw [show decide (low ≤ k ∧ k ≤ high) = false by simp [h1]]
    have d1 : decide (low ≤ k) = false := decide_eq_false h1
    go_enter Tryz.func59, Tryz.ntmps59
    go_wp2
    go_ret
    exact ⟨rfl, rfl⟩
theorem rwithin_yes (w : World) {k low high : Int} (h : low ≤ k ∧ k ≤ high) : Calls Tryz.prog 59 #[.int .i64 k, .int .i64 low, .int .i64 high] w fun e w' => e = .returned (.bool true) ∧ w = w' := by
  have := rwithin_any w k low high
  rwa [decide_eq_true h] at this
theorem rwithin_no (w : World) {k low high : Int} (h : ¬ (low ≤ k ∧ k ≤ high)) : Calls Tryz.prog 59 #[.int .i64 k, .int .i64 low, .int .i64 high] w fun e w' => e = .returned (.bool false) ∧ w = w' := by
  have := rwithin_any w k low high
  rwa [decide_eq_false h] at this

def Mg.ts (m : Mg) : List Int := [m.t0, m.t1, m.t2, m.t3]
theorem ts_cell {w : World} {g : Nat} {m : Mg} (h : MB w g m) {k : Nat} (hk : k < 4) : ∃ v, m.ts[k]? = some v ∧ w.cell? ⟨g, 7 + k, none⟩ = some (.int .i64 v) := by
  obtain ⟨_, _, _, _, _, _, _, h7, h8, h9, h10, _, _⟩ := h.cells
  rcases k with _ | _ | _ | _ | k
  · exact ⟨m.t0, rfl, h7⟩
  · exact ⟨m.t1, rfl, h8⟩
  · exact ⟨m.t2, rfl, h9⟩
  · exact ⟨m.t3, rfl, h10⟩
  · omega
theorem may_ts {m : Mg} {k : Nat} {v : Int} (hv : m.ts[k]? = some v) (h : ¬ (0 ≤ v ∧ v ≤ 4611686018427387904)) : may m = false := by
  cases hm : may m with
  | false => rfl
  | true =>
    rw [may_iff] at hm
    simp only [big] at hm
    exfalso
    have hk := (List.getElem?_eq_some_iff.1 hv).1
    simp only [Mg.ts, List.length_cons, List.length_nil] at hk
    rcases k with _ | _ | _ | _ | k
    · simp [Mg.ts] at hv; omega
    · simp [Mg.ts] at hv; omega
    · simp [Mg.ts] at hv; omega
    · simp [Mg.ts] at hv; omega
    · omega

set_option maxHeartbeats 8000000 in
theorem refmay_any (w : World) (m : Mg) : Calls Tryz.prog 36 #[msgV m] w fun e w' => e = .returned (.bool (may m)) ∧ Below w.heap.size w w' := by
  have HM0 := Lib.hid (one_box w m (Below.refl _ _))
  have HV := Lib.hid (may_iff m)
  have HT := Lib.hid (fun (k : Nat) (v : Int) (hv : m.ts[k]? = some v) h => may_ts hv h)
  obtain ⟨kind, epoch, seq, n, block, client, e, t0, t1, t2, t3, data, row⟩ := m
  generalize hz : may ⟨kind, epoch, seq, n, block, client, e, t0, t1, t2, t3, data, row⟩ = z at *
  clear hz
  simp only [msgV, Mg.cells] at HM0 HV ⊢
  go_enter Tryz.func36, Tryz.ntmps36
  go_wp2
  go_loopw [3] (fun i wr => ∃ (k : Nat), k ≤ 4 ∧ i = .int .i64 (k : Int) ∧ MB wr w.heap.size ⟨kind, epoch, seq, n, block, client, e, t0, t1, t2, t3, data, row⟩ ∧ Below w.heap.size w wr ∧ ∀ (j : Nat) (v : Int), j < k → (Mg.ts ⟨kind, epoch, seq, n, block, client, e, t0, t1, t2, t3, data, row⟩)[j]? = some v → 0 ≤ v ∧ v ≤ 4611686018427387904) (fun i _ => 4 - (intOf i).toNat)
  case atStart => exact ⟨0, by omega, rfl, HM0.out.1, HM0.out.2, fun j v hj => by omega⟩
  case round =>
    obtain ⟨k, hk, rfl, hmb, hbe, hall⟩ := hrel
    have HMB := Lib.hid hmb
    have HB := Lib.hid hbe
    have HA := Lib.hid hall
    clear hmb hbe hall
    by_cases hlt : k < 4
    · have hltI : (k : Int) < 4 := by omega
      obtain ⟨v, hv, hc⟩ := ts_cell HMB.out hlt
      have HVk := Lib.hid hv
      clear hv
      by_cases hw : 0 ≤ v ∧ v ≤ 4611686018427387904
      · have HW := Lib.hid (fun w' => rwithin_yes w' hw)
        have Hw := Lib.hid hw
        clear hw
        go_wp2_with (go_at_call 59; with_reducible refine (HW.out _).mono ?_; rintro e1 w1 ⟨rfl, rfl⟩)
        go_roundw
        case rel => exact ⟨k + 1, by omega, by go_num, HMB.out, HB.out, fun j v' hj hv' => by
          by_cases hjk : j = k
          · subst hjk
            rw [HVk.out] at hv'; injection hv' with hv'; subst hv'
            exact Hw.out
          · exact HA.out j v' (by omega) hv'⟩
        case measure => simp [intOf]; omega
      · have HW := Lib.hid (fun w' => rwithin_no w' hw)
        have Hz := Lib.hid (HT.out k v HVk.out hw)
        clear hw
        go_wp2_with (go_at_call 59; with_reducible refine (HW.out _).mono ?_; rintro e1 w1 ⟨rfl, rfl⟩)
        go_ret
        exact ⟨by rw [Hz.out]; rfl, HB.out⟩
    · obtain rfl : k = 4 := by omega
      have a0 := HA.out 0 t0 (by omega) rfl
      have a1 := HA.out 1 t1 (by omega) rfl
      have a2 := HA.out 2 t2 (by omega) rfl
      have a3 := HA.out 3 t3 (by omega) rfl
      have HV2 : Hid (z = true ↔ (1 ≤ kind ∧ kind ≤ 15) ∧ (0 ≤ epoch ∧ epoch ≤ 4611686018427387904) ∧ (0 ≤ seq ∧ seq ≤ 4611686018427387904) ∧ (-4611686018427387904 ≤ n ∧ n ≤ 4611686018427387904) ∧ (-1 ≤ block ∧ block ≤ 31) ∧ (-1 ≤ client ∧ client ≤ 3) ∧ (0 ≤ e ∧ e ≤ 31) ∧ (data.size : Int) ≤ 40 ∧ (row.size : Int) ≤ 10) := Lib.hid (by
        have := HV.out
        simp only [big] at this
        rw [this]
        constructor
        · rintro ⟨h1, h2, h3, h4, h5, h6, h7, _, _, _, _, h8, h9⟩
          exact ⟨h1, h2, h3, h4, h5, h6, h7, by omega, by omega⟩
        · rintro ⟨h1, h2, h3, h4, h5, h6, h7, h8, h9⟩
          exact ⟨h1, h2, h3, h4, h5, h6, h7, a0, a1, a2, a3, by omega, by omega⟩)
      clear a0 a1 a2 a3 HV HT HM0 HA hk hlt
      obtain ⟨z0, z1, z2, z3, z4, z5, z6, z7, z8, z9, z10, z11, z12⟩ := HMB.out.cells
      simp only at z0 z1 z2 z3 z4 z5 z6 z7 z8 z9 z10 z11 z12
      by_cases h0 : 1 ≤ kind
      case neg =>
        have Hz : Hid (z = false) := Lib.hid (by cases hz : z with | false => rfl | true => (have := HV2.out.1 hz; exfalso; omega))
        have d0 : decide (1 ≤ kind) = false := decide_eq_false h0
        go_wp2
        go_ret
        exact ⟨by rw [Hz.out]; rfl, HB.out⟩
      have d0 : decide (1 ≤ kind) = true := decide_eq_true h0
      by_cases h1 : kind ≤ 15
      case neg =>
        have Hz : Hid (z = false) := Lib.hid (by cases hz : z with | false => rfl | true => (have := HV2.out.1 hz; exfalso; omega))
        have d1 : decide (kind ≤ 15) = false := decide_eq_false h1
        go_wp2
        go_ret
        exact ⟨by rw [Hz.out]; rfl, HB.out⟩
      have d1 : decide (kind ≤ 15) = true := decide_eq_true h1
      by_cases h2 : 0 ≤ epoch ∧ epoch ≤ 4611686018427387904
      case neg =>
        have Hz : Hid (z = false) := Lib.hid (by cases hz : z with | false => rfl | true => (have := HV2.out.1 hz; exfalso; omega))
        have W0 := Lib.hid (fun w' => rwithin_no w' h2)
        clear h2
        go_wp2_with (first
          | (go_at_call 59; with_reducible refine (W0.out _).mono ?_; rintro ew0 ww0 ⟨rfl, rfl⟩))
        go_ret
        exact ⟨by rw [Hz.out]; rfl, HB.out⟩
      have W0 := Lib.hid (fun w' => rwithin_yes w' h2)
      have H2 := Lib.hid h2
      clear h2
      by_cases h3 : 0 ≤ seq ∧ seq ≤ 4611686018427387904
      case neg =>
        have Hz : Hid (z = false) := Lib.hid (by cases hz : z with | false => rfl | true => (have := HV2.out.1 hz; exfalso; omega))
        have W1 := Lib.hid (fun w' => rwithin_no w' h3)
        clear h3
        go_wp2_with (first
          | (go_at_call 59; with_reducible refine (W0.out _).mono ?_; rintro ew0 ww0 ⟨rfl, rfl⟩)
          | (go_at_call 59; with_reducible refine (W1.out _).mono ?_; rintro ew1 ww1 ⟨rfl, rfl⟩))
        go_ret
        exact ⟨by rw [Hz.out]; rfl, HB.out⟩
      have W1 := Lib.hid (fun w' => rwithin_yes w' h3)
      have H3 := Lib.hid h3
      clear h3
      by_cases h4 : -4611686018427387904 ≤ n ∧ n ≤ 4611686018427387904
      case neg =>
        have Hz : Hid (z = false) := Lib.hid (by cases hz : z with | false => rfl | true => (have := HV2.out.1 hz; exfalso; omega))
        have W2 := Lib.hid (fun w' => rwithin_no w' h4)
        clear h4
        go_wp2_with (first
          | (go_at_call 59; with_reducible refine (W0.out _).mono ?_; rintro ew0 ww0 ⟨rfl, rfl⟩)
          | (go_at_call 59; with_reducible refine (W1.out _).mono ?_; rintro ew1 ww1 ⟨rfl, rfl⟩)
          | (go_at_call 59; with_reducible refine (W2.out _).mono ?_; rintro ew2 ww2 ⟨rfl, rfl⟩))
        go_ret
        exact ⟨by rw [Hz.out]; rfl, HB.out⟩
      have W2 := Lib.hid (fun w' => rwithin_yes w' h4)
      have H4 := Lib.hid h4
      clear h4
      by_cases h5 : -1 ≤ block
      case neg =>
        have Hz : Hid (z = false) := Lib.hid (by cases hz : z with | false => rfl | true => (have := HV2.out.1 hz; exfalso; omega))
        have d5 : decide (-1 ≤ block) = false := decide_eq_false h5
        go_wp2_with (first
          | (go_at_call 59; with_reducible refine (W0.out _).mono ?_; rintro ew0 ww0 ⟨rfl, rfl⟩)
          | (go_at_call 59; with_reducible refine (W1.out _).mono ?_; rintro ew1 ww1 ⟨rfl, rfl⟩)
          | (go_at_call 59; with_reducible refine (W2.out _).mono ?_; rintro ew2 ww2 ⟨rfl, rfl⟩))
        go_ret
        exact ⟨by rw [Hz.out]; rfl, HB.out⟩
      have d5 : decide (-1 ≤ block) = true := decide_eq_true h5
      by_cases h6 : block ≤ 31
      case neg =>
        have Hz : Hid (z = false) := Lib.hid (by cases hz : z with | false => rfl | true => (have := HV2.out.1 hz; exfalso; omega))
        have d6 : decide (block ≤ 31) = false := decide_eq_false h6
        go_wp2_with (first
          | (go_at_call 59; with_reducible refine (W0.out _).mono ?_; rintro ew0 ww0 ⟨rfl, rfl⟩)
          | (go_at_call 59; with_reducible refine (W1.out _).mono ?_; rintro ew1 ww1 ⟨rfl, rfl⟩)
          | (go_at_call 59; with_reducible refine (W2.out _).mono ?_; rintro ew2 ww2 ⟨rfl, rfl⟩))
        go_ret
        exact ⟨by rw [Hz.out]; rfl, HB.out⟩
      have d6 : decide (block ≤ 31) = true := decide_eq_true h6
      by_cases h7 : -1 ≤ client
      case neg =>
        have Hz : Hid (z = false) := Lib.hid (by cases hz : z with | false => rfl | true => (have := HV2.out.1 hz; exfalso; omega))
        have d7 : decide (-1 ≤ client) = false := decide_eq_false h7
        go_wp2_with (first
          | (go_at_call 59; with_reducible refine (W0.out _).mono ?_; rintro ew0 ww0 ⟨rfl, rfl⟩)
          | (go_at_call 59; with_reducible refine (W1.out _).mono ?_; rintro ew1 ww1 ⟨rfl, rfl⟩)
          | (go_at_call 59; with_reducible refine (W2.out _).mono ?_; rintro ew2 ww2 ⟨rfl, rfl⟩))
        go_ret
        exact ⟨by rw [Hz.out]; rfl, HB.out⟩
      have d7 : decide (-1 ≤ client) = true := decide_eq_true h7
      by_cases h8 : client ≤ 3
      case neg =>
        have Hz : Hid (z = false) := Lib.hid (by cases hz : z with | false => rfl | true => (have := HV2.out.1 hz; exfalso; omega))
        have d8 : decide (client ≤ 3) = false := decide_eq_false h8
        go_wp2_with (first
          | (go_at_call 59; with_reducible refine (W0.out _).mono ?_; rintro ew0 ww0 ⟨rfl, rfl⟩)
          | (go_at_call 59; with_reducible refine (W1.out _).mono ?_; rintro ew1 ww1 ⟨rfl, rfl⟩)
          | (go_at_call 59; with_reducible refine (W2.out _).mono ?_; rintro ew2 ww2 ⟨rfl, rfl⟩))
        go_ret
        exact ⟨by rw [Hz.out]; rfl, HB.out⟩
      have d8 : decide (client ≤ 3) = true := decide_eq_true h8
      by_cases h9 : 0 ≤ e
      case neg =>
        have Hz : Hid (z = false) := Lib.hid (by cases hz : z with | false => rfl | true => (have := HV2.out.1 hz; exfalso; omega))
        have d9 : decide (0 ≤ e) = false := decide_eq_false h9
        go_wp2_with (first
          | (go_at_call 59; with_reducible refine (W0.out _).mono ?_; rintro ew0 ww0 ⟨rfl, rfl⟩)
          | (go_at_call 59; with_reducible refine (W1.out _).mono ?_; rintro ew1 ww1 ⟨rfl, rfl⟩)
          | (go_at_call 59; with_reducible refine (W2.out _).mono ?_; rintro ew2 ww2 ⟨rfl, rfl⟩))
        go_ret
        exact ⟨by rw [Hz.out]; rfl, HB.out⟩
      have d9 : decide (0 ≤ e) = true := decide_eq_true h9
      by_cases h10 : e ≤ 31
      case neg =>
        have Hz : Hid (z = false) := Lib.hid (by cases hz : z with | false => rfl | true => (have := HV2.out.1 hz; exfalso; omega))
        have d10 : decide (e ≤ 31) = false := decide_eq_false h10
        go_wp2_with (first
          | (go_at_call 59; with_reducible refine (W0.out _).mono ?_; rintro ew0 ww0 ⟨rfl, rfl⟩)
          | (go_at_call 59; with_reducible refine (W1.out _).mono ?_; rintro ew1 ww1 ⟨rfl, rfl⟩)
          | (go_at_call 59; with_reducible refine (W2.out _).mono ?_; rintro ew2 ww2 ⟨rfl, rfl⟩))
        go_ret
        exact ⟨by rw [Hz.out]; rfl, HB.out⟩
      have d10 : decide (e ≤ 31) = true := decide_eq_true h10
      by_cases h11 : (data.size : Int) ≤ 40
      case neg =>
        have Hz : Hid (z = false) := Lib.hid (by cases hz : z with | false => rfl | true => (have := HV2.out.1 hz; exfalso; omega))
        have d11 : decide ((data.size : Int) ≤ 40) = false := decide_eq_false h11
        go_wp2_with (first
          | (go_at_call 59; with_reducible refine (W0.out _).mono ?_; rintro ew0 ww0 ⟨rfl, rfl⟩)
          | (go_at_call 59; with_reducible refine (W1.out _).mono ?_; rintro ew1 ww1 ⟨rfl, rfl⟩)
          | (go_at_call 59; with_reducible refine (W2.out _).mono ?_; rintro ew2 ww2 ⟨rfl, rfl⟩))
        go_ret
        exact ⟨by rw [Hz.out]; rfl, HB.out⟩
      have d11 : decide ((data.size : Int) ≤ 40) = true := decide_eq_true h11
      by_cases h12 : (row.size : Int) ≤ 10
      case neg =>
        have Hz : Hid (z = false) := Lib.hid (by cases hz : z with | false => rfl | true => (have := HV2.out.1 hz; exfalso; omega))
        have d12 : decide ((row.size : Int) ≤ 10) = false := decide_eq_false h12
        go_wp2_with (first
          | (go_at_call 59; with_reducible refine (W0.out _).mono ?_; rintro ew0 ww0 ⟨rfl, rfl⟩)
          | (go_at_call 59; with_reducible refine (W1.out _).mono ?_; rintro ew1 ww1 ⟨rfl, rfl⟩)
          | (go_at_call 59; with_reducible refine (W2.out _).mono ?_; rintro ew2 ww2 ⟨rfl, rfl⟩))
        go_ret
        exact ⟨by rw [Hz.out]; rfl, HB.out⟩
      have d12 : decide ((row.size : Int) ≤ 10) = true := decide_eq_true h12
      have Hz : Hid (z = true) := Lib.hid (HV2.out.2 (by refine ⟨⟨h0, h1⟩, H2.out, H3.out, H4.out, ⟨h5, h6⟩, ⟨h7, h8⟩, ⟨h9, h10⟩, h11, h12⟩))
      go_wp2_with (first
        | (go_at_call 59; with_reducible refine (W0.out _).mono ?_; rintro ew0 ww0 ⟨rfl, rfl⟩)
        | (go_at_call 59; with_reducible refine (W1.out _).mono ?_; rintro ew1 ww1 ⟨rfl, rfl⟩)
        | (go_at_call 59; with_reducible refine (W2.out _).mono ?_; rintro ew2 ww2 ⟨rfl, rfl⟩))
      go_ret
      exact ⟨by rw [Hz.out]; rfl, HB.out⟩
end Go.Proofs.YtpoolpckabpnfaaGreat.Ml
