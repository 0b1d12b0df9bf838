/-
  Messages compared; the calls that awake makes.
-/
import Derived.Test.YtofhijnfbilieaaGreatJM
import Derived.ChangeKeysEq
namespace Go.Proofs.YtofhijnfbilieaaGreat.Ml
open Go.RowKit
open C (str)
set_option linter.unusedVariables false
set_option linter.unusedSimpArgs false
set_option maxRecDepth 20000

theorem mg_struct : Tryz.prog.underlying 37 = some (.struct (Tryz.prog.fieldsOf 37)) := by kernel_rfl
theorem mg_held : Tryz.prog.stoodInHeld 37 = false := by kernel_rfl
theorem mg_guard : Tryz.prog.eqGuardType Tryz.prog.depth 37 = false := by kernel_rfl
theorem toList_inj {a b : ByteArray} (h : a.toList = b.toList) : a = b := by
  rw [ByteArray.toList_eq, ByteArray.toList_eq] at h
  obtain ⟨⟨x⟩⟩ := a
  obtain ⟨⟨y⟩⟩ := b
  simp only at h
  rw [h]
theorem toList_ne {a b : ByteArray} (h : a ≠ b) : ¬ a.toList = b.toList := fun e => h (toList_inj e)
theorem arr_eql (w : World) (x0 x1 x2 x3 y0 y1 y2 y3 : Int) : (Op.equalIn 9999 35 (.agg #[.int .i64 x0, .int .i64 x1, .int .i64 x2, .int .i64 x3]) (.agg #[.int .i64 y0, .int .i64 y1, .int .i64 y2, .int .i64 y3])).run Tryz.prog w = .ok (decide (x0 = y0 ∧ x1 = y1 ∧ x2 = y2 ∧ x3 = y3)) w := by
  obtain ⟨i, hi, _⟩ := info_parts C.i64_info
  have u2 := Tryz.underlying2
  have z2 := Tryz.sizeOf2
  have c2 : Tryz.prog.cellsOf 2 = 1 := by kernel_rfl
  rw [show (9999 : Nat) = 9998 + 1 from rfl, run_equalIn_array w 9998 _ _ Tryz.underlying35 hi, c2]
  simp only [show List.range 4 = [0, 1, 2, 3] from rfl, Op.eqItems]
  go_simp
  by_cases h0 : x0 = y0 <;> by_cases h1 : x1 = y1 <;> by_cases h2 : x2 = y2 <;> by_cases h3 : x3 = y3 <;> simp [h0, h1, h2, h3]
theorem mg_eq (x y : Mg) : x = y ↔ (x.kind = y.kind ∧ x.epoch = y.epoch ∧ x.seq = y.seq ∧ x.n = y.n ∧ x.block = y.block ∧ x.client = y.client ∧ x.e = y.e ∧ (x.t0 = y.t0 ∧ x.t1 = y.t1 ∧ x.t2 = y.t2 ∧ x.t3 = y.t3) ∧ x.data = y.data ∧ x.row = y.row) := by
  obtain ⟨kind, epoch, seq, n, block, client, e, t0, t1, t2, t3, data, row⟩ := x
  obtain ⟨kind', epoch', seq', n', block', client', e', t0', t1', t2', t3', data', row'⟩ := y
  simp only [Mg.mk.injEq, and_assoc]
theorem toList_iff {a b : ByteArray} : a.toList = b.toList ↔ a = b := ⟨toList_inj, fun h => by rw [h]⟩
theorem msg_equal (x y : Mg) (w : World) : (Op.equalIn 10000 37 (msgV x) (msgV y)).run Tryz.prog w = .ok (decide (x = y)) w := by
  have u3 := Tryz.underlying3
  have u9 := Tryz.underlying9
  have z3 := Tryz.sizeOf3
  have z9 := Tryz.sizeOf9
  unfold msgV
  rw [show (10000 : Nat) = 9999 + 1 from rfl, run_equalIn_agg w 9999 37 _ _ mg_struct mg_held]
  simp only [Program.fieldsOf, Tryz.underlying37, Mg.cells]
  go_simp
  have ha := arr_eql w x.t0 x.t1 x.t2 x.t3 y.t0 y.t1 y.t2 y.t3
  simp only [ha, Result.andThen_ok, toList_iff]
  have he := mg_eq x y
  by_cases h0 : x.kind = y.kind
  · by_cases h1 : x.epoch = y.epoch
    · by_cases h2 : x.seq = y.seq
      · by_cases h3 : x.n = y.n
        · by_cases h4 : x.block = y.block
          · by_cases h5 : x.client = y.client
            · by_cases h6 : x.e = y.e
              · by_cases h7 : (x.t0 = y.t0 ∧ x.t1 = y.t1 ∧ x.t2 = y.t2 ∧ x.t3 = y.t3)
                · by_cases h8 : x.data = y.data
                  · by_cases h9 : x.row = y.row
                    · simp [h0, h1, h2, h3, h4, h5, h6, h7, h8, h9, he]
                    · simp [h0, h1, h2, h3, h4, h5, h6, h7, h8, h9, he]
                  · simp [h0, h1, h2, h3, h4, h5, h6, h7, h8, he]
                · simp [h0, h1, h2, h3, h4, h5, h6, h7, he]
              · simp [h0, h1, h2, h3, h4, h5, h6, he]
            · simp [h0, h1, h2, h3, h4, h5, he]
          · simp [h0, h1, h2, h3, h4, he]
        · simp [h0, h1, h2, h3, he]
      · simp [h0, h1, h2, he]
    · simp [h0, h1, he]
  · simp [h0, he]
theorem msg_eql (x y : Mg) (w : World) : (binOp .eql 37 (msgV x) (msgV y)).run Tryz.prog w = .ok (.bool (decide (x = y))) w := by
  have := msg_equal x y w
  unfold msgV at *
  rw [run_eql_struct, this]
  rfl
theorem msg_neq (x y : Mg) (w : World) : (binOp .neq 37 (msgV x) (msgV y)).run Tryz.prog w = .ok (.bool (!decide (x = y))) w := by
  have := msg_equal x y w
  unfold msgV at *
  rw [run_neq_struct, this]
  rfl

/-- the chapter's example -/
def M0 : Mg := ⟨1, 2, 0, 0, -1, 0, 0, 0, 0, 0, 0, ⟨#[]⟩, ⟨#[]⟩⟩
def S0 : ByteArray := ⟨#[1, 42, 4, 0, 0, 1, 0, 0, 0, 0, 0, 0, 0, 0]⟩
theorem m0_may : may M0 = true := by decide +kernel
theorem nil_may : may nil = false := by decide +kernel
theorem m0_bytes : str (bytes M0) = S0 := by decide +kernel
theorem m0_read : read S0.data.toList = some M0 := by
  have h : S0.data.toList = bytes M0 := by decide +kernel
  rw [h]; exact read_bytes m0_may
theorem q_read : read (⟨#[63]⟩ : ByteArray).data.toList = none := by
  have h : (match read (⟨#[63]⟩ : ByteArray).data.toList with | none => true | some _ => false) = true := by decide +kernel
  cases hr : read (⟨#[63]⟩ : ByteArray).data.toList with
  | none => rfl
  | some m => rw [hr] at h; cases h

end Go.Proofs.YtofhijnfbilieaaGreat.Ml
