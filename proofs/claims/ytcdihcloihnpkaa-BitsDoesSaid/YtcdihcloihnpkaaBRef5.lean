/-
  The document's own row: Load, a text of the right length.
-/
import Derived.Test.YtcdihcloihnpkaaBRef4
namespace Go.Proofs.Ytcdihcloihnpkaa.B
open Go.RowKit
set_option linter.unusedVariables false
set_option linter.unusedSimpArgs false
set_option maxRecDepth 20000

theorem lt_of_bits {V N L : Nat} (hV : V < 2 ^ L) (h : ∀ x, N ≤ x → x < L → V.testBit x = false) : V < 2 ^ N := by
  refine Nat.lt_pow_two_of_testBit V fun i hi => ?_
  rcases Nat.lt_or_ge i L with hl | hl
  · exact h i hi hl
  · exact M.bit_off hV hl
theorem half_bit (y : UInt8) (k : Nat) : (((y.toNat / 2 ^ k : Nat) : Int) % 2 == 1) = y.toNat.testBit k := by
  rw [M.bit_is]
  rcases Nat.mod_two_eq_zero_or_one (y.toNat / 2 ^ k) with h | h
  · have : ((y.toNat / 2 ^ k : Nat) : Int) % 2 = 0 := by omega
    rw [this, h]; simp
  · have : ((y.toNat / 2 ^ k : Nat) : Int) % 2 = 1 := by omega
    rw [this, h]; simp

set_option maxHeartbeats 4000000 in
theorem rload_read (s : ByteArray) (w : World) (h0 : 0 < s.size) (h1 : ¬ 64 < s[0].toNat) (h2 : s.size = M.size s[0].toNat) (c : UInt8) (r : List UInt8) (hcr : s.data.toList = c :: r) : Calls Try.prog 20 #[.string s] w fun e w' => e = .returned (.tuple #[RV (M.loadN (c :: r)) (M.loadM (c :: r)), .int .i64 (M.loadE (c :: r))]) ∧ Below w.heap.size w w' := by
  have hc0 : s[0] = c := by
    have : s.data.toList[0]? = some c := by rw [hcr]; rfl
    have h3 : s.data.toList[0]? = some s[0] := by
      rw [Array.getElem?_toList]
      exact Array.getElem?_eq_getElem (by simpa using h0)
    rw [h3] at this
    injection this
  have hget : ∀ j (hj : 1 + j < s.size), r[j]? = some s[1 + j] := fun j hj => by
    have h3 : s.data.toList[1 + j]? = some s[1 + j] := by
      rw [Array.getElem?_toList]
      exact Array.getElem?_eq_getElem (by simpa using hj)
    rw [← h3, hcr, Nat.add_comm 1 j, List.getElem?_cons_succ]
  have hr : r.length = (c.toNat + 7) / 8 := by
    have h3 : s.data.toList.length = s.size := by simp
    rw [hcr, List.length_cons, h2, hc0] at h3
    unfold M.size at h3
    omega
  have hsz : s.size = 1 + r.length := by rw [h2, hr, hc0]; rfl
  have hVL := M.val_lt r
  have h4 : ((s.size : Int) == 0) = false := beq_eq_false_iff_ne.2 (by omega)
  have h3 : decide ((64 : Int) < (s[0].toNat : Int)) = false := by simp; omega
  have hI : (s[0].toNat : Int) ≤ 64 := by omega
  have hs9 : s.size ≤ 9 := by rw [h2]; unfold M.size; omega
  have hmI : (s.size : Int) ≤ 9 := by omega
  have hpI : (1 : Int) ≤ (s.size : Int) := by omega
  have HN : ∀ w, Hid (Calls Try.prog 12 #[.int .i64 (s[0].toNat : Int)] w fun e w' => e = .returned (RV s[0].toNat 0) ∧ Below w.heap.size w w') := fun w => Lib.hid (by
    have := rnew_any (s[0].toNat : Int) w
    rw [show M.len (s[0].toNat : Int) = s[0].toNat by unfold M.len; rw [if_pos ⟨by omega, by omega⟩]; simp] at this
    exact this)
  have h5 : ((s.size : Int) - 1 != ((s[0].toNat : Int) + 7) / 8) = false := by unfold M.size at h2; simp; omega
  have HG := Lib.hid hget
  have HR := Lib.hid hr
  have HC := Lib.hid hc0
  have HSZ := Lib.hid hsz
  have HVL := Lib.hid hVL
  have hN64 : s[0].toNat ≤ 64 := by omega
  clear h1 h2 hget hr hc0 hcr hsz hVL
  go_enter Try.func20, Try.ntmps20
  go_wp2_with (first
    | (refine wpList_alloc30 rfl (o := ⟨some 2, _, _, _, _, _⟩) rfl ?_; intro w1 hw1; have H1 := Lib.hid (hw1 ▸ rat_new w 0 0); have B1 := Lib.hid (hw1 ▸ bel1 w _ : Below w.heap.size w w1); clear hw1)
    | (go_at_call 12; ((with_reducible refine (HN _).out.mono ?_); rintro e w3 ⟨rfl, hb⟩); have H3 := Lib.hid (H1.out.below hb H1.out.lt); have B3 := Lib.hid (below_up B1.out hb B1.out.size); have hs3 := H3.out.lt; clear hb)
    | (refine wpList_alloc30 rfl (o := ⟨some 4, _, _, _, _, _⟩) rfl ?_; intro w4 hw4; have K4 := Lib.hid (hw4 ▸ rat_new w3 0 0 : RAt w4 w3.heap.size 0 0); have H4 := Lib.hid (hw4 ▸ H3.out.alloc _ : RAt w4 w.heap.size 0 0); have B4 := Lib.hid (hw4 ▸ (B3.out.alloc B3.out.size _) : Below w.heap.size w w4); clear hw4)
    | (refine wpList_store30 rfl (.tmp 4) _ rfl w3.heap.size rfl rfl K4.out.there ?_; intro w5 hw5; have K5 := Lib.hid (hw5 ▸ K4.out.store s[0].toNat 0 : RAt w5 w3.heap.size s[0].toNat 0); have H5 := Lib.hid (hw5 ▸ H4.out.of_block (heap_setCells _ _ _ _ _ (by omega)) : RAt w5 w.heap.size 0 0); have B5 := Lib.hid (hw5 ▸ below_setCells (by omega) _ _ B4.out : Below w.heap.size w w5); have z0 := K5.out.c0; clear hw5))
  clear z0 K4 H4 B4 H3 B3 H1 B1 HN
  generalize w3.heap.size = g at *
  go_loopw [5] (fun t wr => ∃ i : Nat, i ≤ 8 * r.length ∧ t = .int .i64 i ∧ RAt wr g s[0].toNat (M.val r % 2 ^ i) ∧ RAt wr w.heap.size 0 0 ∧ Below w.heap.size w wr ∧ Hid (∀ x, s[0].toNat ≤ x → x < i → (M.val r).testBit x = false)) (fun t _ => 8 * r.length - (intOf t).toNat)
  case atStart => exact ⟨0, by omega, rfl, by rw [Nat.pow_zero, Nat.mod_one]; exact K5.out, H5.out, B5.out, Lib.hid fun x _ hx => by omega⟩
  case round =>
    obtain ⟨i, hi, rfl, gk, gh, gb, HZ⟩ := hrel
    have Gk := Lib.hid gk
    have Gh := Lib.hid gh
    have Gb := Lib.hid gb
    have z0 := gk.c0
    have hszI : (s.size : Int) = 1 + (r.length : Int) := by have := HSZ.out; omega
    clear gk gh gb K5 H5 B5
    by_cases hlt : i < 8 * r.length
    · have hltI : (i : Int) < 8 * ((s.size : Int) - 1) := by omega
      have hin : 1 + i / 8 < s.size := by have := HSZ.out; omega
      have hinI : 1 + (i : Int) / 8 < (s.size : Int) := by omega
      have hin0 : 0 ≤ 1 + (i : Int) / 8 := by omega
      have htn : (1 + (i : Int) / 8).toNat = 1 + i / 8 := by omega
      have hbt : (M.val r).testBit i = s[1 + i / 8].toNat.testBit (i % 8) := by
        have h1 := M.val_bit r (i / 8) (i % 8) (by omega)
        rw [HG.out (i / 8) hin, show 8 * (i / 8) + i % 8 = i by omega] at h1
        rw [h1]
        rfl
      have hhb := half_bit s[1 + i / 8] (i % 8)
      rw [← hbt] at hhb
      have hyl : s[1 + i / 8].toNat < 256 := UInt8.toNat_lt _
      have hsy : ∀ y : Nat, s[1 + i / 8].toNat = y → True := fun _ _ => trivial
      have HHB := Lib.hid hhb
      have HSy := Lib.hid (@M.mod_succ_yes (M.val r) i)
      have HSn := Lib.hid (@M.mod_succ_no (M.val r) i)
      clear hbt hhb hsy hszI
      go_wp2
      have hy255 : (s[1 + i / 8].toNat : Int) ≤ 255 := by omega
      go_loop [6, 7] (fun x t => ∃ k : Nat, k ≤ i % 8 ∧ t = .int .i64 k ∧ x = .int .u8 ((s[1 + i / 8].toNat / 2 ^ k : Nat) : Int)) (fun _ t => i % 8 - (intOf t).toNat)
      case atStart => exact ⟨0, by omega, rfl, by simp⟩
      case round =>
        obtain ⟨k, hk, rfl, rfl⟩ := hrel
        have hdl : s[1 + i / 8].toNat / 2 ^ k ≤ s[1 + i / 8].toNat := Nat.div_le_self _ _
        have hst : s[1 + i / 8].toNat / 2 ^ k / 2 = s[1 + i / 8].toNat / 2 ^ (k + 1) := by rw [Nat.pow_succ, Nat.div_div_eq_div_mul]
        have HSt := Lib.hid hst
        clear hst
        by_cases hk8 : k < i % 8
        · have hkI : (k : Int) < (i : Int) % 8 := by omega
          have hU : ((s[1 + i / 8].toNat / 2 ^ k : Nat) : Int) ≤ 255 := by omega
          generalize hu : s[1 + i / 8].toNat / 2 ^ k = u at *
          go_wp2
          go_round
          case rel => exact ⟨k + 1, by omega, by go_num, by rw [← HSt.out]; congr 1⟩
          case measure => simp [intOf]; omega
        · have hke : k = i % 8 := by omega
          have hkI : decide ((k : Int) < (i : Int) % 8) = false := by simp; omega
          rw [← hke] at HHB
          have hU : ((s[1 + i / 8].toNat / 2 ^ k : Nat) : Int) ≤ 255 := by omega
          generalize hu : s[1 + i / 8].toNat / 2 ^ k = u at *
          have hhb := HHB.out
          clear hu hk8 hke HSt hdl HHB
          cases hb : (M.val r).testBit i with
          | true =>
            rw [hb] at hhb
            have HB := Lib.hid hb
            have HP := Lib.hid (HSy.out hb)
            clear hb HSy HSn
            by_cases hiN : i < s[0].toNat
            · have hi64 : i < 64 := by omega
              have hiNI : decide ((s[0].toNat : Int) ≤ (i : Int)) = false := by simp; omega
              have hiNN : decide (s[0].toNat ≤ i) = false := by simp; omega
              have hi64I : (i : Int) < 64 := by omega
              have c1 := Gk.out.bit (k := i) hi64
              have c2 := Gk.out.fz (1 + i)
              have HS := Lib.hid (Gk.out.setBit hi64 (m' := M.val r % 2 ^ (i + 1)) (v := true) (fun x => by
                rw [HP.out, M.put_bit]
                by_cases e : x = i
                · subst e; simp
                · have e2 : ¬ i = x := fun h => e h.symm
                  simp [e, e2]))
              go_wp2
              go_roundw
              case rel => exact ⟨i + 1, by omega, by go_num, HS.out, Gh.out.far (by simp; omega) _, Gb.out.setCell (by simp; omega) _, Lib.hid fun x h1 h2 => by
                rcases Nat.lt_or_ge x i with h | h
                · exact HZ.out x h1 h
                · omega⟩
              case measure => simp [intOf]; omega
            · have hiNI : (s[0].toNat : Int) ≤ (i : Int) := by omega
              have hl : M.load (c :: r) = none := by
                rw [M.load_cons, if_neg fun h => ?_]
                have h1 := M.bit_off h.2.2 (show c.toNat ≤ i by rw [← HC.out]; omega)
                rw [HB.out] at h1
                cases h1
              have HLd := Lib.hid hl
              clear hl
              go_wp2_with (first
                | (refine wpList_build30 rfl rfl ?_)
                | (refine wpList_store30 rfl (.tmp 2) _ rfl w.heap.size rfl rfl Gh.out.there ?_; intro w6 hw6; have H6 := Lib.hid (hw6 ▸ Gh.out.store 0 0 : RAt w6 w.heap.size 0 0); have B6 := Lib.hid (hw6 ▸ below_setCells (Nat.le_refl _) _ _ Gb.out : Below w.heap.size w w6); clear hw6))
              refine bodyPost_ret (results_two Try.results20 rfl rfl H6.out) rfl ⟨?_, B6.out⟩
              unfold M.loadN M.loadM M.loadE
              rw [HLd.out]
              rfl
          | false =>
            rw [hb] at hhb
            have HB := Lib.hid hb
            have HP := Lib.hid (HSn.out hb)
            clear hb HSy HSn
            go_wp2
            go_roundw
            case rel => exact ⟨i + 1, by omega, by go_num, by rw [HP.out]; exact Gk.out, Gh.out, Gb.out, Lib.hid fun x h1 h2 => by
              rcases Nat.lt_or_ge x i with h | h
              · exact HZ.out x h1 h
              · obtain rfl : x = i := by omega
                exact HB.out⟩
            case measure => simp [intOf]; omega
    · have hie : i = 8 * r.length := by omega
      have hltI : decide ((i : Int) < 8 * ((s.size : Int) - 1)) = false := by simp; omega
      have hV : M.val r % 2 ^ i = M.val r := Nat.mod_eq_of_lt (by rw [hie]; exact HVL.out)
      have hVN : M.val r < 2 ^ s[0].toNat := lt_of_bits HVL.out fun x h1 h2 => HZ.out x h1 (by omega)
      have hl : M.load (c :: r) = some (s[0].toNat, M.val r) := by
        rw [HC.out] at hVN hN64
        rw [M.load_cons, if_pos ⟨hN64, HR.out, hVN⟩, HC.out]
      have HLd := Lib.hid hl
      rw [hV] at Gk
      clear hl hV hVN hlt hszI hie
      generalize M.val r = V at *
      go_wp2_with (first
        | (refine wpList_load30 rfl _ rfl g rfl Gk.out ?_)
        | (refine wpList_store30 rfl (.tmp 2) _ rfl w.heap.size rfl rfl Gh.out.there ?_; intro w6 hw6; have H6 := Lib.hid (hw6 ▸ Gh.out.store s[0].toNat V : RAt w6 w.heap.size s[0].toNat V); have B6 := Lib.hid (hw6 ▸ below_setCells (Nat.le_refl _) _ _ Gb.out : Below w.heap.size w w6); clear hw6))
      refine bodyPost_ret (results_two Try.results20 rfl rfl H6.out) rfl ⟨?_, B6.out⟩
      unfold M.loadN M.loadM M.loadE
      rw [HLd.out]
      rfl

/-- Load: whatever the text is -/
theorem rload_any (s : ByteArray) (w : World) (hm : s.size ≤ 281474976710656) : Calls Try.prog 20 #[.string s] w fun e w' => e = .returned (.tuple #[RV (M.loadN s.data.toList) (M.loadM s.data.toList), .int .i64 (M.loadE s.data.toList)]) ∧ Below w.heap.size w w' := by
  have hsz : s.data.toList.length = s.size := by simp
  cases hcr : s.data.toList with
  | nil =>
    rw [hcr] at hsz
    exact rload_empty s w hsz.symm
  | cons c r =>
    rw [hcr, List.length_cons] at hsz
    have h0 : 0 < s.size := by omega
    have hc0 : s[0] = c := by
      have : s.data.toList[0]? = some c := by rw [hcr]; rfl
      have h3 : s.data.toList[0]? = some s[0] := by
        rw [Array.getElem?_toList]
        exact Array.getElem?_eq_getElem (by simpa using h0)
      rw [h3] at this
      injection this
    by_cases h1 : 64 < s[0].toNat
    · have hl : M.load (c :: r) = none := by rw [M.load_cons, if_neg fun h => by rw [hc0] at h1; omega]
      unfold M.loadN M.loadM M.loadE
      rw [hl]
      exact rload_great s w h0 (by simp only [maxLen]; omega) h1
    · by_cases h2 : s.size = M.size s[0].toNat
      · exact rload_read s w h0 h1 h2 c r hcr
      · have hl : M.load (c :: r) = none := by
          rw [M.load_cons, if_neg fun h => h2 ?_]
          rw [hc0]
          unfold M.size
          omega
        unfold M.loadN M.loadM M.loadE
        rw [hl]
        exact rload_long s w h0 hm h1 h2
end Go.Proofs.Ytcdihcloihnpkaa.B
