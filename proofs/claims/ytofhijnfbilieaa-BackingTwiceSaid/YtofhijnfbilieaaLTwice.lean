/-
  PROVED: the same message twice is the same as once, whatever comes in between that doesn't raise the token: what is had stays. CONDITIONS: none (any number of blocks; any messages, of which up to 60 are taken; any of them again).
-/
import Derived.Test.YtofhijnfbilieaaBkTwo
import Derived.BigQuiet
import Derived.Deep.RegionHeld3
namespace Go.Proofs.Ytofhijnfbilieaa.backingTwice
open Go.ChangeShapes Go.WideShapes Go.ChangeAt Go.RowKit Go.Joins
open Go.ChangeMaps (open_string shut_string)
set_option linter.unusedVariables false
set_option linter.unusedSimpArgs false
set_option maxRecDepth 20000

open Bk

set_option maxHeartbeats 4000000 in
theorem walk (x0 : Int) (a1 : Option Addr) (n1 c1 : Nat) (l1 : List Ml.Mg) (x2 : Int) (w : World) (w0 : (Lit.int .u8 x0).wf = true) (w1 : Bk.Ms w a1 n1 c1 l1) (w2 : (Lit.int .u8 x2).wf = true) :
    Calls Try.prog 4 #[.int .u8 x0, .slice a1 n1 c1, .int .u8 x2] w fun e w' => e = .returned (.bool true) ∧ Below w.heap.size w w' := by
  have hx := u8_in w0
  have hx2 := u8_in w2
  obtain ⟨bl, hbl⟩ : ∃ bl, bl = (x0 % 32).toNat + 1 := ⟨_, rfl⟩
  have hb32 : 1 ≤ bl ∧ bl ≤ 32 := by omega
  have HA := Lib.hid (awake_any w)
  have HL := Lib.hid (lopen_run w hx hbl)
  have HMs := Lib.hid w1
  have hlen : l1.length = n1 := w1.1
  have hcap : n1 ≤ 9223372036854775807 := by have := w1.2.1; have := w1.2.2.1; simp only [maxLen] at this; omega
  have Hb := Lib.hid hb32
  clear w0 w1 w2 hx hbl hb32
  obtain ⟨N, hN⟩ : ∃ N : Nat, N = min n1 60 := ⟨_, rfl⟩
  have hNm : min (n1 : Int) 60 = (N : Int) := by omega
  have hN1 : N ≤ n1 := by omega
  have hN6 : N ≤ 60 := by omega
  clear hN
  go_enter Try.func4, Try.ntmps4
  go_wp2_with (first
    | (go_at_call 8; with_reducible refine HA.out.mono ?_; rintro e w1 ⟨rfl, hb1⟩
       have HB1 := Lib.hid hb1
       clear hb1)
    | (go_at_call 9; with_reducible refine (HL.out _ HB1.out).mono ?_; rintro e w2 ⟨dB, sB, mB, tB, K, rfl, hrs⟩
       have HR0 := Lib.hid hrs
       clear hrs))
  clear HA HL HB1
  go_loopw [11] (fun i wr => ∃ (k : Nat) (d : M.Dv) (C : Cs), k ≤ N ∧ i = .int .i64 (k : Int) ∧ RS w wr dB sB mB (2 + 2 * bl) bl d tB K C (2 * k) ∧ ∀ j m, j < k → l1[j]? = some m → Settled bl C m) (fun i _ => 60 - (intOf i).toNat)
  case atStart => exact ⟨0, _, _, by omega, rfl, HR0.out, fun j m hj => by omega⟩
  case round =>
    obtain ⟨k, d, C, hk1, rfl, hr, hst⟩ := hrel
    have HR := Lib.hid hr
    have HSt := Lib.hid hst
    clear hr hst
    by_cases hlt : k < N
    · have g1 : (k : Int) < (N : Int) := by omega
      have g3 : (k : Int) < (n1 : Int) := by omega
      have g0 : (0 : Int) ≤ (k : Int) := by omega
      obtain ⟨m, hm⟩ : ∃ m, l1[k]? = some m := ⟨_, List.getElem?_eq_getElem (by omega)⟩
      obtain ⟨b, off, rfl, hb, hc⟩ := ms_at HMs.out hm
      have HTk := Lib.hid (HR.out.take (by omega) m)
      have HSn : Hid (∀ j m', j < k + 1 → l1[j]? = some m' → Settled bl (takC (2 + 2 * bl) 0 bl d C m) m') := Lib.hid fun j m' hj hm' => by
        by_cases hjk : j = k
        · subst hjk
          rw [hm] at hm'
          injection hm' with hm'
          subst hm'
          exact HR.out.fr.settled (by omega) m
        · exact HR.out.fr.settled_on (by omega) m (HSt.out j m' (by omega) hm')
      obtain ⟨kind, epoch, seq, nn, block, client, e, t0, t1, t2, t3, data, row⟩ := m
      obtain ⟨q0, q1, q2, q3, q4, q5, q6, q7, q8, q9, q10, q11, q12⟩ := ms13 (w := wr) (b := b) (off := off) (k := k) fun i v hv => (HR.out.be.cell (p := ⟨b, off + (k * 13 + i), none⟩) hb).trans (hc i v hv)
      simp only at q0 q1 q2 q3 q4 q5 q6 q7 q8 q9 q10 q11 q12
      simp only [Ml.msgV, Ml.Mg.cells] at HTk
      clear hc hm
      by_cases hd1 : 1000 < (data.size : Int)
      · go_wp2
        go_ret
        exact ⟨rfl, HR.out.be⟩
      · by_cases hd2 : 1000 < (row.size : Int)
        · go_wp2
          go_ret
          exact ⟨rfl, HR.out.be⟩
        · go_wp2_with (go_at_call 12; refine HTk.out.mono ?_; rintro e w4 ⟨rfl, hrs, _⟩; have HR4 := Lib.hid hrs; clear hrs)
          go_roundw
          case rel => exact ⟨k + 1, _, _, by omega, by go_num, by have := HR4.out; rwa [show (2 * (k : Int) + 2) = 2 * ((k + 1 : Nat) : Int) by omega] at this, HSn.out⟩
          case measure => simp [intOf]; omega
    · obtain rfl : k = N := by omega
      by_cases hN0 : k = 0
      · subst hN0
        go_wp2
        go_ret
        exact ⟨rfl, HR.out.be⟩
      · have hkb : ((k : Int) == 0) = false := by rw [beq_eq_false_iff_ne]; omega
        have HT1 := Lib.hid (fun w' (h : ST w' dB sB mB (2 + 2 * bl) d tB bl 0 K C) => tok_any w' h)
        have HB1 := Lib.hid (fun w' (h : ST w' dB sB mB (2 + 2 * bl) d tB bl 0 K C) => table_any w' h)
        obtain ⟨m, hm⟩ : ∃ m, l1[(x2.tmod (k : Int)).toNat]? = some m := ⟨_, List.getElem?_eq_getElem (by
          have := Int.tmod_lt_of_pos x2 (show 0 < (k : Int) by omega)
          have := Int.tmod_nonneg (k : Int) hx2.1
          omega)⟩
        obtain ⟨idx, hidx, hidl⟩ : ∃ idx : Nat, x2.tmod (k : Int) = (idx : Int) ∧ idx < k := by
          have h1 := Int.tmod_lt_of_pos x2 (show 0 < (k : Int) by omega)
          have h2 := Int.tmod_nonneg (k : Int) hx2.1
          exact ⟨(x2.tmod (k : Int)).toNat, by omega, by omega⟩
        rw [hidx] at hm
        simp only [Int.toNat_natCast] at hm
        have hset := HSt.out idx m hidl hm
        obtain ⟨b, off, rfl, hb, hc⟩ := ms_at HMs.out hm
        obtain ⟨r1, r2, r3, r4, r5⟩ := HR.out.fr.again2 (by omega) hset
        have hfr1 := (HR.out.fr.take (by omega) m).1
        obtain ⟨s1, s2, _, _, _⟩ := hfr1.again2 (by omega) r5
        have HTk1 := Lib.hid (fun w' (h : RS w w' dB sB mB (2 + 2 * bl) bl d tB K C (2 * k)) => h.take (by omega) m)
        have HTk2 := Lib.hid (fun w' (h : RS w w' dB sB mB (2 + 2 * bl) bl (takD (2 + 2 * bl) 0 bl d C m) tB K (takC (2 + 2 * bl) 0 bl d C m) (2 * k + 2)) => h.take (by omega) m)
        rw [r3, r4] at HTk2
        generalize takD (2 + 2 * bl) 0 bl d C m = d1 at *
        generalize takC (2 + 2 * bl) 0 bl d C m = C1 at *
        generalize takD (2 + 2 * bl) 0 bl d1 C1 m = d2 at *
        generalize takC (2 + 2 * bl) 0 bl d1 C1 m = C2 at *
        have htk : token C2 = token C := by rw [s1, r1]
        have hbk : ∀ j, blk C2 j = blk C j := fun j => by rw [s2, r2]
        have htb : tab C2 bl = tab C bl := tab_same hbk bl
        have HT2 := Lib.hid (fun w' (h : ST w' dB sB mB (2 + 2 * bl) d2 tB bl 0 K C2) => tok_any w' h)
        have HB2 := Lib.hid (fun w' (h : ST w' dB sB mB (2 + 2 * bl) d2 tB bl 0 K C2) => table_any w' h)
        rw [htk] at HT2
        rw [htb] at HB2
        have HG1 : Hid (∀ w' (j : Nat) (hj : j < bl) (h : ST w' dB sB mB (2 + 2 * bl) d tB bl 0 K C), Calls Try.prog 11 #[.pointer (some ⟨tB, 0, none⟩), .int .i64 (j : Int)] w' fun e w'' => e = .returned (.tuple #[verV (blk C j).ep (blk C j).sq, .string (blk C j).data]) ∧ Below w'.heap.size w' w'') := Lib.hid fun w' j hj h => get_yes w' h.at_ j hj h.bl1.2 (h.cel (j + 1) (by omega)) (h.tx (j + 1) (by omega))
        have HG2 : Hid (∀ w' (j : Nat) (hj : j < bl) (h : ST w' dB sB mB (2 + 2 * bl) d2 tB bl 0 K C2), Calls Try.prog 11 #[.pointer (some ⟨tB, 0, none⟩), .int .i64 (j : Int)] w' fun e w'' => e = .returned (.tuple #[verV (blk C j).ep (blk C j).sq, .string (blk C j).data]) ∧ Below w'.heap.size w' w'') := Lib.hid fun w' j hj h => by
          rw [← hbk j]
          exact get_yes w' h.at_ j hj h.bl1.2 (h.cel (j + 1) (by omega)) (h.tx (j + 1) (by omega))
        clear r1 r2 r3 r4 r5 s1 s2 htk hbk htb hfr1 hset
        generalize token C = tk at *
        generalize tab C bl = X at *
        obtain ⟨xa, xb, xc, xd⟩ := X
        have mn := fun A w' => Ml.msg_neq A A w'
        generalize takA (2 + 2 * bl) 0 bl d C m = A at *
        generalize takI (2 + 2 * bl) 0 bl d C m = is at *
        have mn := mn A
        simp only [decide_true, Bool.not_true] at mn
        obtain ⟨ak, aep, asq, an, ab, acl, ae, at0, at1, at2, at3, adt, arw⟩ := A
        obtain ⟨kind, epoch, seq, nn, block, client, e, t0, t1, t2, t3, data, row⟩ := m
        have HC : Hid (∀ w', Below w.heap.size w w' → _) := Lib.hid fun w' (hbe : Below w.heap.size w w') => ms13 (w := w') (b := b) (off := off) (k := idx) fun i v hv => (hbe.cell (p := ⟨b, off + (idx * 13 + i), none⟩) hb).trans (hc i v hv)
        simp only [t4V, verV, Ml.msgV, Ml.Mg.cells] at HB1 HB2 HG1 HG2 HTk1 HTk2 mn HC
        have anq := arr4_neq xa xb xc xd xa xb xc xd
        simp only [and_self, decide_true, Bool.not_true] at anq
        have Hb1 := Hb.out
        have hid2 : (idx : Int) < (n1 : Int) := by omega
        have hid0 : (0 : Int) ≤ (idx : Int) := by omega
        clear hc hm
        go_wp2_with (first
          | (go_at_call 13; with_reducible refine (HT1.out _ HR.out.st).mono ?_; rintro e5 w5 ⟨rfl, hb5⟩
             have R5 := Lib.hid (HR.out.below hb5)
             clear hb5)
          | (go_at_call 17; with_reducible refine (HB1.out _ R5.out.st).mono ?_; rintro e6 w6 ⟨rfl, hb6⟩
             have N6 := Lib.hid (mem_lt (R5.out.below hb6).st (Nat.le_refl w6.heap.size))
             have hb7 := hb6.alloc hb6.size (.cells #[.int .i64 xa, .int .i64 xb, .int .i64 xc, .int .i64 xd] 29)
             have R7 := Lib.hid (R5.out.below hb7)
             have X7 := Lib.hid (Bo.new w6 #[.int .i64 xa, .int .i64 xb, .int .i64 xc, .int .i64 xd] 29)
             clear hb6 hb7))
        have hVD := VD.start (w := (w6.alloc (.cells #[.int .i64 xa, .int .i64 xb, .int .i64 xc, .int .i64 xd] 29))) (Q := C)
        have hbW : Below (w6.alloc (.cells #[.int .i64 xa, .int .i64 xb, .int .i64 xc, .int .i64 xd] 29)).heap.size (w6.alloc (.cells #[.int .i64 xa, .int .i64 xb, .int .i64 xc, .int .i64 xd] 29)) (((w6.alloc (.cells #[.int .i64 xa, .int .i64 xb, .int .i64 xc, .int .i64 xd] 29)).alloc (.cells #[] 37)).alloc (.cells #[] 9)) := ((Below.refl _ _).alloc (Nat.le_refl _) _).alloc (by simp) _
        have R8 := Lib.hid (R7.out.below hbW)
        have X8 := Lib.hid (X7.out.below hbW X7.out.lt)
        have HGB : Hid (tB < (w6.alloc (.cells #[.int .i64 xa, .int .i64 xb, .int .i64 xc, .int .i64 xd] 29)).heap.size ∧ ∀ x ∈ ours dB sB mB bl K, x < (w6.alloc (.cells #[.int .i64 xa, .int .i64 xb, .int .i64 xc, .int .i64 xd] 29)).heap.size) := Lib.hid R7.out.st.ours_lt
        have HG6 : Hid (w6.heap.size < (w6.alloc (.cells #[.int .i64 xa, .int .i64 xb, .int .i64 xc, .int .i64 xd] 29)).heap.size) := Lib.hid X7.out.lt
        have HGw : Hid (w.heap.size ≤ w6.heap.size) := Lib.hid (by have := R7.out.ge.1; have := R7.out.st.at_.lt; have h9 := X7.out.lt; simp at h9 this; omega)
        have e1 : (w6.alloc (.cells #[.int .i64 xa, .int .i64 xb, .int .i64 xc, .int .i64 xd] 29)).heap.size = w6.heap.size + 1 := by simp
        rw [e1] at hVD HGB HG6
        have V8 := Lib.hid hVD
        clear hVD hbW e1 R5 R7 X7
        generalize w6.heap.size = G6 at *
        generalize ((w6.alloc (.cells #[.int .i64 xa, .int .i64 xb, .int .i64 xc, .int .i64 xd] 29)).alloc (.cells #[] 37)).alloc (.cells #[] 9) = W8 at *
        go_loopw [14, 15, 16] (fun vs ds i wx => ∃ (j : Nat) (av : Option Addr) (cv : Nat) (ad : Option Addr) (cd : Nat), j ≤ bl ∧ vs = .slice av j cv ∧ ds = .slice ad j cd ∧ i = .int .i64 (j : Int) ∧ VD (G6 + 1) wx av cv j ad cd j C ∧ RS w wx dB sB mB (2 + 2 * bl) bl d tB K C (2 * k) ∧ Bo wx G6 #[.int .i64 xa, .int .i64 xb, .int .i64 xc, .int .i64 xd] 29) (fun _ _ i _ => bl - (intOf i).toNat)
        case atStart => exact ⟨0, _, _, _, _, by omega, rfl, rfl, rfl, V8.out, R8.out, X8.out⟩
        case round =>
          obtain ⟨j, av, cv, ad, cd, hj, rfl, rfl, rfl, hv, hr, hx⟩ := hrel
          have V9 := Lib.hid hv
          have R9 := Lib.hid hr
          have X9 := Lib.hid hx
          clear hv hr hx V8 R8 X8
          by_cases hjb : j < bl
          · have g1 : (j : Int) < (bl : Int) := by omega
            have HGj := Lib.hid (fun w' h => HG1.out w' j hjb h)
            have hvl := vers_len C j
            have hbk : ∀ z : Sd, z = blk C j → (vers C j ++ [⟨z.ep, z.sq⟩] = vers C j ++ [⟨(blk C j).ep, (blk C j).sq⟩]) ∧ (datas C j ++ [z.data] = datas C j ++ [(blk C j).data]) := fun z hz => by rw [hz]; exact ⟨rfl, rfl⟩
            obtain ⟨z, hz⟩ : ∃ z, z = blk C j := ⟨_, rfl⟩
            obtain ⟨hz1, hz2⟩ := hbk z hz
            have HZ1 := Lib.hid hz1
            have HZ2 := Lib.hid hz2
            rw [← hz] at HGj
            obtain ⟨zp, zq, zd, zt⟩ := z
            simp only at HGj HZ1 HZ2
            clear hz hbk hz1 hz2
            go_wp2_with (first
              | (go_at_call 11; with_reducible refine (HGj.out _ R9.out.st).mono ?_; rintro e10 w10 ⟨rfl, hb10⟩
                 have hb11 := (hb10.alloc hb10.size (.cells #[.int .i64 zp, .int .i64 zq] 37)).alloc (by have := hb10.size; simp; omega) (.cells #[.int .i64 zp, .int .i64 zq] 37)
                 have R11 := Lib.hid (R9.out.below hb11)
                 have V11 := Lib.hid (V9.out.below hb11)
                 have X11 := Lib.hid (X9.out.below hb11 X9.out.lt)
                 have L11 := Lib.hid (heap_alloc_new (w10.alloc (.cells #[.int .i64 zp, .int .i64 zq] 37)) (.cells #[.int .i64 zp, .int .i64 zq] 37))
                 clear hb10 hb11)
              | (at_builtin
                 refine Bv.wpList_append_M _ rfl (.tmp 86) (.tmp 88) rfl av j cv (vers C j) rfl hvl V11.out.ov _ 1 1 [⟨zp, zq⟩] rfl (rd_ver (by have := L11.out; simpa using this)) (by omega) ?_
                 intro av2 cv2 w12 o g an
                 have hne : ∀ b, (Value.slice av j cv).ownBlock = some b → w.heap.size ≤ b ∧ b ≠ tB ∧ b ∉ ours dB sB mB bl K := fun b hb => by
                   have h1 := V11.out.blkV hb
                   have h2 := HGB.out
                   have h3 := HGw.out
                   exact ⟨by omega, by have := h2.1; omega, fun hx => by have := h2.2 b hx; omega⟩
                 have R12 := Lib.hid (R11.out.grown g hne)
                 have X12 := Lib.hid (X11.out.grown g fun b hb => by have := V11.out.blkV hb; omega)
                 have V12 := Lib.hid (VD.appV (n' := j) V11.out (by rw [HZ1.out] at o; exact o) g an)
                 have hb13 := (Below.refl w12.heap.size w12).alloc (Nat.le_refl _) (.cells #[.string zd] 9)
                 have R13 := Lib.hid (R12.out.below hb13)
                 have V13 := Lib.hid (V12.out.below hb13)
                 have X13 := Lib.hid (X12.out.below hb13 X12.out.lt)
                 have L13 := Lib.hid (heap_alloc_new w12 (.cells #[.string zd] 9))
                 clear o g an hne hb13)
              | (at_builtin
                 refine wpList_append_D _ rfl (.tmp 90) (.tmp 92) rfl (G6 + 1) ad j cd (datas C j) rfl V13.out.od _ 1 zd rfl (rd_str L13.out) (by omega) V13.out.hB ?_
                 intro ad2 cd2 w14 o g an
                 have hne : ∀ b, (Value.slice ad j cd).ownBlock = some b → w.heap.size ≤ b ∧ b ≠ tB ∧ b ∉ ours dB sB mB bl K := fun b hb => by
                   have h1 := V13.out.blkD hb
                   have h2 := HGB.out
                   have h3 := HGw.out
                   exact ⟨by omega, by have := h2.1; omega, fun hx => by have := h2.2 b hx; omega⟩
                 have R14 := Lib.hid (R13.out.grown g hne)
                 have X14 := Lib.hid (X13.out.grown g fun b hb => by have := V13.out.blkD hb; omega)
                 have V14 := Lib.hid (VD.appD V13.out (by rw [HZ2.out] at o; exact o) g an)
                 clear o g an hne))
            go_roundw
            case rel => exact ⟨j + 1, _, _, _, _, by omega, rfl, rfl, by go_num, V14.out, R14.out, X14.out⟩
            case measure => simp [intOf]; omega
          · obtain rfl : j = bl := by omega
            have ht2 : x2.tmod (k : Int) = (idx : Int) := hidx
            obtain ⟨q0, q1, q2, q3, q4, q5, q6, q7, q8, q9, q10, q11, q12⟩ := HC.out _ R9.out.be
            have hkne : (k : Int) ≠ 0 := by omega
            have hx20 := hx2.1
            have hx21 := hx2.2
            have HGo := Lib.hid (fun (b : Nat) (hb : wr.heap.size ≤ b) => mem_lt R9.out.st hb)
            have HGl : Hid (∀ x ∈ ours dB sB mB j K, x < G6 + 1) := Lib.hid HGB.out.2
            have M9 := Lib.hid (Bo.new wr #[.int .i64 kind, .int .i64 epoch, .int .i64 seq, .int .i64 nn, .int .i64 block, .int .i64 client, .int .i64 e, .int .i64 t0, .int .i64 t1, .int .i64 t2, .int .i64 t3, .string data, .string row] 31)
            have hb10 := (Below.refl wr.heap.size wr).alloc (Nat.le_refl _) (.cells #[.int .i64 kind, .int .i64 epoch, .int .i64 seq, .int .i64 nn, .int .i64 block, .int .i64 client, .int .i64 e, .int .i64 t0, .int .i64 t1, .int .i64 t2, .int .i64 t3, .string data, .string row] 31)
            have R10 := Lib.hid (R9.out.below hb10)
            have V10 := Lib.hid (V9.out.below hb10)
            have X10 := Lib.hid (X9.out.below hb10 X9.out.lt)
            clear hb10
            go_upto_region 27 with (first
              | (go_at_call 12; with_reducible refine (HTk1.out _ R10.out).mono ?_; rintro e11 w11 ⟨rfl, hr11, hb11⟩
                 have hn11 := (Below.refl w11.heap.size w11).alloc (Nat.le_refl _) (.cells #[.int .i64 ak, .int .i64 aep, .int .i64 asq, .int .i64 an, .int .i64 ab, .int .i64 acl, .int .i64 ae, .int .i64 at0, .int .i64 at1, .int .i64 at2, .int .i64 at3, .string adt, .string arw] 31)
                 have R11 := Lib.hid (hr11.below hn11)
                 have V11 := Lib.hid ((V10.out.but hb11 HGl.out).below hn11)
                 have X11 := Lib.hid ((X10.out.but hb11 N6.out).below hn11 (Nat.lt_of_lt_of_le X10.out.lt hb11.size))
                 have M11 := Lib.hid ((M9.out.but hb11 (HGo.out _ (Nat.le_refl _))).below hn11 (Nat.lt_of_lt_of_le M9.out.lt hb11.size))
                 have A11 := Lib.hid (Bo.new w11 #[.int .i64 ak, .int .i64 aep, .int .i64 asq, .int .i64 an, .int .i64 ab, .int .i64 acl, .int .i64 ae, .int .i64 at0, .int .i64 at1, .int .i64 at2, .int .i64 at3, .string adt, .string arw] 31)
                 have G11 : Hid (wr.heap.size ≤ w11.heap.size) := Lib.hid (Nat.le_trans (Nat.le_of_lt M9.out.lt) hb11.size)
                 have x0 := M11.out.cell 0
                 have x1 := M11.out.cell 1
                 have x2 := M11.out.cell 2
                 have x3 := M11.out.cell 3
                 have x4 := M11.out.cell 4
                 have x5 := M11.out.cell 5
                 have x6 := M11.out.cell 6
                 have x7 := M11.out.cell 7
                 have x8 := M11.out.cell 8
                 have x9 := M11.out.cell 9
                 have x10 := M11.out.cell 10
                 have x11 := M11.out.cell 11
                 have x12 := M11.out.cell 12
                 simp only [List.getElem?_toArray, List.getElem?_cons_zero, List.getElem?_cons_succ] at x0 x1 x2 x3 x4 x5 x6 x7 x8 x9 x10 x11 x12
                 clear hr11 hb11 hn11)
              | (go_at_call 12; with_reducible refine (HTk2.out _ R11.out).mono ?_; rintro e13 w13 ⟨rfl, hr13, hb13⟩
                 have hn13 := (Below.refl w13.heap.size w13).alloc (Nat.le_refl _) (.cells #[.int .i64 ak, .int .i64 aep, .int .i64 asq, .int .i64 an, .int .i64 ab, .int .i64 acl, .int .i64 ae, .int .i64 at0, .int .i64 at1, .int .i64 at2, .int .i64 at3, .string adt, .string arw] 31)
                 have R13 := Lib.hid (hr13.below hn13)
                 have V13 := Lib.hid ((V11.out.but hb13 HGl.out).below hn13)
                 have X13 := Lib.hid ((X11.out.but hb13 N6.out).below hn13 (Nat.lt_of_lt_of_le X11.out.lt hb13.size))
                 have A13 := Lib.hid ((A11.out.but hb13 (HGo.out _ G11.out)).below hn13 (Nat.lt_of_lt_of_le A11.out.lt hb13.size))
                 have D13 := Lib.hid (Bo.new w13 #[.int .i64 ak, .int .i64 aep, .int .i64 asq, .int .i64 an, .int .i64 ab, .int .i64 acl, .int .i64 ae, .int .i64 at0, .int .i64 at1, .int .i64 at2, .int .i64 at3, .string adt, .string arw] 31)
                 clear hr13 hb13 hn13))
            clear R10 V10 X10 M9 R11 V11 X11 M11 A11 HTk1 HTk2 HT1 HB1 HG1 G11 x0 x1 x2 x3 x4 x5 x6 x7 x8 x9 x10 x11 x12
            generalize hg11 : w11.heap.size = GA at *
            generalize hg13 : w13.heap.size = GD at *
            generalize w13.alloc (.cells #[.int .i64 ak, .int .i64 aep, .int .i64 asq, .int .i64 an, .int .i64 ab, .int .i64 acl, .int .i64 ae, .int .i64 at0, .int .i64 at1, .int .i64 at2, .int .i64 at3, .string adt, .string arw] 31) = W at *
            clear hg11 hg13
            have HK : Hid (∀ w' : World, Below W.heap.size W w' → w'.cell? ⟨GA, 0, none⟩ = some (.int .i64 ak) ∧ w'.cell? ⟨GA, 1, none⟩ = some (.int .i64 aep) ∧ w'.cell? ⟨GA, 2, none⟩ = some (.int .i64 asq) ∧ w'.cell? ⟨GA, 3, none⟩ = some (.int .i64 an) ∧ w'.cell? ⟨GA, 4, none⟩ = some (.int .i64 ab) ∧ w'.cell? ⟨GA, 5, none⟩ = some (.int .i64 acl) ∧ w'.cell? ⟨GA, 6, none⟩ = some (.int .i64 ae) ∧ w'.cell? ⟨GA, 7, none⟩ = some (.int .i64 at0) ∧ w'.cell? ⟨GA, 8, none⟩ = some (.int .i64 at1) ∧ w'.cell? ⟨GA, 9, none⟩ = some (.int .i64 at2) ∧ w'.cell? ⟨GA, 10, none⟩ = some (.int .i64 at3) ∧ w'.cell? ⟨GA, 11, none⟩ = some (.string adt) ∧ w'.cell? ⟨GA, 12, none⟩ = some (.string arw) ∧ w'.cell? ⟨GD, 0, none⟩ = some (.int .i64 ak) ∧ w'.cell? ⟨GD, 1, none⟩ = some (.int .i64 aep) ∧ w'.cell? ⟨GD, 2, none⟩ = some (.int .i64 asq) ∧ w'.cell? ⟨GD, 3, none⟩ = some (.int .i64 an) ∧ w'.cell? ⟨GD, 4, none⟩ = some (.int .i64 ab) ∧ w'.cell? ⟨GD, 5, none⟩ = some (.int .i64 acl) ∧ w'.cell? ⟨GD, 6, none⟩ = some (.int .i64 ae) ∧ w'.cell? ⟨GD, 7, none⟩ = some (.int .i64 at0) ∧ w'.cell? ⟨GD, 8, none⟩ = some (.int .i64 at1) ∧ w'.cell? ⟨GD, 9, none⟩ = some (.int .i64 at2) ∧ w'.cell? ⟨GD, 10, none⟩ = some (.int .i64 at3) ∧ w'.cell? ⟨GD, 11, none⟩ = some (.string adt) ∧ w'.cell? ⟨GD, 12, none⟩ = some (.string arw) ∧ w'.cell? ⟨G6, 0, none⟩ = some (.int .i64 xa) ∧ w'.cell? ⟨G6, 1, none⟩ = some (.int .i64 xb) ∧ w'.cell? ⟨G6, 2, none⟩ = some (.int .i64 xc) ∧ w'.cell? ⟨G6, 3, none⟩ = some (.int .i64 xd)) := Lib.hid fun w' hb => by
              have a' := A13.out.below hb A13.out.lt
              have d' := D13.out.below hb D13.out.lt
              have x' := X13.out.below hb X13.out.lt
              exact ⟨a'.cell 0, a'.cell 1, a'.cell 2, a'.cell 3, a'.cell 4, a'.cell 5, a'.cell 6, a'.cell 7, a'.cell 8, a'.cell 9, a'.cell 10, a'.cell 11, a'.cell 12, d'.cell 0, d'.cell 1, d'.cell 2, d'.cell 3, d'.cell 4, d'.cell 5, d'.cell 6, d'.cell 7, d'.cell 8, d'.cell 9, d'.cell 10, d'.cell 11, d'.cell 12, x'.cell 0, x'.cell 1, x'.cell 2, x'.cell 3⟩
            have HK0 := HK.out W (Below.refl _ _)
            obtain ⟨p0, p1, p2, p3, p4, p5, p6, p7, p8, p9, p10, p11, p12, p13, p14, p15, p16, p17, p18, p19, p20, p21, p22, p23, p24, p25, p26, p27, p28, p29⟩ := HK0
            go_region_held3 (fun w' => w'.cell? ⟨GA, 0, none⟩ = some (.int .i64 ak) ∧ w'.cell? ⟨GA, 1, none⟩ = some (.int .i64 aep) ∧ w'.cell? ⟨GA, 2, none⟩ = some (.int .i64 asq) ∧ w'.cell? ⟨GA, 3, none⟩ = some (.int .i64 an) ∧ w'.cell? ⟨GA, 4, none⟩ = some (.int .i64 ab) ∧ w'.cell? ⟨GA, 5, none⟩ = some (.int .i64 acl) ∧ w'.cell? ⟨GA, 6, none⟩ = some (.int .i64 ae) ∧ w'.cell? ⟨GA, 7, none⟩ = some (.int .i64 at0) ∧ w'.cell? ⟨GA, 8, none⟩ = some (.int .i64 at1) ∧ w'.cell? ⟨GA, 9, none⟩ = some (.int .i64 at2) ∧ w'.cell? ⟨GA, 10, none⟩ = some (.int .i64 at3) ∧ w'.cell? ⟨GA, 11, none⟩ = some (.string adt) ∧ w'.cell? ⟨GA, 12, none⟩ = some (.string arw) ∧ w'.cell? ⟨GD, 0, none⟩ = some (.int .i64 ak) ∧ w'.cell? ⟨GD, 1, none⟩ = some (.int .i64 aep) ∧ w'.cell? ⟨GD, 2, none⟩ = some (.int .i64 asq) ∧ w'.cell? ⟨GD, 3, none⟩ = some (.int .i64 an) ∧ w'.cell? ⟨GD, 4, none⟩ = some (.int .i64 ab) ∧ w'.cell? ⟨GD, 5, none⟩ = some (.int .i64 acl) ∧ w'.cell? ⟨GD, 6, none⟩ = some (.int .i64 ae) ∧ w'.cell? ⟨GD, 7, none⟩ = some (.int .i64 at0) ∧ w'.cell? ⟨GD, 8, none⟩ = some (.int .i64 at1) ∧ w'.cell? ⟨GD, 9, none⟩ = some (.int .i64 at2) ∧ w'.cell? ⟨GD, 10, none⟩ = some (.int .i64 at3) ∧ w'.cell? ⟨GD, 11, none⟩ = some (.string adt) ∧ w'.cell? ⟨GD, 12, none⟩ = some (.string arw) ∧ w'.cell? ⟨G6, 0, none⟩ = some (.int .i64 xa) ∧ w'.cell? ⟨G6, 1, none⟩ = some (.int .i64 xb) ∧ w'.cell? ⟨G6, 2, none⟩ = some (.int .i64 xc) ∧ w'.cell? ⟨G6, 3, none⟩ = some (.int .i64 xd))
              (first
                | exact HK.out W (Below.refl _ _)
                | exact HK.out _ (Below.refl W.heap.size W).drew
                | exact HK.out _ B14.out
                | exact HK.out _ B15.out)
              (first
                | (go_at_call 13; refine (HT2.out W.drew (R13.out.st.below (Below.refl W.heap.size W).drew)).mono ?_; rintro e14 w14 ⟨rfl, hb14⟩
                   have B14 : Hid (Below W.heap.size W w14) := Lib.hid ((Below.refl W.heap.size W).drew.trans hb14)
                   clear hb14)
                | (go_at_call 17; refine (HB2.out _ (R13.out.st.below B14.out)).mono ?_; rintro e15 w15 ⟨rfl, hb15⟩
                   have B15 : Hid (Below W.heap.size W w15) := Lib.hid (B14.out.trans (hb15.mono B14.out.size))
                   clear hb15))
            have V15 := Lib.hid (V13.out.below B15.out)
            have R15 := Lib.hid (R13.out.below B15.out)
            clear p0 p1 p2 p3 p4 p5 p6 p7 p8 p9 p10 p11 p12 p13 p14 p15 p16 p17 p18 p19 p20 p21 p22 p23 p24 p25 p26 p27 p28 p29 HK A13 D13 X13 V13 R13 B14 B15
            go_wp2
            go_loopw [24] (fun i wy => ∃ q : Nat, q ≤ j ∧ i = .int .i64 (q : Int) ∧ VD (G6 + 1) wy av cv j ad cd j C ∧ RS w wy dB sB mB (2 + 2 * j) j d2 tB K C2 (2 * k + 2 + 2)) (fun i _ => j - (intOf i).toNat)
            case atStart => exact ⟨0, by omega, rfl, V15.out, R15.out⟩
            case round =>
              obtain ⟨q, hq, rfl, hv, hr⟩ := hrel
              have V16 := Lib.hid hv
              have R16 := Lib.hid hr
              clear hv hr V15 R15
              by_cases hqj : q < j
              · have g1 : (q : Int) < (j : Int) := by omega
                have g0 : (0 : Int) ≤ (q : Int) := by omega
                have HGq := Lib.hid (fun w' h => HG2.out w' q hqj h)
                obtain ⟨bv, ov, hav, _⟩ := V16.out.atV hqj
                obtain ⟨bd, od, had, _⟩ := V16.out.atD hqj
                subst hav had
                have HAv : Hid (∀ w', VD (G6 + 1) w' (some ⟨bv, ov, none⟩) cv j (some ⟨bd, od, none⟩) cd j C → w'.cell? ⟨bv, ov + q * 2, none⟩ = some (.int .i64 (blk C q).ep) ∧ w'.cell? ⟨bv, ov + q * 2 + 1, none⟩ = some (.int .i64 (blk C q).sq) ∧ w'.cell? ⟨bd, od + q, none⟩ = some (.string (blk C q).data)) := Lib.hid fun w' h => by
                  obtain ⟨b1, o1, h1, h2, h3⟩ := h.atV hqj
                  obtain ⟨b2, o2, h4, h5⟩ := h.atD hqj
                  injection h1 with h1
                  injection h1 with h1 h1'
                  injection h4 with h4
                  injection h4 with h4 h4'
                  subst h1 h1' h4 h4'
                  exact ⟨h2, h3, h5⟩
                generalize blk C q = z at *
                obtain ⟨zp, zq, zd, zt⟩ := z
                simp only at HGq HAv
                have vn := ver_neq zp zq zp zq
                simp only [and_self, decide_true, Bool.not_true] at vn
                go_upto_region 33 with (go_at_call 11; with_reducible refine (HGq.out _ R16.out.st).mono ?_; rintro e17 w17 ⟨rfl, hb17⟩
                                        have hb18 := hb17.alloc hb17.size (.cells #[.int .i64 zp, .int .i64 zq] 37)
                                        have R18 := Lib.hid (R16.out.below hb18)
                                        have V18 := Lib.hid (V16.out.below hb18)
                                        have N18 := Lib.hid (Bo.new w17 #[.int .i64 zp, .int .i64 zq] 37)
                                        obtain ⟨c1', c2', c3'⟩ := HAv.out _ V18.out
                                        have v0 := N18.out.cell 0
                                        have v1 := N18.out.cell 1
                                        simp only [List.getElem?_toArray, List.getElem?_cons_zero, List.getElem?_cons_succ] at v0 v1
                                        clear hb17 hb18)
                go_quiet (fail)
                go_wp2
                go_roundw
                case rel => exact ⟨q + 1, by omega, by go_num, V18.out.below (drewN_below _ _ _), R18.out.below (drewN_below _ _ _)⟩
                case measure => simp [intOf]; omega
              · go_wp2
                go_ret
                exact ⟨rfl, R16.out.be⟩

set_option maxRecDepth 100000 in
theorem lifted (os : Os) (started : os.Started) (H : Type) (enc : TypeId × Value → H) :
    ReturnsInHanded {} Try.checked os 4 .any (Rows.backingTwiceSpec.pre6 enc Try.prog Try.f4 Rows.backingTwiceRow.domain false) (Rows.backingTwiceSpec.post enc Try.prog Try.f4 false true false false) := by
  refine returnsInHanded_of_change (C := Try.checked) own started (by kernel_rfl) Try.func4
    (ChangeSpec.witness6 (enc := enc) (C := Try.checked) false ⟨#[], #[.int .u8 0, .slice none 0 0, .int .u8 0], []⟩ 8 (by kernel_rfl) (by kernel_rfl) (by kernel_rfl) (by kernel_rfl)) ?_
  intro W base args ds gs before hval0 hW hcnd _
  have hval : ∀ (j : Nat) t v, Try.f4.params[j]? = some t → args[j]? = some v → Value.okWide Try.prog W .any base t v := hval0
  have hW' := hW
  obtain ⟨p, q, hA0, hV, rfl, hfz, hnd⟩ := hW
  have hA : DataW.TrodAll enc Try.prog W 0 (fun _ => true) true Try.f4.params.toList args.toList ds p := hA0
  rw [Try.params4] at hA hval
  obtain ⟨v0, vs0, d0, ds0, p0, q0, hargs, rfl, rfl, h0, r0'⟩ := trodAll_cons hA
  obtain ⟨v1, vs1, d1, ds1, p1, q1, rfl, rfl, rfl, h1, r1'⟩ := trodAll_cons r0'
  obtain ⟨v2, vs2, d2, ds2, p2, q2, rfl, rfl, rfl, h2, r2'⟩ := trodAll_cons r1'
  obtain ⟨rfl, rfl, rfl⟩ := trodAll_nil r2'
  obtain rfl : args = #[v0, v1, v2] := by cases args; simp_all
  obtain ⟨rfl, rfl⟩ := trodVars_none hV
  obtain ⟨x0, rfl, rfl, rfl, w0⟩ := open_int Try.underlying5 (hval 0 5 v0 rfl rfl) h0
  have k1 := h1
  have lt1 : ∀ x ∈ p1, x.block < W.heap.size := by obtain ⟨m, hm⟩ := k1; exact DataW.trod_lt m _ _ _ hm
  obtain ⟨a1, n1, c1, l1, rfl, w1⟩ := Bk.open_msgs h1 (okWide_slice Try.underlying50 (hval 1 50 v1 rfl rfl))
  obtain ⟨x2, rfl, rfl, rfl, w2⟩ := open_int Try.underlying5 (hval 2 5 v2 rfl rfl) h2
  clear hA0 hval0
  refine (walk x0 a1 n1 c1 l1 x2 W w0 w1 w2).mono fun e W' ⟨he, bel⟩ => ?_
  subst he
  exact ⟨_, rfl, _, _, _, [], _, [], hW', trodAll_mk1 (shut_bool Try.underlying4 _), (trodAll_cons_mk (shut_int Try.underlying5 w0) (trodAll_cons_mk (Below.trod laidOut (by kernel_rfl) (of_decide_eq_true (by kernel_rfl)) k1 bel lt1) (trodAll_cons_mk (shut_int Try.underlying5 w2) trodAll_mk0))), rfl, bel.frame _, fun h => by cases h⟩

theorem over : Rows.backingTwiceRow.holds Try.pinned (OpenSpec.ofChange Rows.backingTwiceSpec) :=
  OpenClaim.holds_of_wide 4 Try.f4 rfl rfl rfl rfl rfl rfl rfl ⟨rfl, rfl, rfl, rfl, rfl⟩ rfl rfl rfl rfl rfl (by kernel_rfl) Try.func4 (by kernel_rfl)
    (of_decide_eq_true (by kernel_rfl)) (by unfold Func.isWrapper; first | (rw [if_pos (by decide +kernel)]; kernel_rfl) | (rw [if_neg (by decide +kernel)]; exact ⟨rfl, rfl⟩))
    (fun os started H enc _ => lifted os started H enc)

/-- the statement -/
theorem proved : Rows.BackingTwiceSaid := over
#print axioms proved
end Go.Proofs.Ytofhijnfbilieaa.backingTwice
