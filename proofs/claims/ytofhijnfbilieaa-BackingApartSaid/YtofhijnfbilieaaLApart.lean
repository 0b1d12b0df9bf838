/-
  PROVED: what is stored to one block changes no other one; what is refused changes nothing but, at most, the token. CONDITIONS: none (any number of blocks; any messages, of which up to 60 are taken).
-/
import Derived.Test.YtofhijnfbilieaaBkPart
import Derived.BigQuiet
import Derived.Deep.RegionHeld3
namespace Go.Proofs.Ytofhijnfbilieaa.backingApart
open Go.ChangeShapes Go.WideShapes Go.ChangeAt Go.RowKit Go.Joins
open Go.ChangeMaps (open_string shut_string)
set_option linter.unusedVariables false
set_option linter.unusedSimpArgs false
set_option maxRecDepth 20000

open Bk

set_option maxHeartbeats 4000000 in
theorem walk (x0 : Int) (a1 : Option Addr) (n1 c1 : Nat) (l1 : List Ml.Mg) (w : World) (w0 : (Lit.int .u8 x0).wf = true) (w1 : Bk.Ms w a1 n1 c1 l1) :
    Calls Try.prog 5 #[.int .u8 x0, .slice a1 n1 c1] w fun e w' => e = .returned (.bool true) ∧ Below w.heap.size w w' := by
  have hx := u8_in w0
  obtain ⟨bl, hbl⟩ : ∃ bl, bl = (x0 % 32).toNat + 1 := ⟨_, rfl⟩
  have hb32 : 1 ≤ bl ∧ bl ≤ 32 := by omega
  have HA := Lib.hid (awake_any w)
  have HL := Lib.hid (lopen_run w hx hbl)
  have HMs := Lib.hid w1
  have hlen : l1.length = n1 := w1.1
  have hcap : n1 ≤ 9223372036854775807 := by have := w1.2.1; have := w1.2.2.1; simp only [maxLen] at this; omega
  have Hb := Lib.hid hb32
  clear w0 w1 hx hbl hb32
  go_enter Try.func5, Try.ntmps5
  go_wp2_with (first
    | (go_at_call 8; with_reducible refine HA.out.mono ?_; rintro e w1 ⟨rfl, hb1⟩
       have HB1 := Lib.hid hb1
       clear hb1)
    | (go_at_call 9; with_reducible refine (HL.out _ HB1.out).mono ?_; rintro e w2 ⟨dB, sB, mB, tB, K, rfl, hrs⟩
       have HR0 := Lib.hid hrs
       clear hrs))
  clear HA HL HB1
  go_loopw [8] (fun i wr => ∃ (k : Nat) (d : M.Dv) (C : Cs), k ≤ n1 ∧ k ≤ 60 ∧ i = .int .i64 (k : Int) ∧ RS w wr dB sB mB (2 + 2 * bl) bl d tB K C (2 * k)) (fun i _ => 60 - (intOf i).toNat)
  case atStart => exact ⟨0, _, _, by omega, by omega, rfl, HR0.out⟩
  case round =>
    obtain ⟨k, d, C, hk1, hk2, rfl, hr⟩ := hrel
    have HR := Lib.hid hr
    clear hr
    by_cases hlt : k < n1 ∧ k < 60
    · have g1 : (k : Int) < (n1 : Int) := by omega
      have g2 : (k : Int) < 60 := by omega
      have g0 : (0 : Int) ≤ (k : Int) := by omega
      obtain ⟨m, hm⟩ : ∃ m, l1[k]? = some m := ⟨_, List.getElem?_eq_getElem (by omega)⟩
      obtain ⟨b, off, rfl, hb, hc⟩ := ms_at HMs.out hm
      obtain ⟨kind, epoch, seq, nn, block, client, e, t0, t1, t2, t3, data, row⟩ := m
      obtain ⟨q0, q1, q2, q3, q4, q5, q6, q7, q8, q9, q10, q11, q12⟩ := ms13 (w := wr) (b := b) (off := off) (k := k) fun i v hv => (HR.out.be.cell (p := ⟨b, off + (k * 13 + i), none⟩) hb).trans (hc i v hv)
      simp only at q0 q1 q2 q3 q4 q5 q6 q7 q8 q9 q10 q11 q12
      clear hc hm
      have HTk : Hid (∀ w', RS w w' dB sB mB (2 + 2 * bl) bl d tB K C (2 * k) → _) := Lib.hid (fun w' (h : RS w w' dB sB mB (2 + 2 * bl) bl d tB K C (2 * k)) => h.take (by omega) ⟨kind, epoch, seq, nn, block, client, e, t0, t1, t2, t3, data, row⟩)
      obtain ⟨fx, fo, fn⟩ := HR.out.fr.parts (by omega) ⟨kind, epoch, seq, nn, block, client, e, t0, t1, t2, t3, data, row⟩
      have HG1 : Hid (∀ w' (j : Nat) (hj : j < bl) (h : ST w' dB sB mB (2 + 2 * bl) d tB bl 0 K C), Calls Try.prog 11 #[.pointer (some ⟨tB, 0, none⟩), .int .i64 (j : Int)] w' fun e w'' => e = .returned (.tuple #[verV (blk C j).ep (blk C j).sq, .string (blk C j).data]) ∧ Below w'.heap.size w' w'') := Lib.hid fun w' j hj h => get_yes w' h.at_ j hj h.bl1.2 (h.cel (j + 1) (by omega)) (h.tx (j + 1) (by omega))
      have HB1 := Lib.hid (fun w' (h : ST w' dB sB mB (2 + 2 * bl) d tB bl 0 K C) => table_any w' h)
      generalize hA : takA (2 + 2 * bl) 0 bl d C ⟨kind, epoch, seq, nn, block, client, e, t0, t1, t2, t3, data, row⟩ = A at *
      generalize hI : takI (2 + 2 * bl) 0 bl d C ⟨kind, epoch, seq, nn, block, client, e, t0, t1, t2, t3, data, row⟩ = is at *
      generalize hC : takC (2 + 2 * bl) 0 bl d C ⟨kind, epoch, seq, nn, block, client, e, t0, t1, t2, t3, data, row⟩ = C2 at *
      generalize hD : takD (2 + 2 * bl) 0 bl d C ⟨kind, epoch, seq, nn, block, client, e, t0, t1, t2, t3, data, row⟩ = d2 at *
      generalize hNw : news bl C ⟨kind, epoch, seq, nn, block, client, e, t0, t1, t2, t3, data, row⟩ = nw at *
      have HG2 : Hid (∀ w' (j : Nat) (hj : j < bl) (h : ST w' dB sB mB (2 + 2 * bl) d2 tB bl 0 K C2), Calls Try.prog 11 #[.pointer (some ⟨tB, 0, none⟩), .int .i64 (j : Int)] w' fun e w'' => e = .returned (.tuple #[verV (blk C2 j).ep (blk C2 j).sq, .string (blk C2 j).data]) ∧ Below w'.heap.size w' w'') := Lib.hid fun w' j hj h => get_yes w' h.at_ j hj h.bl1.2 (h.cel (j + 1) (by omega)) (h.tx (j + 1) (by omega))
      have HB2 := Lib.hid (fun w' (h : ST w' dB sB mB (2 + 2 * bl) d2 tB bl 0 K C2) => table_any w' h)
      obtain ⟨ak, aep, asq, an, ab, acl, ae, at0, at1, at2, at3, adt, arw⟩ := A
      generalize tab C bl = X at *
      generalize tab C2 bl = Y at *
      obtain ⟨xa, xb, xc, xd⟩ := X
      obtain ⟨ya, yb, yc, yd⟩ := Y
      simp only [Ml.msgV, Ml.Mg.cells, verV, t4V, T4.mk.injEq] at HTk HG1 HG2 HB1 HB2 fx fo fn
      have FX := Lib.hid fx
      have FO := Lib.hid fo
      have FN := Lib.hid fn
      clear hA hI hC hD hNw fx fo fn
      by_cases hd1 : 1000 < (data.size : Int)
      · go_wp2
        go_ret
        exact ⟨rfl, HR.out.be.alloc HR.out.be.size _⟩
      · by_cases hd2 : 1000 < (row.size : Int)
        · go_wp2
          go_ret
          exact ⟨rfl, HR.out.be.alloc HR.out.be.size _⟩
        · have R1 := Lib.hid (HR.out.below ((Below.refl wr.heap.size wr).alloc (Nat.le_refl _) (.cells #[.int .i64 kind, .int .i64 epoch, .int .i64 seq, .int .i64 nn, .int .i64 block, .int .i64 client, .int .i64 e, .int .i64 t0, .int .i64 t1, .int .i64 t2, .int .i64 t3, .string data, .string row] 31)))
          have M1 := Lib.hid (Bo.new wr #[.int .i64 kind, .int .i64 epoch, .int .i64 seq, .int .i64 nn, .int .i64 block, .int .i64 client, .int .i64 e, .int .i64 t0, .int .i64 t1, .int .i64 t2, .int .i64 t3, .string data, .string row] 31)
          have HGo := Lib.hid (fun (b : Nat) (hb : wr.heap.size ≤ b) => mem_lt HR.out.st hb)
          go_wp2
          have hVD := VD.start (w := (wr.alloc (.cells #[.int .i64 kind, .int .i64 epoch, .int .i64 seq, .int .i64 nn, .int .i64 block, .int .i64 client, .int .i64 e, .int .i64 t0, .int .i64 t1, .int .i64 t2, .int .i64 t3, .string data, .string row] 31))) (Q := C)
          have hbW : Below (wr.alloc (.cells #[.int .i64 kind, .int .i64 epoch, .int .i64 seq, .int .i64 nn, .int .i64 block, .int .i64 client, .int .i64 e, .int .i64 t0, .int .i64 t1, .int .i64 t2, .int .i64 t3, .string data, .string row] 31)).heap.size (wr.alloc (.cells #[.int .i64 kind, .int .i64 epoch, .int .i64 seq, .int .i64 nn, .int .i64 block, .int .i64 client, .int .i64 e, .int .i64 t0, .int .i64 t1, .int .i64 t2, .int .i64 t3, .string data, .string row] 31)) (((wr.alloc (.cells #[.int .i64 kind, .int .i64 epoch, .int .i64 seq, .int .i64 nn, .int .i64 block, .int .i64 client, .int .i64 e, .int .i64 t0, .int .i64 t1, .int .i64 t2, .int .i64 t3, .string data, .string row] 31)).alloc (.cells #[] 37)).alloc (.cells #[] 9)) := ((Below.refl _ _).alloc (Nat.le_refl _) _).alloc (by simp) _
          have R8 := Lib.hid (R1.out.below hbW)
          have M8 := Lib.hid (M1.out.below hbW M1.out.lt)
          have HGB : Hid (tB < (wr.alloc (.cells #[.int .i64 kind, .int .i64 epoch, .int .i64 seq, .int .i64 nn, .int .i64 block, .int .i64 client, .int .i64 e, .int .i64 t0, .int .i64 t1, .int .i64 t2, .int .i64 t3, .string data, .string row] 31)).heap.size ∧ ∀ x ∈ ours dB sB mB bl K, x < (wr.alloc (.cells #[.int .i64 kind, .int .i64 epoch, .int .i64 seq, .int .i64 nn, .int .i64 block, .int .i64 client, .int .i64 e, .int .i64 t0, .int .i64 t1, .int .i64 t2, .int .i64 t3, .string data, .string row] 31)).heap.size) := Lib.hid R1.out.st.ours_lt
          have HGw : Hid (w.heap.size ≤ wr.heap.size) := Lib.hid HR.out.be.size
          have N6 : Hid (wr.heap.size ∉ ours dB sB mB bl K) := Lib.hid (HGo.out _ (Nat.le_refl _))
          have e1 : (wr.alloc (.cells #[.int .i64 kind, .int .i64 epoch, .int .i64 seq, .int .i64 nn, .int .i64 block, .int .i64 client, .int .i64 e, .int .i64 t0, .int .i64 t1, .int .i64 t2, .int .i64 t3, .string data, .string row] 31)).heap.size = wr.heap.size + 1 := by simp
          rw [e1] at hVD HGB
          have V8 := Lib.hid hVD
          clear hVD hbW e1 R1 M1 HR HGo q0 q1 q2 q3 q4 q5 q6 q7 q8 q9 q10 q11 q12
          generalize hg6 : wr.heap.size = G6 at *
          generalize (((wr.alloc (.cells #[.int .i64 kind, .int .i64 epoch, .int .i64 seq, .int .i64 nn, .int .i64 block, .int .i64 client, .int .i64 e, .int .i64 t0, .int .i64 t1, .int .i64 t2, .int .i64 t3, .string data, .string row] 31)).alloc (.cells #[] 37)).alloc (.cells #[] 9)) = W8 at *
          clear hg6
          go_loopw [10, 11, 12] (fun vs ds i wx => ∃ (j : Nat) (av : Option Addr) (cv : Nat) (ad : Option Addr) (cd : Nat), j ≤ bl ∧ vs = .slice av j cv ∧ ds = .slice ad j cd ∧ i = .int .i64 (j : Int) ∧ VD (G6 + 1) wx av cv j ad cd j C ∧ RS w wx dB sB mB (2 + 2 * bl) bl d tB K C (2 * k) ∧ Bo wx G6 #[.int .i64 kind, .int .i64 epoch, .int .i64 seq, .int .i64 nn, .int .i64 block, .int .i64 client, .int .i64 e, .int .i64 t0, .int .i64 t1, .int .i64 t2, .int .i64 t3, .string data, .string row] 31) (fun _ _ i _ => bl - (intOf i).toNat)
          case atStart => exact ⟨0, _, _, _, _, by omega, rfl, rfl, rfl, V8.out, R8.out, M8.out⟩
          case round =>
            obtain ⟨j, av, cv, ad, cd, hj, rfl, rfl, rfl, hv, hr, hx⟩ := hrel
            have V9 := Lib.hid hv
            have R9 := Lib.hid hr
            have X9 := Lib.hid hx
            have Hb1 := Hb.out
            clear hv hr hx V8 R8 M8
            by_cases hjb : j < bl
            · have g1 : (j : Int) < (bl : Int) := by omega
              have HGj := Lib.hid (fun w' h => HG1.out w' j hjb h)
              have hvl := vers_len C j
              have hbk : ∀ z : Sd, z = blk C j → (vers C j ++ [⟨z.ep, z.sq⟩] = vers C j ++ [⟨(blk C j).ep, (blk C j).sq⟩]) ∧ (datas C j ++ [z.data] = datas C j ++ [(blk C j).data]) := fun z hz => by rw [hz]; exact ⟨rfl, rfl⟩
              obtain ⟨z, hz⟩ : ∃ z, z = blk C j := ⟨_, rfl⟩
              obtain ⟨hz1, hz2⟩ := hbk z hz
              have HZ1 := Lib.hid hz1
              have HZ2 := Lib.hid hz2
              rw [← hz] at HGj
              obtain ⟨zp, zq, zd, zt⟩ := z
              simp only at HGj HZ1 HZ2
              clear hz hbk hz1 hz2
              go_wp2_with (first
                | (go_at_call 11; with_reducible refine (HGj.out _ R9.out.st).mono ?_; rintro e10 w10 ⟨rfl, hb10⟩
                   have hb11 := (hb10.alloc hb10.size (.cells #[.int .i64 zp, .int .i64 zq] 37)).alloc (by have := hb10.size; simp; omega) (.cells #[.int .i64 zp, .int .i64 zq] 37)
                   have R11 := Lib.hid (R9.out.below hb11)
                   have V11 := Lib.hid (V9.out.below hb11)
                   have X11 := Lib.hid (X9.out.below hb11 X9.out.lt)
                   have L11 := Lib.hid (heap_alloc_new (w10.alloc (.cells #[.int .i64 zp, .int .i64 zq] 37)) (.cells #[.int .i64 zp, .int .i64 zq] 37))
                   clear hb10 hb11)
                | (at_builtin
                   refine Bv.wpList_append_M _ rfl (.tmp 69) (.tmp 71) rfl av j cv (vers C j) rfl hvl V11.out.ov _ 1 1 [⟨zp, zq⟩] rfl (rd_ver (by have := L11.out; simpa using this)) (by omega) ?_
                   intro av2 cv2 w12 o g an
                   have hne : ∀ b, (Value.slice av j cv).ownBlock = some b → w.heap.size ≤ b ∧ b ≠ tB ∧ b ∉ ours dB sB mB bl K := fun b hb => by
                     have h1 := V11.out.blkV hb
                     have h2 := HGB.out
                     have h3 := HGw.out
                     exact ⟨by omega, by have := h2.1; omega, fun hx => by have := h2.2 b hx; omega⟩
                   have R12 := Lib.hid (R11.out.grown g hne)
                   have X12 := Lib.hid (X11.out.grown g fun b hb => by have := V11.out.blkV hb; omega)
                   have V12 := Lib.hid (VD.appV (n' := j) V11.out (by rw [HZ1.out] at o; exact o) g an)
                   have hb13 := (Below.refl w12.heap.size w12).alloc (Nat.le_refl _) (.cells #[.string zd] 9)
                   have R13 := Lib.hid (R12.out.below hb13)
                   have V13 := Lib.hid (V12.out.below hb13)
                   have X13 := Lib.hid (X12.out.below hb13 X12.out.lt)
                   have L13 := Lib.hid (heap_alloc_new w12 (.cells #[.string zd] 9))
                   clear o g an hne hb13)
                | (at_builtin
                   refine wpList_append_D _ rfl (.tmp 73) (.tmp 75) rfl (G6 + 1) ad j cd (datas C j) rfl V13.out.od _ 1 zd rfl (rd_str L13.out) (by omega) V13.out.hB ?_
                   intro ad2 cd2 w14 o g an
                   have hne : ∀ b, (Value.slice ad j cd).ownBlock = some b → w.heap.size ≤ b ∧ b ≠ tB ∧ b ∉ ours dB sB mB bl K := fun b hb => by
                     have h1 := V13.out.blkD hb
                     have h2 := HGB.out
                     have h3 := HGw.out
                     exact ⟨by omega, by have := h2.1; omega, fun hx => by have := h2.2 b hx; omega⟩
                   have R14 := Lib.hid (R13.out.grown g hne)
                   have X14 := Lib.hid (X13.out.grown g fun b hb => by have := V13.out.blkD hb; omega)
                   have V14 := Lib.hid (VD.appD V13.out (by rw [HZ2.out] at o; exact o) g an)
                   clear o g an hne))
              go_roundw
              case rel => exact ⟨j + 1, _, _, _, _, by omega, rfl, rfl, by go_num, V14.out, R14.out, X14.out⟩
              case measure => simp [intOf]; omega
            · obtain rfl : j = bl := by omega
              have x0 := X9.out.cell 0
              have x1 := X9.out.cell 1
              have x2 := X9.out.cell 2
              have x3 := X9.out.cell 3
              have x4 := X9.out.cell 4
              have x5 := X9.out.cell 5
              have x6 := X9.out.cell 6
              have x7 := X9.out.cell 7
              have x8 := X9.out.cell 8
              have x9 := X9.out.cell 9
              have x10 := X9.out.cell 10
              have x11 := X9.out.cell 11
              have x12 := X9.out.cell 12
              simp only [List.getElem?_toArray, List.getElem?_cons_zero, List.getElem?_cons_succ] at x0 x1 x2 x3 x4 x5 x6 x7 x8 x9 x10 x11 x12
              have HGo := Lib.hid (fun (b : Nat) (hb : wr.heap.size ≤ b) => mem_lt R9.out.st hb)
              go_wp2_with (first
                | (go_at_call 17; with_reducible refine (HB1.out _ R9.out.st).mono ?_; rintro e10 w10 ⟨rfl, hb10⟩
                   have hb11 := hb10.alloc hb10.size (.cells #[.int .i64 xa, .int .i64 xb, .int .i64 xc, .int .i64 xd] 29)
                   have R11 := Lib.hid (R9.out.below hb11)
                   have V11 := Lib.hid (V9.out.below hb11)
                   have M11 := Lib.hid (X9.out.below hb11 X9.out.lt)
                   have T11 := Lib.hid (Bo.new w10 #[.int .i64 xa, .int .i64 xb, .int .i64 xc, .int .i64 xd] 29)
                   have G11 : Hid (wr.heap.size ≤ w10.heap.size) := Lib.hid hb10.size
                   clear x0 x1 x2 x3 x4 x5 x6 x7 x8 x9 x10 x11 x12
                   have x0 := M11.out.cell 0
                   have x1 := M11.out.cell 1
                   have x2 := M11.out.cell 2
                   have x3 := M11.out.cell 3
                   have x4 := M11.out.cell 4
                   have x5 := M11.out.cell 5
                   have x6 := M11.out.cell 6
                   have x7 := M11.out.cell 7
                   have x8 := M11.out.cell 8
                   have x9 := M11.out.cell 9
                   have x10 := M11.out.cell 10
                   have x11 := M11.out.cell 11
                   have x12 := M11.out.cell 12
                   simp only [List.getElem?_toArray, List.getElem?_cons_zero, List.getElem?_cons_succ] at x0 x1 x2 x3 x4 x5 x6 x7 x8 x9 x10 x11 x12
                   clear hb10 hb11)
                | (go_at_call 12; with_reducible refine (HTk.out _ R11.out).mono ?_; rintro e12 w12 ⟨rfl, hr12, hb12⟩
                   have hn12 := (Below.refl w12.heap.size w12).alloc (Nat.le_refl _) (.cells #[.int .i64 ak, .int .i64 aep, .int .i64 asq, .int .i64 an, .int .i64 ab, .int .i64 acl, .int .i64 ae, .int .i64 at0, .int .i64 at1, .int .i64 at2, .int .i64 at3, .string adt, .string arw] 31)
                   have R13 := Lib.hid (hr12.below hn12)
                   have V13 := Lib.hid ((V11.out.but hb12 HGB.out.2).below hn12)
                   have M13 := Lib.hid ((M11.out.but hb12 N6.out).below hn12 (Nat.lt_of_lt_of_le M11.out.lt hb12.size))
                   have T13 := Lib.hid ((T11.out.but hb12 (HGo.out _ G11.out)).below hn12 (Nat.lt_of_lt_of_le T11.out.lt hb12.size))
                   have A13 := Lib.hid (Bo.new w12 #[.int .i64 ak, .int .i64 aep, .int .i64 asq, .int .i64 an, .int .i64 ab, .int .i64 acl, .int .i64 ae, .int .i64 at0, .int .i64 at1, .int .i64 at2, .int .i64 at3, .string adt, .string arw] 31)
                   clear x0 x1 x2 x3 x4 x5 x6 x7 x8 x9 x10 x11 x12 hr12 hb12 hn12))
              clear R11 V11 M11 T11 G11 HTk HB1 HG1 HGo R9 V9 X9
              generalize hg10 : w10.heap.size = GT at *
              generalize hg12 : w12.heap.size = GA at *
              generalize w12.alloc (.cells #[.int .i64 ak, .int .i64 aep, .int .i64 asq, .int .i64 an, .int .i64 ab, .int .i64 acl, .int .i64 ae, .int .i64 at0, .int .i64 at1, .int .i64 at2, .int .i64 at3, .string adt, .string arw] 31) = W at *
              clear hg10 hg12
              go_loopw [18] (fun i wy => ∃ q : Nat, q ≤ j ∧ i = .int .i64 (q : Int) ∧ VD (G6 + 1) wy av cv j ad cd j C ∧ RS w wy dB sB mB (2 + 2 * j) j d2 tB K C2 (2 * k + 2) ∧ Bo wy G6 #[.int .i64 kind, .int .i64 epoch, .int .i64 seq, .int .i64 nn, .int .i64 block, .int .i64 client, .int .i64 e, .int .i64 t0, .int .i64 t1, .int .i64 t2, .int .i64 t3, .string data, .string row] 31 ∧ Bo wy GT #[.int .i64 xa, .int .i64 xb, .int .i64 xc, .int .i64 xd] 29 ∧ Bo wy GA #[.int .i64 ak, .int .i64 aep, .int .i64 asq, .int .i64 an, .int .i64 ab, .int .i64 acl, .int .i64 ae, .int .i64 at0, .int .i64 at1, .int .i64 at2, .int .i64 at3, .string adt, .string arw] 31) (fun i _ => j - (intOf i).toNat)
              case atStart => exact ⟨0, by omega, rfl, V13.out, R13.out, M13.out, T13.out, A13.out⟩
              case round =>
                obtain ⟨q, hq, rfl, hv, hr, hmm, htt, haa⟩ := hrel
                have V16 := Lib.hid hv
                have R16 := Lib.hid hr
                have M16 := Lib.hid hmm
                have T16 := Lib.hid htt
                have A16 := Lib.hid haa
                clear hv hr hmm htt haa V13 R13 M13 T13 A13
                by_cases hqj : q < j
                · have g1 : (q : Int) < (j : Int) := by omega
                  have g0 : (0 : Int) ≤ (q : Int) := by omega
                  have HGq := Lib.hid (fun w' h => HG2.out w' q hqj h)
                  obtain ⟨bv, ov, hav, _⟩ := V16.out.atV hqj
                  obtain ⟨bd, od, had, _⟩ := V16.out.atD hqj
                  subst hav had
                  have HAv : Hid (∀ w', VD (G6 + 1) w' (some ⟨bv, ov, none⟩) cv j (some ⟨bd, od, none⟩) cd j C → w'.cell? ⟨bv, ov + q * 2, none⟩ = some (.int .i64 (blk C q).ep) ∧ w'.cell? ⟨bv, ov + q * 2 + 1, none⟩ = some (.int .i64 (blk C q).sq) ∧ w'.cell? ⟨bd, od + q, none⟩ = some (.string (blk C q).data)) := Lib.hid fun w' h => by
                    obtain ⟨b1, o1, h1, h2, h3⟩ := h.atV hqj
                    obtain ⟨b2, o2, h4, h5⟩ := h.atD hqj
                    injection h1 with h1
                    injection h1 with h1 h1'
                    injection h4 with h4
                    injection h4 with h4 h4'
                    subst h1 h1' h4 h4'
                    exact ⟨h2, h3, h5⟩
                  have hcase : (blk C2 q = blk C q) ∨ ((is = true ∧ ae = 0 ∧ kind = 10 ∧ block = (q : Int)) ∧ ((blk C2 q).ep = epoch ∧ (blk C2 q).sq = seq ∧ (blk C2 q).data = data) ∧ ¬ (epoch = (blk C q).ep ∧ seq = (blk C q).sq)) := by
                    cases nw with
                    | false => exact .inl ((FO.out rfl).1 q)
                    | true =>
                      obtain ⟨n1, n2, n3, b', n4, n5, n6, n7, n8, n9, n10⟩ := FN.out rfl
                      by_cases hqb : q = b'
                      · subst hqb; exact .inr ⟨⟨n1, n2, n3, n4⟩, ⟨n6, n7, n8⟩, n9⟩
                      · exact .inl (n10 q hqb)
                  generalize blk C2 q = y at *
                  generalize blk C q = z at *
                  obtain ⟨zp, zq, zd, zt⟩ := z
                  obtain ⟨yp, yq, yd', yt⟩ := y
                  simp only [Sd.mk.injEq] at HGq HAv hcase
                  have FA := Lib.hid (fun (w' : World) (h : Bo w' GA #[.int .i64 ak, .int .i64 aep, .int .i64 asq, .int .i64 an, .int .i64 ab, .int .i64 acl, .int .i64 ae, .int .i64 at0, .int .i64 at1, .int .i64 at2, .int .i64 at3, .string adt, .string arw] 31) => h.cell 6)
                  rcases hcase with ⟨rfl, rfl, rfl, _⟩ | ⟨⟨rfl, rfl, rfl, rfl⟩, ⟨rfl, rfl, rfl⟩, hne⟩
                  case' inl =>
                    have vn := ver_neq yp yq yp yq
                    simp only [and_self, decide_true, Bool.not_true] at vn
                  case' inr =>
                    have vn := ver_neq yp yq zp zq
                    have vm := ver_neq yp yq yp yq
                    rw [decide_eq_false hne] at vn
                    simp only [and_self, decide_true, Bool.not_true, Bool.not_false] at vn vm
                  all_goals
                    go_upto_region 26 with (go_at_call 11; with_reducible refine (HGq.out _ R16.out.st).mono ?_; rintro e17 w17 ⟨rfl, hb17⟩
                                            have hb18 := hb17.alloc hb17.size (.cells #[.int .i64 yp, .int .i64 yq] 37)
                                            have R18 := Lib.hid (R16.out.below hb18)
                                            have V18 := Lib.hid (V16.out.below hb18)
                                            have M18 := Lib.hid (M16.out.below hb18 M16.out.lt)
                                            have T18 := Lib.hid (T16.out.below hb18 T16.out.lt)
                                            have A18 := Lib.hid (A16.out.below hb18 A16.out.lt)
                                            have N18 := Lib.hid (Bo.new w17 #[.int .i64 yp, .int .i64 yq] 37)
                                            clear hb17 hb18)
                    clear R16 V16 M16 T16 A16 HGq
                    generalize hg17 : w17.heap.size = GN at *
                    generalize w17.alloc (.cells #[.int .i64 yp, .int .i64 yq] 37) = W18 at *
                    clear hg17
                    obtain ⟨c1', c2', c3'⟩ := HAv.out _ V18.out
                    have v0 := N18.out.cell 0
                    have v1 := N18.out.cell 1
                    simp only [List.getElem?_toArray, List.getElem?_cons_zero, List.getElem?_cons_succ] at v0 v1
                    go_quiet (fail)
                    clear v0 v1 c1' c2' c3'
                    generalize hWq : W18.drewN nq = W19 at *
                    have hbq : Below W18.heap.size W18 W19 := by rw [← hWq]; exact drewN_below _ _ _
                    clear hWq
                    have R19 := Lib.hid (R18.out.below hbq)
                    have V19 := Lib.hid (V18.out.below hbq)
                    have M19 := Lib.hid (M18.out.below hbq M18.out.lt)
                    have T19 := Lib.hid (T18.out.below hbq T18.out.lt)
                    have A19 := Lib.hid (A18.out.below hbq A18.out.lt)
                    have v0 := (N18.out.below hbq N18.out.lt).cell 0
                    have v1 := (N18.out.below hbq N18.out.lt).cell 1
                    simp only [List.getElem?_toArray, List.getElem?_cons_zero, List.getElem?_cons_succ] at v0 v1
                    have x0 := M19.out.cell 0
                    have x1 := M19.out.cell 1
                    have x2 := M19.out.cell 2
                    have x3 := M19.out.cell 3
                    have x4 := M19.out.cell 4
                    have x5 := M19.out.cell 5
                    have x6 := M19.out.cell 6
                    have x7 := M19.out.cell 7
                    have x8 := M19.out.cell 8
                    have x9 := M19.out.cell 9
                    have x10 := M19.out.cell 10
                    have x11 := M19.out.cell 11
                    have x12 := M19.out.cell 12
                    simp only [List.getElem?_toArray, List.getElem?_cons_zero, List.getElem?_cons_succ] at x0 x1 x2 x3 x4 x5 x6 x7 x8 x9 x10 x11 x12
                    have a0 := A19.out.cell 0
                    have a1 := A19.out.cell 1
                    have a2 := A19.out.cell 2
                    have a3 := A19.out.cell 3
                    have a4 := A19.out.cell 4
                    have a5 := A19.out.cell 5
                    have a6 := A19.out.cell 6
                    have a7 := A19.out.cell 7
                    have a8 := A19.out.cell 8
                    have a9 := A19.out.cell 9
                    have a10 := A19.out.cell 10
                    have a11 := A19.out.cell 11
                    have a12 := A19.out.cell 12
                    simp only [List.getElem?_toArray, List.getElem?_cons_zero, List.getElem?_cons_succ] at a0 a1 a2 a3 a4 a5 a6 a7 a8 a9 a10 a11 a12
                    go_wp2
                    go_roundw
                    case rel => exact ⟨q + 1, by omega, by go_num, V19.out, R19.out, M19.out, T19.out, A19.out⟩
                    case measure => simp [intOf]; omega
                · have hcs : ((xa = ya ∧ xb = yb ∧ xc = yc ∧ xd = yd)) ∨ (¬ (ya = xa ∧ yb = xb ∧ yc = xc ∧ yd = xd) ∧ is = true ∧ ae = 0 ∧ kind = 10) := by
                    by_cases hyx : ya = xa ∧ yb = xb ∧ yc = xc ∧ yd = xd
                    · exact .inl ⟨hyx.1.symm, hyx.2.1.symm, hyx.2.2.1.symm, hyx.2.2.2.symm⟩
                    · refine .inr ⟨hyx, ?_⟩
                      cases nw with
                      | false => exact absurd (FO.out rfl).2 hyx
                      | true =>
                        obtain ⟨n1, n2, n3, _⟩ := FN.out rfl
                        exact ⟨n1, n2, n3⟩
                  have HK : Hid (∀ w' : World, Below wr.heap.size wr w' → w'.cell? ⟨GT, 0, none⟩ = some (.int .i64 xa) ∧ w'.cell? ⟨GT, 1, none⟩ = some (.int .i64 xb) ∧ w'.cell? ⟨GT, 2, none⟩ = some (.int .i64 xc) ∧ w'.cell? ⟨GT, 3, none⟩ = some (.int .i64 xd) ∧ w'.cell? ⟨GA, 6, none⟩ = some (.int .i64 ae) ∧ w'.cell? ⟨G6, 0, none⟩ = some (.int .i64 kind)) := Lib.hid fun w' hb => by
                    have t' := T16.out.below hb T16.out.lt
                    have a' := A16.out.below hb A16.out.lt
                    have m' := M16.out.below hb M16.out.lt
                    exact ⟨t'.cell 0, t'.cell 1, t'.cell 2, t'.cell 3, a'.cell 6, m'.cell 0⟩
                  have HM : Hid (∀ w' : World, Below wr.heap.size wr w' → Bo w' G6 #[.int .i64 kind, .int .i64 epoch, .int .i64 seq, .int .i64 nn, .int .i64 block, .int .i64 client, .int .i64 e, .int .i64 t0, .int .i64 t1, .int .i64 t2, .int .i64 t3, .string data, .string row] 31 ∧ Bo w' GA #[.int .i64 ak, .int .i64 aep, .int .i64 asq, .int .i64 an, .int .i64 ab, .int .i64 acl, .int .i64 ae, .int .i64 at0, .int .i64 at1, .int .i64 at2, .int .i64 at3, .string adt, .string arw] 31 ∧ RS w w' dB sB mB (2 + 2 * j) j d2 tB K C2 (2 * k + 2)) := Lib.hid fun w' hb => ⟨M16.out.below hb M16.out.lt, A16.out.below hb A16.out.lt, R16.out.below hb⟩
                  obtain ⟨s0, s1, s2, s3, s4, s5⟩ := HK.out wr (Below.refl _ _)
                  rcases hcs with ⟨rfl, rfl, rfl, rfl⟩ | ⟨hne, rfl, rfl, rfl⟩
                  case' inl =>
                    have an := arr4_neq xa xb xc xd xa xb xc xd
                    simp only [and_self, decide_true, Bool.not_true] at an
                    go_upto_region 29 with fail
                    have hb0 := (Below.refl wr.heap.size wr).drew
                    refine wp_region_noPanic ?_
                    refine wp_region_held_drew (S := fun w' => w'.cell? ⟨GT, 0, none⟩ = some (.int .i64 xa) ∧ w'.cell? ⟨GT, 1, none⟩ = some (.int .i64 xb) ∧ w'.cell? ⟨GT, 2, none⟩ = some (.int .i64 xc) ∧ w'.cell? ⟨GT, 3, none⟩ = some (.int .i64 xd) ∧ w'.cell? ⟨GA, 6, none⟩ = some (.int .i64 ae) ∧ w'.cell? ⟨G6, 0, none⟩ = some (.int .i64 kind)) (by kernel_rfl) (HK.out _ hb0) (fun hHeld => ?_)
                    refine wpAnyH_take (i := 0) (v := ?_) rfl (by kernel_rfl) (by kernel_rfl) (by kernel_rfl) (fun _ _ _ h => h) (Or.inl ⟨by rfl, ?_⟩) hHeld ?_
                    rotate_left 1
                    · (intro w hSw; (try dsimp only at hSw); go_simp; try with_reducible rfl)
                    change wpAnyH _ _ _ _ _ _ _ (Act.put _ (some 146) _) _
                    try simp only [Act.put, List.setIfInBounds_toArray, List.set_cons_zero, List.set_cons_succ]
                    refine wpAnyH_take (i := 2) (v := ?_) rfl (by kernel_rfl) (by kernel_rfl) (by kernel_rfl) (fun _ _ _ h => h) (Or.inl ⟨by rfl, ?_⟩) hHeld ?_
                    rotate_left 1
                    · (intro w hSw; (try dsimp only at hSw); go_simp; try with_reducible rfl)
                    change wpAnyH _ _ _ _ _ _ _ (Act.put _ (some 148) _) _
                    try simp only [Act.put, List.setIfInBounds_toArray, List.set_cons_zero, List.set_cons_succ]
                    refine wpAnyH_ready (rs := [1]) (by kernel_rfl) (by simp) ?_
                    refine AllReadyH.cons rfl (fun K hK => ?_) AllReadyH.nil
                    go_simp
                    refine (HB2.out wr.drew (R16.out.st.below hb0)).mono ?_
                    rintro e20 w20 ⟨rfl, hb20⟩
                    have B20 : Hid (Below wr.heap.size wr w20) := Lib.hid (hb0.trans hb20)
                    refine hK.out _ _ (HK.out _ B20.out) (fun hHeld => ?_)
                    clear hK K hb0 hb20
                    try simp only [Act.put, List.setIfInBounds_toArray, List.set_cons_zero, List.set_cons_succ]
                    refine wpAnyH_take (i := 3) (v := ?_) rfl (by kernel_rfl) (by kernel_rfl) (by kernel_rfl) (fun _ _ _ h => h) (Or.inl ⟨by rfl, ?_⟩) hHeld ?_
                    rotate_left 1
                    · (intro w hSw; (try dsimp only at hSw); go_simp; try with_reducible rfl)
                    change wpAnyH _ _ _ _ _ _ _ (Act.put _ (some 149) _) _
                    try simp only [Act.put, List.setIfInBounds_toArray, List.set_cons_zero, List.set_cons_succ]
                    refine wpAnyH_take (i := 4) (v := ?_) rfl (by kernel_rfl) (by kernel_rfl) (by kernel_rfl) (fun _ _ _ h => h) (Or.inl ⟨by rfl, ?_⟩) hHeld ?_
                    rotate_left 1
                    · (intro w hSw; (try dsimp only at hSw); go_simp; try with_reducible rfl)
                    change wpAnyH _ _ _ _ _ _ _ (Act.put _ (some 150) _) _
                    try simp only [Act.put, List.setIfInBounds_toArray, List.set_cons_zero, List.set_cons_succ]
                    refine wpAnyH_take (i := 5) (v := undef) rfl (by kernel_rfl) (by kernel_rfl) (by kernel_rfl) (fun _ _ _ h => h) (Or.inr ⟨by rfl, rfl⟩) hHeld ?_
                    change wpAnyH _ _ _ _ _ _ _ (Act.put _ (some 151) _) _
                    try simp only [Act.put, List.setIfInBounds_toArray, List.set_cons_zero, List.set_cons_succ]
                    refine wpAnyH_take (i := 6) (v := undef) rfl (by kernel_rfl) (by kernel_rfl) (by kernel_rfl) (fun _ _ _ h => h) (Or.inr ⟨by rfl, rfl⟩) hHeld ?_
                    change wpAnyH _ _ _ _ _ _ _ (Act.put _ (some 152) _) _
                    try simp only [Act.put, List.setIfInBounds_toArray, List.set_cons_zero, List.set_cons_succ]
                    refine wpAnyH_take (i := 7) (v := undef) rfl (by kernel_rfl) (by kernel_rfl) (by kernel_rfl) (fun _ _ _ h => h) (Or.inr ⟨by rfl, rfl⟩) hHeld ?_
                    change wpAnyH _ _ _ _ _ _ _ (Act.put _ (some 153) _) _
                    try simp only [Act.put, List.setIfInBounds_toArray, List.set_cons_zero, List.set_cons_succ]
                    refine wpAnyH_take (i := 8) (v := undef) rfl (by kernel_rfl) (by kernel_rfl) (by kernel_rfl) (fun _ _ _ h => h) (Or.inr ⟨by rfl, rfl⟩) hHeld ?_
                    change wpAnyH _ _ _ _ _ _ _ (Act.put _ (some 154) _) _
                    try simp only [Act.put, List.setIfInBounds_toArray, List.set_cons_zero, List.set_cons_succ]
                    refine wpAnyH_take (i := 9) (v := undef) rfl (by kernel_rfl) (by kernel_rfl) (by kernel_rfl) (fun _ _ _ h => h) (Or.inr ⟨by rfl, rfl⟩) hHeld ?_
                    change wpAnyH _ _ _ _ _ _ _ (Act.put _ (some 155) _) _
                    try simp only [Act.put, List.setIfInBounds_toArray, List.set_cons_zero, List.set_cons_succ]
                    refine wpAnyH_take (i := 10) (v := undef) rfl (by kernel_rfl) (by kernel_rfl) (by kernel_rfl) (fun _ _ _ h => h) (Or.inr ⟨by rfl, rfl⟩) hHeld ?_
                    change wpAnyH _ _ _ _ _ _ _ (Act.put _ (some 156) _) _
                    try simp only [Act.put, List.setIfInBounds_toArray, List.set_cons_zero, List.set_cons_succ]
                    refine wpAnyH_take (i := 11) (v := undef) rfl (by kernel_rfl) (by kernel_rfl) (by kernel_rfl) (fun _ _ _ h => h) (Or.inr ⟨by rfl, rfl⟩) hHeld ?_
                    change wpAnyH _ _ _ _ _ _ _ (Act.put _ (some 157) _) _
                    try simp only [Act.put, List.setIfInBounds_toArray, List.set_cons_zero, List.set_cons_succ]
                    refine wpAnyH_take (i := 12) (v := undef) rfl (by kernel_rfl) (by kernel_rfl) (by kernel_rfl) (fun _ _ _ h => h) (Or.inr ⟨by rfl, rfl⟩) hHeld ?_
                    change wpAnyH _ _ _ _ _ _ _ (Act.put _ (some 158) _) _
                    try simp only [Act.put, List.setIfInBounds_toArray, List.set_cons_zero, List.set_cons_succ]
                    refine wpAnyH_take (i := 13) (v := undef) rfl (by kernel_rfl) (by kernel_rfl) (by kernel_rfl) (fun _ _ _ h => h) (Or.inr ⟨by rfl, rfl⟩) hHeld ?_
                    change wpAnyH _ _ _ _ _ _ _ (Act.put _ (some 159) _) _
                    try simp only [Act.put, List.setIfInBounds_toArray, List.set_cons_zero, List.set_cons_succ]
                    refine wpAnyH_take (i := 14) (v := undef) rfl (by kernel_rfl) (by kernel_rfl) (by kernel_rfl) (fun _ _ _ h => h) (Or.inr ⟨by rfl, rfl⟩) hHeld ?_
                    change wpAnyH _ _ _ _ _ _ _ (Act.put _ (some 160) _) _
                    try simp only [Act.put, List.setIfInBounds_toArray, List.set_cons_zero, List.set_cons_succ]
                    refine wpAnyH_take (i := 15) (v := undef) rfl (by kernel_rfl) (by kernel_rfl) (by kernel_rfl) (fun _ _ _ h => h) (Or.inr ⟨by rfl, rfl⟩) hHeld ?_
                    change wpAnyH _ _ _ _ _ _ _ (Act.put _ (some 161) _) _
                    try simp only [Act.put, List.setIfInBounds_toArray, List.set_cons_zero, List.set_cons_succ]
                    refine wpAnyH_take (i := 16) (v := undef) rfl (by kernel_rfl) (by kernel_rfl) (by kernel_rfl) (fun _ _ _ h => h) (Or.inr ⟨by rfl, rfl⟩) hHeld ?_
                    change wpAnyH _ _ _ _ _ _ _ (Act.put _ (some 162) _) _
                    try simp only [Act.put, List.setIfInBounds_toArray, List.set_cons_zero, List.set_cons_succ]
                    refine wpAnyH_take (i := 17) (v := ?_) rfl (by kernel_rfl) (by kernel_rfl) (by kernel_rfl) (fun _ _ _ h => h) (Or.inl ⟨by rfl, ?_⟩) hHeld ?_
                    rotate_left 1
                    · (intro w hSw; (try dsimp only at hSw); go_simp; try with_reducible rfl)
                    change wpAnyH _ _ _ _ _ _ _ (Act.put _ (some 163) _) _
                    try simp only [Act.put, List.setIfInBounds_toArray, List.set_cons_zero, List.set_cons_succ]
                    refine wpAnyH_done (by kernel_rfl) ?_ _
                    refine NoPanic.normal ?_
                  case' inr =>
                    have an := arr4_neq ya yb yc yd xa xb xc xd
                    rw [decide_eq_false hne] at an
                    simp only [Bool.not_false] at an
                    go_upto_region 29 with fail
                    go_region_held3 (fun w' => w'.cell? ⟨GT, 0, none⟩ = some (.int .i64 xa) ∧ w'.cell? ⟨GT, 1, none⟩ = some (.int .i64 xb) ∧ w'.cell? ⟨GT, 2, none⟩ = some (.int .i64 xc) ∧ w'.cell? ⟨GT, 3, none⟩ = some (.int .i64 xd) ∧ w'.cell? ⟨GA, 6, none⟩ = some (.int .i64 0) ∧ w'.cell? ⟨G6, 0, none⟩ = some (.int .i64 10))
                      (first
                        | exact HK.out wr (Below.refl _ _)
                        | exact HK.out _ (Below.refl wr.heap.size wr).drew
                        | exact HK.out _ B20.out)
                      (first
                        | (go_at_call 17; refine (HB2.out wr.drew (R16.out.st.below (Below.refl wr.heap.size wr).drew)).mono ?_; rintro e20 w20 ⟨rfl, hb20⟩
                           have B20 : Hid (Below wr.heap.size wr w20) := Lib.hid ((Below.refl wr.heap.size wr).drew.trans hb20)
                           clear hb20))
                  all_goals
                    clear s0 s1 s2 s3 s4 s5 HK
                    obtain ⟨M20, A20, R20⟩ := HM.out _ B20.out
                    have HR20 := Lib.hid R20
                    have HFX := Lib.hid FX.out
                    have x0 := M20.cell 0
                    have x1 := M20.cell 1
                    have x2 := M20.cell 2
                    have x3 := M20.cell 3
                    have x4 := M20.cell 4
                    have x5 := M20.cell 5
                    have x6 := M20.cell 6
                    have x7 := M20.cell 7
                    have x8 := M20.cell 8
                    have x9 := M20.cell 9
                    have x10 := M20.cell 10
                    have x11 := M20.cell 11
                    have x12 := M20.cell 12
                    simp only [List.getElem?_toArray, List.getElem?_cons_zero, List.getElem?_cons_succ] at x0 x1 x2 x3 x4 x5 x6 x7 x8 x9 x10 x11 x12
                    have a0 := A20.cell 0
                    have a1 := A20.cell 1
                    have a2 := A20.cell 2
                    have a3 := A20.cell 3
                    have a4 := A20.cell 4
                    have a5 := A20.cell 5
                    have a6 := A20.cell 6
                    have a7 := A20.cell 7
                    have a8 := A20.cell 8
                    have a9 := A20.cell 9
                    have a10 := A20.cell 10
                    have a11 := A20.cell 11
                    have a12 := A20.cell 12
                    simp only [List.getElem?_toArray, List.getElem?_cons_zero, List.getElem?_cons_succ] at a0 a1 a2 a3 a4 a5 a6 a7 a8 a9 a10 a11 a12
                    clear M20 A20 R20
                    first
                      | (cases is with
                         | false =>
                           go_wp2
                           go_roundw
                           case rel => exact ⟨k + 1, _, _, by omega, by omega, by go_num, by have := HR20.out; rwa [show (2 * (k : Int) + 2) = 2 * ((k + 1 : Nat) : Int) by omega] at this⟩
                           case measure => simp [intOf]; omega
                         | true =>
                           obtain ⟨rfl, rfl, rfl, rfl, rfl, rfl, f1, f2⟩ := HFX.out (by first | rfl | trivial)
                           go_wp2
                           go_roundw
                           case rel => exact ⟨k + 1, _, _, by omega, by omega, by go_num, by have := HR20.out; rwa [show (2 * (k : Int) + 2) = 2 * ((k + 1 : Nat) : Int) by omega] at this⟩
                           case measure => simp [intOf]; omega)
                      | (obtain ⟨rfl, rfl, rfl, rfl, rfl, rfl, f1, f2⟩ := HFX.out (by first | rfl | trivial)
                         go_wp2
                         go_roundw
                         case rel => exact ⟨k + 1, _, _, by omega, by omega, by go_num, by have := HR20.out; rwa [show (2 * (k : Int) + 2) = 2 * ((k + 1 : Nat) : Int) by omega] at this⟩
                         case measure => simp [intOf]; omega)
    · have hnot : (¬ k < n1) ∨ (k < n1 ∧ ¬ k < 60) := by omega
      rcases hnot with h9 | ⟨h8, h9⟩
      · have g1 : decide ((k : Int) < (n1 : Int)) = false := by simpa using h9
        go_wp2
        go_ret
        exact ⟨rfl, HR.out.be⟩
      · have g1 : (k : Int) < (n1 : Int) := by omega
        have g2 : decide ((k : Int) < 60) = false := by simp; omega
        go_wp2
        go_ret
        exact ⟨rfl, HR.out.be⟩

set_option maxRecDepth 100000 in
theorem lifted (os : Os) (started : os.Started) (H : Type) (enc : TypeId × Value → H) :
    ReturnsInHanded {} Try.checked os 5 .any (Rows.backingApartSpec.pre6 enc Try.prog Try.f5 Rows.backingApartRow.domain false) (Rows.backingApartSpec.post enc Try.prog Try.f5 false true false false) := by
  refine returnsInHanded_of_change (C := Try.checked) own started (by kernel_rfl) Try.func5
    (ChangeSpec.witness6 (enc := enc) (C := Try.checked) false ⟨#[], #[.int .u8 0, .slice none 0 0], []⟩ 8 (by kernel_rfl) (by kernel_rfl) (by kernel_rfl) (by kernel_rfl)) ?_
  intro W base args ds gs before hval0 hW hcnd _
  have hval : ∀ (j : Nat) t v, Try.f5.params[j]? = some t → args[j]? = some v → Value.okWide Try.prog W .any base t v := hval0
  have hW' := hW
  obtain ⟨p, q, hA0, hV, rfl, hfz, hnd⟩ := hW
  have hA : DataW.TrodAll enc Try.prog W 0 (fun _ => true) true Try.f5.params.toList args.toList ds p := hA0
  rw [Try.params5] at hA hval
  obtain ⟨v0, vs0, d0, ds0, p0, q0, hargs, rfl, rfl, h0, r0'⟩ := trodAll_cons hA
  obtain ⟨v1, vs1, d1, ds1, p1, q1, rfl, rfl, rfl, h1, r1'⟩ := trodAll_cons r0'
  obtain ⟨rfl, rfl, rfl⟩ := trodAll_nil r1'
  obtain rfl : args = #[v0, v1] := by cases args; simp_all
  obtain ⟨rfl, rfl⟩ := trodVars_none hV
  obtain ⟨x0, rfl, rfl, rfl, w0⟩ := open_int Try.underlying5 (hval 0 5 v0 rfl rfl) h0
  have k1 := h1
  have lt1 : ∀ x ∈ p1, x.block < W.heap.size := by obtain ⟨m, hm⟩ := k1; exact DataW.trod_lt m _ _ _ hm
  obtain ⟨a1, n1, c1, l1, rfl, w1⟩ := Bk.open_msgs h1 (okWide_slice Try.underlying50 (hval 1 50 v1 rfl rfl))
  clear hA0 hval0
  refine (walk x0 a1 n1 c1 l1 W w0 w1).mono fun e W' ⟨he, bel⟩ => ?_
  subst he
  exact ⟨_, rfl, _, _, _, [], _, [], hW', trodAll_mk1 (shut_bool Try.underlying4 _), (trodAll_cons_mk (shut_int Try.underlying5 w0) (trodAll_cons_mk (Below.trod laidOut (by kernel_rfl) (of_decide_eq_true (by kernel_rfl)) k1 bel lt1) trodAll_mk0)), rfl, bel.frame _, fun h => by cases h⟩

theorem over : Rows.backingApartRow.holds Try.pinned (OpenSpec.ofChange Rows.backingApartSpec) :=
  OpenClaim.holds_of_wide 5 Try.f5 rfl rfl rfl rfl rfl rfl rfl ⟨rfl, rfl, rfl, rfl, rfl⟩ rfl rfl rfl rfl rfl (by kernel_rfl) Try.func5 (by kernel_rfl)
    (of_decide_eq_true (by kernel_rfl)) (by unfold Func.isWrapper; first | (rw [if_pos (by decide +kernel)]; kernel_rfl) | (rw [if_neg (by decide +kernel)]; exact ⟨rfl, rfl⟩))
    (fun os started H enc _ => lifted os started H enc)

/-- the statement -/
theorem proved : Rows.BackingApartSaid := over
#print axioms proved
end Go.Proofs.Ytofhijnfbilieaa.backingApart
