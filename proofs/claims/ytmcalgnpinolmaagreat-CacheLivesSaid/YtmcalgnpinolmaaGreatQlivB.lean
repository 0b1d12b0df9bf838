/-
  CacheLives: the walk.
-/
import Derived.Test.YtmcalgnpinolmaaGreatQL
import Derived.Deep.DeepCutAuto
import Derived.BigRegion
namespace Go.Proofs.YtmcalgnpinolmaaGreat
open Go.RowKit Go.Maps
set_option linter.unusedVariables false
set_option linter.unusedSimpArgs false
set_option maxRecDepth 20000
namespace Q
variable {w0 : World} {B : Bk} {G : Gm} {V V' : Vi} {K K' : Int}

/-- a cache of the call's own, and the map beside it -/
theorem drew_heap2 (w : World) (o1 o2 : Obj) : ((w.alloc o1).alloc o2).drew.heap[w.heap.size + 1]? = some o2 ∧ ((w.alloc o1).alloc o2).drew.heap[w.heap.size]? = some o1 := by
  have h := heap_alloc_new (w.alloc o1) o2
  have h2 := heap_alloc_new w o1
  rw [show (w.alloc o1).heap.size = w.heap.size + 1 by simp] at h
  exact ⟨h, (Below.heap_alloc (w.alloc o1) o2 _ (by simp)).trans h2⟩
theorem Rq.put {w : World} (h : Rq w0 w B G V K) {q : Nat} (hq : B.qB = q) (hK : K ≤ 600000000) (x : En) (hx0 : -9223372036854775808 ≤ x.b) (hx1 : x.b ≤ 9223372036854775807) {pe : Int} {V' : Vi} (he : putE G.nb G.N V x = pe ∧ putVi G.nb G.N V x = V') :
    Calls Tryz.prog 23 #[.pointer (some ⟨q, 0, none⟩), .agg #[.int .i64 x.b, .int .i64 x.ep, .int .i64 x.sq, .string x.data, .bool x.dirty, .int .i64 x.cl, .int .i64 x.n]] w fun e w' => e = .returned (.int .i64 pe) ∧ ∃ r, Rq w0 w' (B.row r) G V' (K + 2002) ∧ But B.l w w' ∧ (r = B.rb ∨ w.heap.size ≤ r) := by
  subst hq
  obtain ⟨rfl, rfl⟩ := he
  refine (put_cs w h.cs hK x hx0 hx1).mono ?_
  rintro e w' ⟨rfl, ha⟩
  obtain ⟨r, h1, h2, h3⟩ := h.after ha
  exact ⟨rfl, r, h1, h3, h2⟩
theorem Rq.cleans {w : World} (h : Rq w0 w B G V K) {q : Nat} (hq : B.qB = q) (hK : K ≤ 600000000) (b ep sq : Int) (hb0 : -9223372036854775808 ≤ b) (hb1 : b ≤ 9223372036854775807) {pe : Int} {V' : Vi} (he : cleanE V b ep sq = pe ∧ cleanVi V b ep sq = V') :
    Calls Tryz.prog 26 #[.pointer (some ⟨q, 0, none⟩), .int .i64 b, .agg #[.int .i64 ep, .int .i64 sq]] w fun e w' => e = .returned (.int .i64 pe) ∧ ∃ r, Rq w0 w' (B.row r) G V' (K + 2002) ∧ But B.l w w' ∧ (r = B.rb ∨ w.heap.size ≤ r) := by
  subst hq
  obtain ⟨rfl, rfl⟩ := he
  refine (clean_cs w h.cs hK b ep sq hb0 hb1).mono ?_
  rintro e w' ⟨rfl, ha⟩
  obtain ⟨r, h1, h2, h3⟩ := h.after ha
  exact ⟨rfl, r, h1, h3, h2⟩
theorem gets2 {w : World} (h : Rq w0 w B G V K) {q : Nat} (hq : B.qB = q) (b : Int) (hb0 : -9223372036854775808 ≤ b) (hb1 : b ≤ 9223372036854775807) {z : En} {hd : Bool} (hz : (V.e b).getD zeroE = z) (hh : (V.e b).isSome = hd) : Calls Tryz.prog 25 #[.pointer (some ⟨q, 0, none⟩), .int .i64 b] w fun e w' => e = .returned (.tuple #[.agg #[.int .i64 z.b, .int .i64 z.ep, .int .i64 z.sq, .string z.data, .bool z.dirty, .int .i64 z.cl, .int .i64 z.n], .bool hd]) ∧ Below w.heap.size w w' := by
  have := h.get hq b hb0 hb1
  unfold entV at this
  rw [hz, hh] at this
  exact this
theorem Rq.num {w : World} (h : Rq w0 w B G V K) {q : Nat} (hq : B.qB = q) (i : Int) : Calls Tryz.prog 27 #[.pointer (some ⟨q, 0, none⟩), .int .i64 i] w fun e w' => e = .returned (.int .i64 (V.k.get i)) ∧ w = w' := by
  subst hq; exact number_cs w h.cs i
theorem Rq.last {w : World} (h : Rq w0 w B G V K) {q : Nat} (hq : B.qB = q) : Calls Tryz.prog 28 #[.pointer (some ⟨q, 0, none⟩)] w fun e w' => e = .returned (.agg #[.int .i64 V.k.ep, .int .i64 V.k.sq]) ∧ Below w.heap.size w w' := by
  subst hq; exact last_cs w h.cs
theorem bool_at {w w' : World} {a : Option Addr} {n cap : Nat} {t : List Bool} (h : Row w a n cap (t.map Value.bool)) (hb : Below w.heap.size w w') {i : Nat} (hi : i < n) :
    ∃ b off y, a = some ⟨b, off, none⟩ ∧ w'.cell? ⟨b, off + i, none⟩ = some (.bool y) := by
  obtain ⟨h1, h2, h3, h4⟩ := h
  rw [List.length_map] at h1
  rcases h4 with h4 | ⟨b, off, ha, hlt, hc⟩
  · have : t = [] := by simpa using h4
    subst this; simp at h1; omega
  · refine ⟨b, off, t[i]'(by omega), ha, ?_⟩
    rw [(But.of_below hb).cell hlt (by simp), hc i hi, List.getElem?_map, List.getElem?_eq_getElem (by omega)]
    rfl
theorem EAt.mk7 (w : World) (y : En) : EAt (w.alloc (.cells #[.int .i64 y.b, .int .i64 y.ep, .int .i64 y.sq, .string y.data, .bool y.dirty, .int .i64 y.cl, .int .i64 y.n] 37)) w.heap.size 0 y := by
  refine ⟨?_, ?_, ?_, ?_, ?_, ?_, ?_⟩ <;> (rw [World.cell?_alloc_mark]; rfl)
theorem set4 {w : World} {P : Nat} {T : TypeId} {mk : Nat × Nat} {a0 a1 a2 a3 a4 a5 a6 : Value} (h : w.heap[P]? = some (.cells #[a0, a1, a2, a3, a4, a5, a6] T mk)) (v : Value) : (w.setCell ⟨P, 4, none⟩ v).heap[P]? = some (.cells #[a0, a1, a2, a3, v, a5, a6] T mk) := by
  simp [World.setCell, Array.getElem?_modify, h, Array.setIfInBounds]
theorem key32 {nb N : Nat} (h : VOk nb N V) (hn : nb = 32) : ∀ b y, V.e b = some y → 0 ≤ b ∧ b < (nb : Int) := fun b y hy => h.range hy
theorem conv8 (wx : World) (g : Nat) (zs : List UInt8) (hz : zs.length = 8) (h : ∀ j, j < 8 → wx.cell? ⟨g, j, none⟩ = (u8s zs)[j]?) (hg : g < wx.heap.size) : (convert 56 9 (.slice (some ⟨g, 0, none⟩) 8 8)).run Tryz.prog wx = .ok (.string (str zs)) wx :=
  conv_row ⟨by rw [u8s_length]; exact hz, by omega, by simp [maxLen], .inr ⟨g, 0, rfl, hg, fun i hi => by rw [Nat.zero_add]; exact h i hi⟩⟩
theorem eight (i : Nat) (hi : i < 300) (y : UInt8) : (#[.int .u8 100, .int .u8 97, .int .u8 116, .int .u8 97, .int .u8 ((i : Int) % 256), .int .u8 ((i : Int) / 256), .int .u8 (y.toNat : Int), .int .u8 0] : Array Value) = (u8s [100, 97, 116, 97, UInt8.ofNat (i % 256), UInt8.ofNat (i / 256), y, 0]).toArray := by
  have e1 : (i : Int) % 256 = ((UInt8.ofNat (i % 256)).toNat : Int) := by rw [UInt8.toNat_ofNat']; omega
  have e2 : (i : Int) / 256 = ((UInt8.ofNat (i / 256)).toNat : Int) := by rw [UInt8.toNat_ofNat']; omega
  rw [e1, e2]
  rfl
/-- the bytes, as they are laid, and what becomes of them -/
theorem eight_ways (wr : World) (i : Nat) (hi : i < 300) (y : UInt8) (D : ByteArray) (hD : D = str [100, 97, 116, 97, UInt8.ofNat (i % 256), UInt8.ofNat (i / 256), y, 0]) :
    ((convert 56 9 (.slice (some ⟨wr.heap.size, 0, none⟩) 8 8)).run Tryz.prog (wr.alloc (.cells #[.int .u8 100, .int .u8 97, .int .u8 116, .int .u8 97, .int .u8 ((i : Int) % 256), .int .u8 ((i : Int) / 256), .int .u8 (y.toNat : Int), .int .u8 0] 5)).drew = .ok (.string D) (wr.alloc (.cells #[.int .u8 100, .int .u8 97, .int .u8 116, .int .u8 97, .int .u8 ((i : Int) % 256), .int .u8 ((i : Int) / 256), .int .u8 (y.toNat : Int), .int .u8 0] 5)).drew) ∧
    ((convert 56 9 (.slice (some ⟨wr.heap.size, 0, none⟩) 8 8)).run Tryz.prog ((wr.alloc (.cells #[.int .u8 100, .int .u8 97, .int .u8 116, .int .u8 97, .int .u8 ((i : Int) % 256), .int .u8 ((i : Int) / 256), .int .u8 (y.toNat : Int), .int .u8 0] 5)).alloc (.cells #[.int .i64 0, .int .i64 0, .int .i64 0, .string ⟨#[]⟩, .bool false, .int .i64 0, .int .i64 0] 37)).drew = .ok (.string D) ((wr.alloc (.cells #[.int .u8 100, .int .u8 97, .int .u8 116, .int .u8 97, .int .u8 ((i : Int) % 256), .int .u8 ((i : Int) / 256), .int .u8 (y.toNat : Int), .int .u8 0] 5)).alloc (.cells #[.int .i64 0, .int .i64 0, .int .i64 0, .string ⟨#[]⟩, .bool false, .int .i64 0, .int .i64 0] 37)).drew) ∧
    ((convert 56 9 (.slice (some ⟨wr.heap.size + 1, 0, none⟩) 8 8)).run Tryz.prog ((wr.alloc (.cells #[.int .i64 0, .int .i64 0, .int .i64 0, .string ⟨#[]⟩, .bool false, .int .i64 0, .int .i64 0] 37)).alloc (.cells #[.int .u8 100, .int .u8 97, .int .u8 116, .int .u8 97, .int .u8 ((i : Int) % 256), .int .u8 ((i : Int) / 256), .int .u8 (y.toNat : Int), .int .u8 0] 5)).drew = .ok (.string D) ((wr.alloc (.cells #[.int .i64 0, .int .i64 0, .int .i64 0, .string ⟨#[]⟩, .bool false, .int .i64 0, .int .i64 0] 37)).alloc (.cells #[.int .u8 100, .int .u8 97, .int .u8 116, .int .u8 97, .int .u8 ((i : Int) % 256), .int .u8 ((i : Int) / 256), .int .u8 (y.toNat : Int), .int .u8 0] 5)).drew) := by
  subst hD
  rw [eight i hi y]
  refine ⟨?_, ?_, ?_⟩
  · refine conv8 _ _ _ rfl (fun j hj => ?_) (by simp)
    rw [((Below.refl (wr.alloc (.cells (u8s [100, 97, 116, 97, UInt8.ofNat (i % 256), UInt8.ofNat (i / 256), y, 0]).toArray 5)).heap.size (wr.alloc (.cells (u8s [100, 97, 116, 97, UInt8.ofNat (i % 256), UInt8.ofNat (i / 256), y, 0]).toArray 5))).drew).cell (by simp), World.cell?_alloc_mark]; simp
  · refine conv8 _ _ _ rfl (fun j hj => ?_) (by simp; omega)
    rw [(((Below.refl (wr.alloc (.cells (u8s [100, 97, 116, 97, UInt8.ofNat (i % 256), UInt8.ofNat (i / 256), y, 0]).toArray 5)).heap.size (wr.alloc (.cells (u8s [100, 97, 116, 97, UInt8.ofNat (i % 256), UInt8.ofNat (i / 256), y, 0]).toArray 5))).alloc (Nat.le_refl _) _).drew).cell (by simp), World.cell?_alloc_mark]; simp
  · refine conv8 _ _ _ rfl (fun j hj => ?_) (by simp)
    rw [((Below.refl ((wr.alloc (.cells #[.int .i64 0, .int .i64 0, .int .i64 0, .string ⟨#[]⟩, .bool false, .int .i64 0, .int .i64 0] 37)).alloc (.cells (u8s [100, 97, 116, 97, UInt8.ofNat (i % 256), UInt8.ofNat (i / 256), y, 0]).toArray 5)).heap.size ((wr.alloc (.cells #[.int .i64 0, .int .i64 0, .int .i64 0, .string ⟨#[]⟩, .bool false, .int .i64 0, .int .i64 0] 37)).alloc (.cells (u8s [100, 97, 116, 97, UInt8.ofNat (i % 256), UInt8.ofNat (i / 256), y, 0]).toArray 5))).drew).cell (by simp), show wr.heap.size + 1 = (wr.alloc (.cells #[.int .i64 0, .int .i64 0, .int .i64 0, .string ⟨#[]⟩, .bool false, .int .i64 0, .int .i64 0] 37)).heap.size by simp, World.cell?_alloc_mark]; simp
theorem dn_none (nb : Nat) : dn nb (vis none0) = 0 := by
  unfold dn
  induction nb with
  | zero => rfl
  | succ n ih => show cnt n _ + _ = 0; rw [ih]; rfl
structure Lv (w0 w : World) (B : Bk) (G : Gm) (V : Vi) (K : Int) (mW : Nat) (i : Int) : Prop where
  rq : Rq w0 w B G V K
  mp : MapE w mW V.e
  nm : mW ∉ B.l
  od : w0.heap.size ≤ mW
  kk : KOk V.k i

set_option maxHeartbeats 8000000 in
theorem lives_any (x0 : Int) (a1 : Option Addr) (n1 c1 : Nat) (l1 : List UInt8) (a2 : Option Addr) (n2 c2 : Nat) (l2 : List Bool) (w : World) (f0 : (Lit.int .u8 x0).wf = true) (h1 : Row w a1 n1 c1 (u8s l1)) (h2 : Row w a2 n2 c2 (l2.map Value.bool)) :
    Calls Tryz.prog 4 #[.int .u8 x0, .slice a1 n1 c1, .slice a2 n2 c2] w fun e w' => e = .returned (.bool true) ∧ Below w.heap.size w w' := by
  have HA := Lib.hid (awake_any w)
  have HLO := Lib.hid (fun w1 hb => law_open w w1 hb x0 f0)
  have HW1 := Lib.hid h1
  have HW2 := Lib.hid h2
  have hmm := @run_makeMap Tryz.prog
  have hn1I : (n1 : Int) ≤ 9223372036854775807 := by have := h1.2.1; have := h1.2.2.1; unfold maxLen at this; omega
  have hn2I : (n2 : Int) ≤ 9223372036854775807 := by have := h2.2.1; have := h2.2.2.1; unfold maxLen at this; omega
  clear f0 h1 h2
  go_enter Tryz.func4, Tryz.ntmps4
  go_wp2_with (first
    | (go_at_call 11; with_reducible refine HA.out.mono ?_; rintro e w1 ⟨rfl, hb1⟩; have HLO1 := Lib.hid (HLO.out w1 hb1); clear hb1)
    | (go_at_call 12; with_reducible refine HLO1.out.mono ?_; rintro e w2 ⟨B, N, h8, h37, hx, rfl, hR, _, _⟩
       have hNI : (N : Int) ≤ 37 := by omega
       have hN0 : (0 : Int) ≤ (N : Int) := by omega
       obtain ⟨G, hG⟩ : ∃ G : Gm, G = ⟨N + 2, 2, N, 0, 1, 32⟩ := ⟨_, rfl⟩
       rw [← hG] at hR
       have HGe : Hid ((2 : Int) = (G.first : Int) ∧ (N : Int) = (G.N : Int) ∧ (0 : Int) = (G.a : Int) ∧ (1 : Int) = (G.b : Int) ∧ (32 : Int) = (G.nb : Int) ∧ 1 ≤ G.nb) := Lib.hid (by subst hG; exact ⟨rfl, rfl, rfl, rfl, rfl, by simp⟩)
       have HGn : Hid (G.nb = 32 ∧ G.N ≤ 37) := Lib.hid (by subst hG; exact ⟨rfl, h37⟩)
       have HLv : Hid (Lv w (w2.alloc (.map #[] 0)) B G ⟨vis none0, kp0⟩ 2 w2.heap.size 0) := Lib.hid ⟨hR.below ((Below.refl _ _).alloc (Nat.le_refl _) _), mape_made w2, hR.out (Nat.le_refl _), hR.be.size, KOk.none⟩
       clear h8 h37 hx hR hG))
  clear HLO HLO1 HA hmm
  go_loopw [11, 12] (fun ds is wr => ∃ (i : Nat) (B1 : Bk) (V : Vi), i ≤ n1 ∧ i ≤ 300 ∧ ds = .int .i64 (dn G.nb V.e : Int) ∧ is = .int .i64 i ∧ B1.qB = B.qB ∧ B1.dB = B.dB ∧ Lv w wr B1 G V (2 + 4004 * (i : Int)) w2.heap.size (i : Int)) (fun _ is _ => 300 - (RowKit.intOf is).toNat)
  case atStart => exact ⟨0, B, ⟨vis none0, kp0⟩, by omega, by omega, by rw [dn_none]; rfl, rfl, rfl, rfl, by simpa using HLv.out⟩
  case round =>
    obtain ⟨i, B1, V, hin, hi3, rfl, rfl, hq, hqd, hLv⟩ := hrel
    have HL1 := Lib.hid hLv
    have HQ := Lib.hid hq
    have HQd := Lib.hid hqd
    have hi0 : (0 : Int) ≤ (i : Int) := by omega
    have hways : (¬ (i : Int) < (n1 : Int) ∨ ((i : Int) < (n1 : Int) ∧ ¬ (i : Int) < 300)) ∨ ((i : Int) < (n1 : Int) ∧ (i : Int) < 300) := by omega
    clear hLv hq HLv hqd
    rcases hways with hend | ⟨hlt, hlt3⟩
    · have hdm := HL1.out.rq.cs.dm
      rw [HQd.out] at hdm
      have HDm : Hid (Dm wr B.dB B1.sB B1.mB G V (2 + 4004 * 300)) := Lib.hid (by
        obtain ⟨s, h1, h2, h3, h4, h5, h6, h7, h8, h9⟩ := hdm
        exact ⟨s, h1, h2, h3, h4, h5, h6, h7, by omega, h9⟩)
      have HCt := Lib.hid HL1.out.rq.cs.ct
      have HOd : Hid ((∀ y ∈ [B.dB, B1.sB, B1.mB], w.heap.size ≤ y) ∧ B1.qB ∉ [B.dB, B1.sB, B1.mB] ∧ B1.mE ∉ [B.dB, B1.sB, B1.mB]) := Lib.hid (by
        have h1 := HL1.out.rq.od
        have h2 := HL1.out.rq.cs.sep.q
        have h3 := HL1.out.rq.cs.sep.m
        simp only [Bk.l, List.mem_cons, List.not_mem_nil, or_false, forall_eq_or_imp, forall_eq] at h1
        rw [HQd.out] at h1 h2 h3
        refine ⟨by simp; omega, by simp; omega, by simp; omega⟩)
      have HBe := Lib.hid HL1.out.rq.be
      have HOp := Lib.hid (HDm.out.open (by omega) HGe.out.2.2.2.2.2 HGe.out.1 HGe.out.2.1 HGe.out.2.2.1 HGe.out.2.2.2.1 HGe.out.2.2.2.2.1)
      clear hdm hin hi3
      rcases hend with hend | ⟨hend, hend6⟩
      all_goals
        go_wp2_with (first
          | (go_at_call 17; with_reducible refine HOp.out.mono ?_; rintro e w4 ⟨B2, rfl, h1, h2, h3⟩
             have HT2 := Lib.hid (h1.ct.told (q := B2.qB) rfl)
             have HC4 := Lib.hid (HCt.out.but h3 HOd.out.2.1 HOd.out.2.2)
             have HB4 := Lib.hid (HBe.out.trans (h3.to_below HOd.out.1 HBe.out.size))
             clear h1 h2 h3)
          | (go_at_call 13; with_reducible refine HT2.out.mono ?_; rintro e w5 ⟨aT, cT, rfl, ho, hb5⟩
             have HC5 := Lib.hid (HC4.out.below hb5)
             have HB5 := Lib.hid (HB4.out.trans (hb5.mono HB4.out.size))
             have HO5 := Lib.hid ho
             have HT5 := Lib.hid (HC5.out.told (q := B.qB) HQ.out)
             clear ho hb5)
          | (go_at_call 13; with_reducible refine HT5.out.mono ?_; rintro e w6 ⟨aU, cU, rfl, ho, hb6⟩
             have HB6 := Lib.hid (HB5.out.trans (hb6.mono HB5.out.size))
             have hal := alike_q w6 aT aU (num G.nb V.e) cT cU _ _ (allV G.nb V.e) V.k (allV_len _ _) (HO5.out.but (But.of_below hb6) (by simp)) ho
             unfold toldV at hal
             have HAl := Lib.hid hal
             clear ho hb6 hal)
          | (go_at_call 18; with_reducible refine HAl.out.mono ?_; rintro e w7 ⟨rfl, hb7⟩
             have HB7 := Lib.hid (HB6.out.trans (hb7.mono HB6.out.size))
             clear hb7))
        go_ret
        exact ⟨rfl, HB7.out⟩
    · obtain ⟨b1, o1, y, rfl, hy, hyc⟩ := bytes_at HW1.out HL1.out.rq.be (show i < n1 by omega)
      have hy8 : (y.toNat : Int) < 256 := by have := y.toNat_lt; omega
      have hy80 : (0 : Int) ≤ (y.toNat : Int) := by omega
      have HI : Hid (i < n1 ∧ i < 300) := Lib.hid ⟨by omega, by omega⟩
      obtain ⟨bq, hbq, hbq32⟩ : ∃ bq : Nat, ((y.toNat : Int)) % 32 = (bq : Int) ∧ bq < 32 := ⟨y.toNat % 32, by omega, by omega⟩
      obtain ⟨q, hqq, hq4⟩ : ∃ q : Nat, (i : Int) % 4 = (q : Int) ∧ q < 4 := ⟨i % 4, by omega, by omega⟩
      clear hin hi3
      obtain ⟨D, hD⟩ : ∃ D, D = str [100, 97, 116, 97, UInt8.ofNat (i % 256), UInt8.ofNat (i / 256), y, 0] := ⟨_, rfl⟩
      have hD8 : D.size = 8 := by rw [hD]; rfl
      obtain ⟨k1, k2, k3⟩ := eight_ways wr i HI.out.2 y D hD
      have HD8 := Lib.hid hD8
      have hyc2 : (wr.alloc (.cells #[.int .i64 0, .int .i64 0, .int .i64 0, .string ⟨#[]⟩, .bool false, .int .i64 0, .int .i64 0] 37)).drew.cell? ⟨b1, o1 + i, none⟩ = some (.int .u8 (y.toNat : Int)) := by
        rw [(((Below.refl wr.heap.size wr).alloc (Nat.le_refl _) (.cells #[.int .i64 0, .int .i64 0, .int .i64 0, .string ⟨#[]⟩, .bool false, .int .i64 0, .int .i64 0] 37)).drew).cell (World.block_lt_of_cell? wr _ hyc)]; exact hyc
      have hyc3 : (wr.alloc (.cells #[.int .u8 100, .int .u8 97, .int .u8 116, .int .u8 97, .int .u8 ((i : Int) % 256), .int .u8 ((i : Int) / 256), .int .u8 (y.toNat : Int), .int .u8 0] 5)).drew.cell? ⟨b1, o1 + i, none⟩ = some (.int .u8 (y.toNat : Int)) := by
        rw [(((Below.refl wr.heap.size wr).alloc (Nat.le_refl _) (.cells #[.int .u8 100, .int .u8 97, .int .u8 116, .int .u8 97, .int .u8 ((i : Int) % 256), .int .u8 ((i : Int) / 256), .int .u8 (y.toNat : Int), .int .u8 0] 5)).drew).cell (World.block_lt_of_cell? wr _ hyc)]; exact hyc
      have hyc4 : ((wr.alloc (.cells #[.int .u8 100, .int .u8 97, .int .u8 116, .int .u8 97, .int .u8 ((i : Int) % 256), .int .u8 ((i : Int) / 256), .int .u8 (y.toNat : Int), .int .u8 0] 5)).alloc (.cells #[.int .i64 0, .int .i64 0, .int .i64 0, .string ⟨#[]⟩, .bool false, .int .i64 0, .int .i64 0] 37)).drew.cell? ⟨b1, o1 + i, none⟩ = some (.int .u8 (y.toNat : Int)) := by
        rw [((((Below.refl wr.heap.size wr).alloc (Nat.le_refl _) (.cells #[.int .u8 100, .int .u8 97, .int .u8 116, .int .u8 97, .int .u8 ((i : Int) % 256), .int .u8 ((i : Int) / 256), .int .u8 (y.toNat : Int), .int .u8 0] 5)).alloc (by simp) (.cells #[.int .i64 0, .int .i64 0, .int .i64 0, .string ⟨#[]⟩, .bool false, .int .i64 0, .int .i64 0] 37)).drew).cell (World.block_lt_of_cell? wr _ hyc)]; exact hyc
      have hyc5 : ((wr.alloc (.cells #[.int .i64 0, .int .i64 0, .int .i64 0, .string ⟨#[]⟩, .bool false, .int .i64 0, .int .i64 0] 37)).alloc (.cells #[.int .u8 100, .int .u8 97, .int .u8 116, .int .u8 97, .int .u8 ((i : Int) % 256), .int .u8 ((i : Int) / 256), .int .u8 (y.toNat : Int), .int .u8 0] 5)).drew.cell? ⟨b1, o1 + i, none⟩ = some (.int .u8 (y.toNat : Int)) := by
        rw [((((Below.refl wr.heap.size wr).alloc (Nat.le_refl _) (.cells #[.int .i64 0, .int .i64 0, .int .i64 0, .string ⟨#[]⟩, .bool false, .int .i64 0, .int .i64 0] 37)).alloc (by simp) (.cells #[.int .u8 100, .int .u8 97, .int .u8 116, .int .u8 97, .int .u8 ((i : Int) % 256), .int .u8 ((i : Int) / 256), .int .u8 (y.toNat : Int), .int .u8 0] 5)).drew).cell (World.block_lt_of_cell? wr _ hyc)]; exact hyc
      clear hD hD8
      clear hy
      have HyX := Lib.hid hyc
      go_upto_region 11 with fail
      go_cut [13] (fun p wx => ∃ g, p = .pointer (some ⟨g, 0, none⟩) ∧ wr.heap.size ≤ g ∧ wx.heap[g]? = some (.cells #[.int .i64 (bq : Int), .int .i64 1, .int .i64 ((i : Int) + 1), .string D, .bool true, .int .i64 (q : Int), .int .i64 ((i : Int) + 1)] 37 (0, 0)) ∧ Below wr.heap.size wr wx)
      case first =>
        go_region
        all_goals
          go_wp2_with fail
          go_meet
          first
            | exact ⟨wr.heap.size + 1, rfl, by omega, (drew_heap2 wr _ _).1, (((Below.refl _ wr).alloc (Nat.le_refl _) _).alloc (by simp) _).drew⟩
            | exact ⟨wr.heap.size, rfl, Nat.le_refl _, (drew_heap2 wr _ _).2, (((Below.refl _ wr).alloc (Nat.le_refl _) _).alloc (by simp) _).drew⟩
      case rest =>
        obtain ⟨g, rfl, hgl, hgb, hbx⟩ := hcut
        have HBx := Lib.hid hbx
        have HG := Lib.hid hgb
        have HGn1 : Hid (g ∉ B1.l ∧ w2.heap.size < wr.heap.size ∧ g ≠ w2.heap.size ∧ w.heap.size ≤ g) := Lib.hid ⟨HL1.out.rq.out hgl, HL1.out.mp.lt, by have := HL1.out.mp.lt; omega, by have := HL1.out.rq.be.size; omega⟩
        have HLc : Hid (Lv w wc B1 G V (2 + 4004 * (i : Int)) w2.heap.size (i : Int)) := Lib.hid ⟨HL1.out.rq.below hbx, HL1.out.mp.but (But.of_below hbx) (by simp), HL1.out.nm, HL1.out.od, HL1.out.kk⟩
        have hok := HL1.out.rq.cs.ok
        have hkey : ∀ b y, V.e b = some y → 0 ≤ b ∧ b < (G.nb : Int) := fun b y hy => hok.range hy
        have hnb := HGn.out.1
        obtain ⟨z, hz⟩ : ∃ z, (V.e (bq : Int)).getD zeroE = z := ⟨_, rfl⟩
        obtain ⟨hd, hhd⟩ : ∃ hd, (V.e (bq : Int)).isSome = hd := ⟨_, rfl⟩
        obtain ⟨m, hm⟩ : ∃ m, num G.nb V.e = m := ⟨_, rfl⟩
        obtain ⟨dd, hdd⟩ : ∃ dd, dn G.nb V.e = dd := ⟨_, rfl⟩
        rw [hdd]
        obtain ⟨rm, hrm⟩ : ∃ rm : Nat, G.N - 6 = rm := ⟨_, rfl⟩
        have hlk := (mape_look HLc.out.mp (i := (bq : Int)) (by omega) (by omega)).1
        rw [hz, hhd] at hlk
        simp only [En.val] at hlk
        have HKey := Lib.hid hkey
        have hchk := entL_ok (b := (bq : Int)) (i := (i : Int)) (q := (q : Int)) (D := D) (y := true) ⟨by omega, by omega⟩ ⟨by omega, by omega⟩ ⟨by omega, by omega⟩ HD8.out
        have hord : 0 < ord (entL (bq : Int) (i : Int) (q : Int) D true).ep (entL (bq : Int) (i : Int) (q : Int) D true).sq V.k.ep V.k.sq := HL1.out.kk.ord
        rw [← hnb] at hchk
        have hbeh := HL1.out.kk.behind (b := (bq : Int)) (D := D) (y := true) (q := (q : Int)) (by omega) ⟨by omega, by omega⟩
        obtain ⟨c0, c1, c2', c3, c4, c5, c6, fzg, htg⟩ := seven hgb
        have hmI : (m : Int) ≤ 32 := by have : num G.nb V.e ≤ G.nb := cnt_le _ _; omega
        have hm0 : (0 : Int) ≤ (m : Int) := by omega
        have hd0 : (0 : Int) ≤ (dd : Int) := by omega
        have hdI : (dd : Int) ≤ 32 := by have := dn_le G.nb V.e; omega
        have hrI : (rm : Int) ≤ 37 := by have := HGn.out.2; omega
        have hr0 : (0 : Int) ≤ (rm : Int) := by omega
        have HKb := Lib.hid hbeh
        -- what Put tells
        have hput : (hd = false ∧ rm ≤ m ∧ dd = m ∧ putE G.nb G.N V (entL (bq : Int) (i : Int) (q : Int) D true) = 12 ∧ putVi G.nb G.N V (entL (bq : Int) (i : Int) (q : Int) D true) = V) ∨
            ((hd = true ∨ ¬ rm ≤ m) ∧ putE G.nb G.N V (entL (bq : Int) (i : Int) (q : Int) D true) = 0 ∧ putVi G.nb G.N V (entL (bq : Int) (i : Int) (q : Int) D true) = layV V (entL (bq : Int) (i : Int) (q : Int) D true)) ∨
            (hd = false ∧ rm ≤ m ∧ dd ≠ m ∧ ∃ yl, lowest G.nb V.e = some yl ∧ putE G.nb G.N V (entL (bq : Int) (i : Int) (q : Int) D true) = 0 ∧ putVi G.nb G.N V (entL (bq : Int) (i : Int) (q : Int) D true) = layV (dropV V yl.b) (entL (bq : Int) (i : Int) (q : Int) D true)) := by
          by_cases hf : fullV G.nb G.N V (entL (bq : Int) (i : Int) (q : Int) D true).b
          · have h1 : hd = false := by rw [← hhd, show V.e (bq : Int) = none from hf.1]; rfl
            have h2 : rm ≤ m := by have := hf.2; omega
            cases hlo : lowest G.nb V.e with
            | none => exact .inl ⟨h1, h2, by rw [← hdd, ← hm]; exact dn_full hlo, put_full hchk hord hf hlo⟩
            | some yl => exact .inr (.inr ⟨h1, h2, by rw [← hdd, ← hm]; exact dn_low hlo, yl, rfl, put_low hchk hord hf hlo⟩)
          · refine .inr (.inl ⟨?_, put_yes hchk hord hf⟩)
            by_cases h1 : hd = true
            · exact .inl h1
            · right
              intro h2
              refine hf ⟨?_, by omega⟩
              have h3 : (V.e (bq : Int)).isSome = false := by rw [hhd]; simpa using h1
              show V.e (bq : Int) = none
              simpa using h3
        have HM := Lib.hid hm
        have HDd := Lib.hid hdd
        have HHd := Lib.hid hhd
        have HRm := Lib.hid hrm
        have HBc := Lib.hid ((Below.refl wc.heap.size wc).alloc (Nat.le_refl _) (.cells #[.int .i64 z.b, .int .i64 z.ep, .int .i64 z.sq, .string z.data, .bool z.dirty, .int .i64 z.cl, .int .i64 z.n] 37))
        have hh8 : wc.heap[g]? = _ := hgb
        clear hgb hbx hok hkey hz hm hdd hhd hrm hchk hord hbeh htg HL1 fzg hh8
        rcases hput with ⟨hh1, hh2, hh3, hp1, hp2⟩ | ⟨hh1, hp1, hp2⟩ | ⟨hh1, hh2, hh3, yl, hlo, hp1, hp2⟩
        · as_aux_lemma =>
            subst hh1
            have hrmI : (rm : Int) ≤ (m : Int) := by omega
            have hdm : ((dd : Int) == (m : Int)) = true := by rw [hh3]; simp
            clear hh2 hh3
            have d0 := HBc.out.cell (p := ⟨g, 0, none⟩) (lt_of_heap HG.out)
            have hPu := (HLc.out.rq.below HBc.out).put HQ.out (by omega) (entL (bq : Int) (i : Int) (q : Int) D true) (by show _ ≤ (bq : Int); omega) (by show (bq : Int) ≤ _; omega) ⟨hp1, hp2⟩
            simp only [entL] at hPu
            have HPu := Lib.hid hPu
            obtain ⟨g0, g1, g2, g3, g4, g5, g6, _, _⟩ := seven ((HBc.out.block g (lt_of_heap HG.out)).trans HG.out)
            clear d0 hPu hp1 hp2
            go_wp2_with (first
              | (go_at_call 23; with_reducible refine HPu.out.mono ?_; rintro e w5 ⟨rfl, r5, hR5, hbu5, hr5⟩
                 have HR5 := Lib.hid hR5
                 have hmp5 := (HLc.out.mp.but (But.of_below HBc.out) (by simp)).but hbu5 HLc.out.nm
                 have HM5 := Lib.hid hmp5
                 have HN5 := Lib.hid (row_out HLc.out.nm hr5 (by have := HLc.out.mp.lt; simp; omega))
                 have HX5 : Hid (w5.heap[g]? = some (.cells #[.int .i64 (bq : Int), .int .i64 1, .int .i64 ((i : Int) + 1), .string D, .bool true, .int .i64 (q : Int), .int .i64 ((i : Int) + 1)] 37 (0, 0))) := Lib.hid (by
                   rw [hbu5.block g (by have := lt_of_heap HG.out; simp; omega) HGn1.out.1, HBc.out.block g (lt_of_heap HG.out)]; exact HG.out)
                 have hle : ∀ ty, (Builtin.len_ #[58] ty #[.map (some w2.heap.size)]).run Tryz.prog w5 = .ok (.int .i64 (m : Int)) w5 := fun ty => by rw [← HM.out]; exact mape_len hmp5 HKey.out ty
                 have hro := hR5.room (q := B.qB) HQ.out
                 rw [HRm.out] at hro
                 have HRo := Lib.hid hro
                 clear hR5 hmp5 hbu5 hr5 hro)
              | (go_at_call 24; with_reducible refine HRo.out.mono ?_; rintro e w8 ⟨rfl, rfl⟩))
            go_roundw
            case rel => exact ⟨i + 1, B1.row r5, V, by have := HI.out; omega, by have := HI.out; omega, by rw [HDd.out], by go_num, HQ.out, HQd.out, ⟨HR5.out.mono (by omega), HM5.out, HN5.out, HLc.out.od, HLc.out.kk.mono (by omega)⟩⟩
            case measure => have := HI.out; simp [RowKit.intOf]; omega
        · have hs1 : (hd = true ∧ True) ∨ (hd = false ∧ ¬ (rm : Int) ≤ (m : Int)) := by
            cases hd
            · right
              rcases hh1 with h | h
              · cases h
              · exact ⟨rfl, by omega⟩
            · exact .inl ⟨rfl, trivial⟩
          obtain ⟨V', hV'⟩ : ∃ V', layV V (entL (bq : Int) (i : Int) (q : Int) D true) = V' := ⟨_, rfl⟩
          have HVt : Hid (V'.e = updV V.e (bq : Int) (some (entL (bq : Int) (i : Int) (q : Int) D true)) ∧ V'.k = behind V.k (entL (bq : Int) (i : Int) (q : Int) D true)) := Lib.hid (by rw [← hV']; exact ⟨rfl, rfl⟩)
          rw [hV'] at hp2
          clear hh1 hV'
          have d0 := HBc.out.cell (p := ⟨g, 0, none⟩) (lt_of_heap HG.out)
          have hPu := (HLc.out.rq.below HBc.out).put HQ.out (by omega) (entL (bq : Int) (i : Int) (q : Int) D true) (by show _ ≤ (bq : Int); omega) (by show (bq : Int) ≤ _; omega) ⟨hp1, hp2⟩
          simp only [entL] at hPu
          have HPu := Lib.hid hPu
          obtain ⟨g0, g1, g2, g3, g4, g5, g6, _, _⟩ := seven ((HBc.out.block g (lt_of_heap HG.out)).trans HG.out)
          clear d0 hPu hp1 hp2
          rcases hs1 with ⟨rfl, _⟩ | ⟨rfl, hrf⟩
          all_goals
            as_aux_lemma =>
              go_wp2_with (first
                | (go_at_call 23; with_reducible refine HPu.out.mono ?_; rintro e w5 ⟨rfl, r5, hR5, hbu5, hr5⟩
                   have HR5 := Lib.hid hR5
                   have hmp5 := (HLc.out.mp.but (But.of_below HBc.out) (by simp)).but hbu5 HLc.out.nm
                   have HM5 := Lib.hid hmp5
                   have HN5 := Lib.hid (row_out HLc.out.nm hr5 (by have := HLc.out.mp.lt; simp; omega))
                   have HGn5 := Lib.hid (row_out HGn1.out.1 hr5 (by have := lt_of_heap HG.out; simp; omega))
                   have HX5 : Hid (w5.heap[g]? = some (.cells #[.int .i64 (bq : Int), .int .i64 1, .int .i64 ((i : Int) + 1), .string D, .bool true, .int .i64 (q : Int), .int .i64 ((i : Int) + 1)] 37 (0, 0))) := Lib.hid (by
                     rw [hbu5.block g (by have := lt_of_heap HG.out; simp; omega) HGn1.out.1, HBc.out.block g (lt_of_heap HG.out)]; exact HG.out)
                   have hle : ∀ ty, (Builtin.len_ #[58] ty #[.map (some w2.heap.size)]).run Tryz.prog w5 = .ok (.int .i64 (m : Int)) w5 := fun ty => by rw [← HM.out]; exact mape_len hmp5 HKey.out ty
                   have hro := hR5.room (q := B.qB) HQ.out
                   rw [HRm.out] at hro
                   have HRo := Lib.hid hro
                   obtain ⟨NN, DM, hown, hrd⟩ := hmp5
                   have HO := Lib.hid hown
                   have HRd := Lib.hid hrd
                   have HSz := Lib.hid (size_numE hown hrd HKey.out)
                   clear hR5 hbu5 hr5 hro hown hrd)
                | (go_at_call 24; with_reducible refine HRo.out.mono ?_; rintro e w8 ⟨rfl, rfl⟩)
                | (at_range; refine wpList_range_own _ rfl (.tmp 105) 58 rfl 3 37 (int_keyed Tryz.underlying3) Tryz.underlying58 entR w2.heap.size NN DM rfl HO.out ?_; intro w6 hrg0 hg0 hs0))
              have HB6 : Hid (Below w5.heap.size w5 w6) := Lib.hid (((But.refl [] w5).grown hg0 (by simp)).to_below (by simp) (Nat.le_refl _))
              have HRg0 := Lib.hid hrg0
              clear hrg0 hg0 hs0
              go_frame
              go_loopw [17] (fun o wz => ∃ (left : Lit → Bool) (cnt on : Nat), o = .int .i64 on ∧ wz.ranges (H := Unit) Tryz.prog 3 entR w2.heap.size w5.heap.size NN DM left cnt ∧ Below w5.heap.size w5 wz ∧ on + cnt ≤ 32 ∧ Hid (∀ b y, V.e b = some y → left (.int .i64 b) = false → y.dirty = false → 1 ≤ on)) (fun _ wz => wz.rangeLeft w2.heap.size w5.heap.size)
              case atStart => exact ⟨_, _, 0, rfl, HRg0.out, HB6.out, by rw [HSz.out]; have : num G.nb V.e ≤ G.nb := cnt_le _ _; have := HGn.out.1; omega, Lib.hid (fun b y hy hl => by rw [HRd.out.2.1, hy] at hl; cases hl)⟩
              case round =>
                obtain ⟨left, cnt, on, rfl, hrg, hb, hon, HLo⟩ := hrel
                have HRg := Lib.hid hrg
                have HB := Lib.hid hb
                have HOn := Lib.hid hon
                have hon0 : (0 : Int) ≤ (on : Int) := by omega
                have honI : (on : Int) ≤ 32 := by omega
                clear hrg hb hon HRg0 HB6
                go_wp2_with (at_next; refine wpList_next_ranges _ rfl (.tmp 106) rfl 3 (int_keyed Tryz.underlying3) entR (Value.int .i64) En.val kinv einv w2.heap.size w5.heap.size NN DM left cnt rfl HRg.out ?_ ?_)
                · intro hc0 hl0
                  have HL0 := Lib.hid hl0
                  clear hc0 hl0
                  have hle2 : ∀ ty, (Builtin.len_ #[58] ty #[.map (some w2.heap.size)]).run Tryz.prog wr = .ok (.int .i64 (m : Int)) wr := fun ty => by rw [← HM.out]; exact mape_len (HM5.out.but (But.of_below HB.out) (by have := HM5.out.lt; simp)) HKey.out ty
                  have hro2 := (HR5.out.below HB.out).room (q := B.qB) HQ.out
                  rw [HRm.out] at hro2
                  have HRo2 := Lib.hid hro2
                  have HRt := Lib.hid (HR5.out.below HB.out)
                  have HMt := Lib.hid (HM5.out.but (But.of_below HB.out) (by simp))
                  have HXt : Hid (wr.heap[g]? = some (.cells #[.int .i64 (bq : Int), .int .i64 1, .int .i64 ((i : Int) + 1), .string D, .bool true, .int .i64 (q : Int), .int .i64 ((i : Int) + 1)] 37 (0, 0))) := Lib.hid (by rw [HB.out.block g (lt_of_heap HX5.out)]; exact HX5.out)
                  clear hro2
                  go_upto_region 36 with (go_at_call 24; with_reducible refine HRo2.out.mono ?_; rintro e w8 ⟨rfl, rfl⟩)
                  as_aux_lemma =>
                    go_cut [158] (fun c wx => ∃ cb : Bool, c = .bool cb ∧ wr = wx)
                    case first =>
                      by_cases hic : i < n2
                      · have hicI : (i : Int) < (n2 : Int) := by omega
                        obtain ⟨bB, oB, yB, rfl, hBc⟩ := bool_at HW2.out HRt.out.be hic
                        go_wp2_with fail
                        go_meet
                        exact ⟨yB, rfl, rfl⟩
                      · have hicI : ¬ (i : Int) < (n2 : Int) := by omega
                        go_wp2_with fail
                        go_meet
                        exact ⟨false, rfl, rfl⟩
                    case rest =>
                      obtain ⟨cbv, rfl, hw⟩ := hcut
                      subst hw
                      go_upto_if 158 with fail
                      go_cut [16] (fun _ wx => ∃ (dy : Bool) (V2 : Vi) (B2 : Bk), B2.qB = B.qB ∧ B2.dB = B.dB ∧ Rq w wx B2 G V2 (2 + 4004 * (i : Int) + 4004) ∧ w2.heap.size ∉ B2.l ∧ MapE wx w2.heap.size (V.e) ∧ wx.heap[g]? = some (.cells #[.int .i64 (bq : Int), .int .i64 1, .int .i64 ((i : Int) + 1), .string D, .bool dy, .int .i64 (q : Int), .int .i64 ((i : Int) + 1)] 37 (0, 0)) ∧ V2.e = updV (V.e) (bq : Int) (some (entL (bq : Int) (i : Int) (q : Int) D dy)) ∧ V2.k = behind V.k (entL (bq : Int) (i : Int) (q : Int) D true))
                      case first =>
                        cases cbv
                        · go_wp2_with fail
                          go_meet
                          exact ⟨true, V', B1.row r5, HQ.out, HQd.out, HRt.out.mono (by omega), HN5.out, HMt.out, HXt.out, HVt.out.1, HVt.out.2⟩
                        · have hcl := clean_entL (E := V'.e) (k := V'.k) (b := (bq : Int)) (i := (i : Int)) (q := (q : Int)) (D := D) (by rw [HVt.out.1]; exact updV_at _ _ _)
                          have HCl := Lib.hid (HRt.out.cleans (q := B.qB) HQ.out (by omega) (bq : Int) 1 ((i : Int) + 1) (by omega) (by omega) hcl)
                          obtain ⟨g0', g1', g2', g3', g4', g5', g6', _, _⟩ := seven HXt.out
                          clear hcl
                          go_wp2_with (go_at_call 26; with_reducible refine HCl.out.mono ?_; rintro e w9 ⟨rfl, r9, hR9, hbu9, hr9⟩
                                       have HR9 := Lib.hid hR9
                                       have HM9 := Lib.hid (HMt.out.but hbu9 HN5.out)
                                       have HN9 := Lib.hid (row_out HN5.out hr9 HMt.out.lt)
                                       have HG9 := Lib.hid (row_out HGn5.out hr9 (lt_of_heap HXt.out))
                                       have hX9 : w9.heap[g]? = some (.cells #[.int .i64 (bq : Int), .int .i64 1, .int .i64 ((i : Int) + 1), .string D, .bool true, .int .i64 (q : Int), .int .i64 ((i : Int) + 1)] 37 (0, 0)) := by rw [hbu9.block g (lt_of_heap HXt.out) HGn5.out]; exact HXt.out
                                       have HX9 := Lib.hid hX9
                                       obtain ⟨j0', j1', j2', j3', j4', j5', j6', fz', _⟩ := seven hX9
                                       clear hR9 hbu9 hr9 hX9)
                          go_meet
                          exact ⟨false, _, (B1.row r5).row r9, HQ.out, HQd.out, (HR9.out.but ((But.refl [g] w9).set (p := ⟨g, 4, none⟩) _ (.inl (by simp))) (by intro y hy hc; simp at hc; exact HG9.out (hc ▸ hy)) (by intro y hy; simp at hy; subst hy; exact HGn1.out.2.2.2)).mono (by omega), HN9.out, HM9.out.but ((But.refl [g] w9).set (p := ⟨g, 4, none⟩) _ (.inl (by simp))) (by simp; exact fun h => HGn1.out.2.2.1 h.symm), set4 HX9.out _, by show updV V'.e _ _ = _; rw [HVt.out.1, updV_twice], HVt.out.2⟩
                      case rest =>
                        obtain ⟨dy, V2, B2, hq2, hqd2, hR, hN, hM, hX, hVe, hVk⟩ := hcut
                        have HQ2 := Lib.hid hq2
                        have HQd2 := Lib.hid hqd2
                        have HRc := Lib.hid hR
                        have HNc := Lib.hid hN
                        have HXc := Lib.hid hX
                        have HVk := Lib.hid hVk
                        obtain ⟨g0', g1', g2', g3', g4', g5', g6', _, _⟩ := seven hX
                        obtain ⟨w10, hrun, hM10, hbu10⟩ := mape_store hM HKey.out (by have := HGn.out.1; omega) (i := (bq : Int)) (by omega) (by omega) (entL (bq : Int) (i : Int) (q : Int) D dy)
                        simp only [En.val, entL] at hrun
                        rw [← hVe] at hM10
                        have HR10 := Lib.hid (hR.but hbu10 (by intro y hy hc; simp at hc; exact hN (hc ▸ hy)) (by intro y hy; simp at hy; subst hy; exact HLc.out.od))
                        have HM10 := Lib.hid hM10
                        have HX10 : Hid (w10.heap[g]? = some (.cells #[.int .i64 (bq : Int), .int .i64 1, .int .i64 ((i : Int) + 1), .string D, .bool dy, .int .i64 (q : Int), .int .i64 ((i : Int) + 1)] 37 (0, 0))) := Lib.hid (by rw [hbu10.block g (lt_of_heap hX) (by simp; exact HGn1.out.2.2.1)]; exact hX)
                        have hkey2 := HR10.out.cs.ok
                        have HKey2 : Hid (∀ b y, V2.e b = some y → 0 ≤ b ∧ b < (G.nb : Int)) := Lib.hid (fun b y hy => hkey2.range hy)
                        obtain ⟨NN4, DM4, hown, hrd⟩ := hM10
                        have HO4 := Lib.hid hown
                        have HRd4 := Lib.hid hrd
                        have HVe := Lib.hid hVe
                        clear hq2 hqd2 hR hN hM hX hVe hVk hbu10 hown hrd hkey2
                        go_wp2_with (first
                          | (at_range; refine wpList_range_own _ rfl (.tmp 171) 58 rfl 3 37 (int_keyed Tryz.underlying3) Tryz.underlying58 entR w2.heap.size NN4 DM4 rfl HO4.out ?_; intro w11 hrg0 hg0 hs0))
                        have HB11 : Hid (Below w10.heap.size w10 w11) := Lib.hid (((But.refl [] w10).grown hg0 (by simp)).to_below (by simp) (Nat.le_refl _))
                        have HRg0 := Lib.hid hrg0
                        clear hrg0 hg0 hs0
                        try go_frame
                        go_loopw [11] (fun ds wz => ∃ (left : Lit → Bool) (cnt dc : Nat), ds = .int .i64 dc ∧ wz.ranges (H := Unit) Tryz.prog 3 entR w2.heap.size w10.heap.size NN4 DM4 left cnt ∧ Below w10.heap.size w10 wz ∧ Hid (dc = dnl G.nb V2.e left)) (fun _ wz => wz.rangeLeft w2.heap.size w10.heap.size)
                        case atStart => exact ⟨_, _, 0, rfl, HRg0.out, HB11.out, Lib.hid (dnl_start (fun b y hy => by rw [HRd4.out.2.1, hy]; rfl)).symm⟩
                        case round =>
                          obtain ⟨left, cnt, dc, rfl, hrg, hb, HDc⟩ := hrel
                          have HRg := Lib.hid hrg
                          have HB := Lib.hid hb
                          have hdc0 : (0 : Int) ≤ (dc : Int) := by omega
                          have hdcI : (dc : Int) ≤ 32 := by have h1 : dnl G.nb V2.e left ≤ G.nb := cnt_le _ _; have := HDc.out; have := HGn.out.1; omega
                          clear hrg hb HRg0 HB11
                          go_wp2_with (at_next; refine wpList_next_ranges _ rfl (.tmp 172) rfl 3 (int_keyed Tryz.underlying3) entR (Value.int .i64) En.val kinv einv w2.heap.size w10.heap.size NN4 DM4 left cnt rfl HRg.out ?_ ?_)
                          · intro hc0 hl0
                            have HDn : Hid (dc = dn G.nb V2.e) := Lib.hid (by rw [HDc.out]; exact dnl_end hl0)
                            clear hc0 hl0
                            as_aux_lemma =>
                              have HM13 := Lib.hid (HM10.out.but (But.of_below HB.out) (by simp))
                              have HR13 := Lib.hid (HR10.out.below HB.out)
                              have HX13 : Hid (∀ w', Below wr.heap.size wr w' → w'.cell? ⟨g, 1, none⟩ = some (.int .i64 1) ∧ w'.cell? ⟨g, 2, none⟩ = some (.int .i64 ((i : Int) + 1)) ∧ (∀ ty, (Builtin.len_ #[58] ty #[.map (some w2.heap.size)]).run Tryz.prog w' = .ok (.int .i64 (num G.nb V2.e : Int)) w')) := Lib.hid (fun w' hb => by
                                have hx : w'.heap[g]? = some (.cells #[.int .i64 (bq : Int), .int .i64 1, .int .i64 ((i : Int) + 1), .string D, .bool dy, .int .i64 (q : Int), .int .i64 ((i : Int) + 1)] 37 (0, 0)) := by rw [hb.block g (by have := lt_of_heap HX10.out; have := HB.out.size; omega), HB.out.block g (lt_of_heap HX10.out)]; exact HX10.out
                                obtain ⟨_, x1, x2, _⟩ := seven hx
                                exact ⟨x1, x2, fun ty => mape_len (HM13.out.but (But.of_below hb) (by simp)) HKey2.out ty⟩)
                              have HF1 := Lib.hid (HX13.out wr (Below.refl _ _))
                              have HF2 := Lib.hid (HX13.out wr.drew (Below.refl _ _).drew)
                              have HAll : Hid (∀ w', Below wr.heap.size wr w' → Calls Tryz.prog 20 #[.pointer (some ⟨B.qB, 0, none⟩)] w' fun e w'' => ∃ a cap, e = .returned (.slice a (num G.nb V2.e) cap) ∧ Below wr.heap.size wr w'') := Lib.hid (fun w' hb => by
                                refine ((HR13.out.below hb).all (q := B.qB) HQ2.out).mono ?_
                                rintro e w'' ⟨a, cap, rfl, _, h2⟩
                                exact ⟨a, cap, rfl, hb.trans (h2.mono hb.size)⟩)
                              have HNum : Hid (∀ (x : Int), x = (q : Int) → ∀ w', Below wr.heap.size wr w' → Calls Tryz.prog 27 #[.pointer (some ⟨B.qB, 0, none⟩), .int .i64 x] w' fun e w'' => e = .returned (.int .i64 ((i : Int) + 1)) ∧ w' = w'') := Lib.hid (fun x hx w' hb => by
                                subst hx
                                have := (HR13.out.below hb).num (q := B.qB) HQ2.out (q : Int)
                                rwa [HVk.out, HKb.out.2.2.2] at this)
                              have HLast : Hid (∀ w', Below wr.heap.size wr w' → Calls Tryz.prog 28 #[.pointer (some ⟨B.qB, 0, none⟩)] w' fun e w'' => e = .returned (.agg #[.int .i64 1, .int .i64 ((i : Int) + 1)]) ∧ Below wr.heap.size wr w'') := Lib.hid (fun w' hb => by
                                have := (HR13.out.below hb).last (q := B.qB) HQ2.out
                                rw [HVk.out, HKb.out.2.1, HKb.out.2.2.1] at this
                                refine this.mono ?_
                                rintro e w'' ⟨rfl, h2⟩
                                exact ⟨rfl, hb.trans (h2.mono hb.size)⟩)
                              have hm2I : (num G.nb V2.e : Int) ≤ 32 := by have : num G.nb V2.e ≤ G.nb := cnt_le _ _; have := HGn.out.1; omega
                              have hm20 : (0 : Int) ≤ (num G.nb V2.e : Int) := by omega
                              have hwr : IntKind.i64.wrap ((i : Int) + 1) = (i : Int) + 1 := by have := HI.out; simp [IntKind.wrap, IntKind.bits, IntKind.signed]; omega
                              have htm : ((i : Int)).tmod 4 = (q : Int) := by rw [Int.tmod_eq_emod_of_nonneg (by omega)]; exact hqq
                              have HKk2 : Hid (KOk V2.k ((i : Int) + 1)) := Lib.hid (by rw [HVk.out]; exact HKb.out.1)
                              go_wp2_with fail
                              go_region_held3 (fun w' => w'.cell? ⟨g, 1, none⟩ = some (.int .i64 1) ∧ w'.cell? ⟨g, 2, none⟩ = some (.int .i64 ((i : Int) + 1)) ∧ (∀ ty, (Builtin.len_ #[58] ty #[.map (some w2.heap.size)]).run Tryz.prog w' = .ok (.int .i64 (num G.nb V2.e : Int)) w'))
                                (first
                                  | exact HF1.out
                                  | exact HF2.out
                                  | exact HF3.out
                                  | exact HF4.out)
                                (first
                                  | (go_at_call 20; with_reducible refine (HAll.out _ (by first | exact Below.refl _ _ | exact (Below.refl _ _).drew)).mono ?_; rintro e w13 ⟨aA, cA, rfl, hb13⟩
                                     have HB13 := Lib.hid hb13
                                     have HF3 := Lib.hid (HX13.out w13 hb13)
                                     clear hb13)
                                  | (go_at_call 27; with_reducible refine (HNum.out _ (by first | rfl | exact htm | exact hqq) _ HB13.out).mono ?_; rintro e w' ⟨rfl, rfl⟩)
                                  | (go_at_call 28; with_reducible refine (HLast.out _ HB13.out).mono ?_; rintro e w14 ⟨rfl, hb14⟩
                                     have HB14 := Lib.hid hb14
                                     have HF4 := Lib.hid (HX13.out w14 hb14)
                                     clear hb14))
                              all_goals
                                go_wp2_with fail
                                go_roundw
                                case rel => exact ⟨i + 1, B2, V2, by have := HI.out; omega, by have := HI.out; omega, by rw [HDn.out], by go_num, HQ2.out, HQd2.out, ⟨(HR13.out.below HB14.out).mono (by omega), HM13.out.but (But.of_below HB14.out) (by simp), HNc.out, HLc.out.od, by simpa using HKk2.out⟩⟩
                                case measure => have := HI.out; simp [RowKit.intOf]; omega
                          · intro x1 c kl yd yp w7 cnt2 hkey hlk hv hat hrg2 hlt hg2 hs2 hen
                            obtain ⟨rfl, hEx, hwf⟩ := come_ent HRd4.out hkey hv hat
                            have hb2 := (But.refl [w10.heap.size] wr).grown hg2 (by simp)
                            have hB7 : Below w10.heap.size w10 w7 := HB.out.trans (hb2.to_below (by simp) HB.out.size)
                            have hxr := HKey2.out x1 c hEx
                            have hnb32 := HGn.out.1
                            have HRg2 := Lib.hid (And.intro hrg2 hlt)
                            have HSt := Lib.hid (dnl_step hEx hxr.1 hxr.2 hlk (by simp [Lit.sameKey]))
                            obtain ⟨cb, cp, cq, cd, cy, cc, cn⟩ := c
                            simp only [En.val] at hen
                            have hba := (Below.refl w7.heap.size w7).alloc (Nat.le_refl _) (.cells #[.int .i64 cb, .int .i64 cp, .int .i64 cq, .string cd, .bool cy, .int .i64 cc, .int .i64 cn] 37)
                            have hgt := gets2 ((HR10.out.below (hB7.trans (hba.mono hB7.size)))) (q := B.qB) HQ2.out x1 (by omega) (by omega) (z := ⟨cb, cp, cq, cd, cy, cc, cn⟩) (hd := true) (by rw [hEx]; rfl) (by rw [hEx]; rfl)
                            simp only at hgt
                            have HGt := Lib.hid hgt
                            have HBa := Lib.hid hba
                            have HB7 := Lib.hid hB7
                            have HCn := Lib.hid (EAt.mk7 w7 ⟨cb, cp, cq, cd, cy, cc, cn⟩)
                            clear hkey hlk hv hat hrg2 hlt hg2 hs2 hEx hwf hb2 hB7 hxr hgt hba
                            cases cy with
                            | false =>
                              go_wp2_with (go_at_call 25; with_reducible refine HGt.out.mono ?_; rintro e w12 ⟨rfl, hb12⟩
                                           have hb13 := hb12.trans ((Below.refl w12.heap.size w12).alloc (Nat.le_refl _) (.cells #[.int .i64 cb, .int .i64 cp, .int .i64 cq, .string cd, .bool false, .int .i64 cc, .int .i64 cn] 37) |>.mono hb12.size)
                                           have hb14 := HBa.out.trans (hb13.mono HBa.out.size)
                                           have HB14 := Lib.hid (HB7.out.trans (hb14.mono HB7.out.size))
                                           have HRg3 := Lib.hid (rangesE_but HRg2.out.1 (But.of_below hb14) (by simp) (by simp))
                                           obtain ⟨k0', k1', k2', k3', k4', k5', k6'⟩ := HCn.out.but (But.of_below hb13) (by simp)
                                           simp only at k0' k1' k2' k3' k4' k5' k6'
                                           clear hb12 hb13 hb14)
                              go_roundw
                              case rel => exact ⟨_, cnt2, dc, rfl, HRg3.out, HB14.out, Lib.hid (by rw [HSt.out, HDc.out]; rfl)⟩
                              case measure => rw [HRg3.out.left_eq, HRg.out.left_eq]; exact HRg2.out.2
                            | true =>
                              go_wp2_with (go_at_call 25; with_reducible refine HGt.out.mono ?_; rintro e w12 ⟨rfl, hb12⟩
                                           have hb13 := hb12.trans ((Below.refl w12.heap.size w12).alloc (Nat.le_refl _) (.cells #[.int .i64 cb, .int .i64 cp, .int .i64 cq, .string cd, .bool true, .int .i64 cc, .int .i64 cn] 37) |>.mono hb12.size)
                                           have hb14 := HBa.out.trans (hb13.mono HBa.out.size)
                                           have HB14 := Lib.hid (HB7.out.trans (hb14.mono HB7.out.size))
                                           have HRg3 := Lib.hid (rangesE_but HRg2.out.1 (But.of_below hb14) (by simp) (by simp))
                                           obtain ⟨k0', k1', k2', k3', k4', k5', k6'⟩ := HCn.out.but (But.of_below hb13) (by simp)
                                           simp only at k0' k1' k2' k3' k4' k5' k6'
                                           clear hb12 hb13 hb14)
                              go_roundw
                              case rel => exact ⟨_, cnt2, dc + 1, by go_num, HRg3.out, HB14.out, Lib.hid (by rw [HSt.out, HDc.out]; rfl)⟩
                              case measure => rw [HRg3.out.left_eq, HRg.out.left_eq]; exact HRg2.out.2
                · intro x1 c kl yd yp w7 cnt2 hkey hlk hv hat hrg2 hlt hg2 hs2 hen
                  obtain ⟨rfl, hEx, hwf⟩ := come_ent HRd.out hkey hv hat
                  have hb2 := (But.refl [w5.heap.size] wr).grown hg2 (by simp)
                  have HB7 : Hid (Below w5.heap.size w5 w7) := Lib.hid (HB.out.trans (hb2.to_below (by simp) HB.out.size))
                  have HRg2 := Lib.hid (And.intro hrg2 hlt)
                  have HEx := Lib.hid hEx
                  have HC0 : Hid (cnt2 < cnt) := Lib.hid hlt
                  obtain ⟨cb, cp, cq, cd, cy, cc, cn⟩ := c
                  simp only [En.val] at hen
                  have HRg3 := Lib.hid (rangesE_but HRg2.out.1 (But.of_below ((Below.refl w7.heap.size w7).alloc (Nat.le_refl _) (.cells #[.int .i64 cb, .int .i64 cp, .int .i64 cq, .string cd, .bool cy, .int .i64 cc, .int .i64 cn] 37))) (by simp) (by simp))
                  have HB8 : Hid (Below w5.heap.size w5 (w7.alloc (.cells #[.int .i64 cb, .int .i64 cp, .int .i64 cq, .string cd, .bool cy, .int .i64 cc, .int .i64 cn] 37))) := Lib.hid (HB7.out.alloc HB7.out.size _)
                  clear hkey hlk hv hat hrg2 hlt hg2 hs2 hEx hwf hb2
                  cases cy
                  · go_wp2
                    go_roundw
                    case rel => exact ⟨_, cnt2, on + 1, by go_num, HRg3.out, HB8.out, by have := HOn.out; have := HC0.out; omega, Lib.hid (fun _ _ _ _ _ => by omega)⟩
                    case measure => rw [HRg3.out.left_eq, HRg.out.left_eq]; exact HRg2.out.2
                  · go_wp2
                    go_roundw
                    case rel =>
                      refine ⟨_, cnt2, on, rfl, HRg3.out, HB8.out, by have := HOn.out; have := HC0.out; omega, Lib.hid (fun b y hy hl hd => ?_)⟩
                      by_cases hbx : b = x1
                      · subst hbx
                        rw [HEx.out] at hy
                        injection hy with hy
                        subst hy
                        cases hd
                      · refine HLo.out b y hy ?_ hd
                        have : (Lit.int .i64 b).sameKey (.int .i64 x1) = false := sameKey_ne (by intro h; injection h with _ h; exact hbx h)
                        simpa [this] using hl
                    case measure => rw [HRg3.out.left_eq, HRg.out.left_eq]; exact HRg2.out.2
        · as_aux_lemma =>
            subst hh1
            have hrmI : (rm : Int) ≤ (m : Int) := by omega
            have hdm : ((dd : Int) == (m : Int)) = false := by simp; omega
            obtain ⟨V', hV'⟩ : ∃ V', layV (dropV V yl.b) (entL (bq : Int) (i : Int) (q : Int) D true) = V' := ⟨_, rfl⟩
            have HVt : Hid (V'.e = updV (updV V.e yl.b none) (bq : Int) (some (entL (bq : Int) (i : Int) (q : Int) D true)) ∧ V'.k = behind V.k (entL (bq : Int) (i : Int) (q : Int) D true)) := Lib.hid (by rw [← hV']; exact ⟨rfl, rfl⟩)
            have HYl : Hid (V.e yl.b = some yl ∧ yl.dirty = false ∧ yl.b ≠ (bq : Int)) := Lib.hid (by
              obtain ⟨h1, h2⟩ := lowest_mem hlo
              obtain ⟨b, _, _, h3⟩ := mem_allV.1 h1
              have h4 := HLc.out.rq.cs.ok.key b yl h3
              rw [← h4] at h3
              refine ⟨h3, h2, fun e => ?_⟩
              have h5 := HHd.out
              rw [← e, h3] at h5
              cases h5)
            rw [hV'] at hp2
            clear hh2 hh3 hlo hV'
            have d0 := HBc.out.cell (p := ⟨g, 0, none⟩) (lt_of_heap HG.out)
            have hPu := (HLc.out.rq.below HBc.out).put HQ.out (by omega) (entL (bq : Int) (i : Int) (q : Int) D true) (by show _ ≤ (bq : Int); omega) (by show (bq : Int) ≤ _; omega) ⟨hp1, hp2⟩
            simp only [entL] at hPu
            have HPu := Lib.hid hPu
            obtain ⟨g0, g1, g2, g3, g4, g5, g6, _, _⟩ := seven ((HBc.out.block g (lt_of_heap HG.out)).trans HG.out)
            clear d0 hPu hp1 hp2
            go_wp2_with (first
              | (go_at_call 23; with_reducible refine HPu.out.mono ?_; rintro e w5 ⟨rfl, r5, hR5, hbu5, hr5⟩
                 have HR5 := Lib.hid hR5
                 have hmp5 := (HLc.out.mp.but (But.of_below HBc.out) (by simp)).but hbu5 HLc.out.nm
                 have HM5 := Lib.hid hmp5
                 have HN5 := Lib.hid (row_out HLc.out.nm hr5 (by have := HLc.out.mp.lt; simp; omega))
                 have HGn5 := Lib.hid (row_out HGn1.out.1 hr5 (by have := lt_of_heap HG.out; simp; omega))
                 have HX5 : Hid (w5.heap[g]? = some (.cells #[.int .i64 (bq : Int), .int .i64 1, .int .i64 ((i : Int) + 1), .string D, .bool true, .int .i64 (q : Int), .int .i64 ((i : Int) + 1)] 37 (0, 0))) := Lib.hid (by
                   rw [hbu5.block g (by have := lt_of_heap HG.out; simp; omega) HGn1.out.1, HBc.out.block g (lt_of_heap HG.out)]; exact HG.out)
                 have hle : ∀ ty, (Builtin.len_ #[58] ty #[.map (some w2.heap.size)]).run Tryz.prog w5 = .ok (.int .i64 (m : Int)) w5 := fun ty => by rw [← HM.out]; exact mape_len hmp5 HKey.out ty
                 have hro := hR5.room (q := B.qB) HQ.out
                 rw [HRm.out] at hro
                 have HRo := Lib.hid hro
                 obtain ⟨NN, DM, hown, hrd⟩ := hmp5
                 have HO := Lib.hid hown
                 have HRd := Lib.hid hrd
                 have HSz := Lib.hid (size_numE hown hrd HKey.out)
                 clear hR5 hbu5 hr5 hro hown hrd)
              | (go_at_call 24; with_reducible refine HRo.out.mono ?_; rintro e w8 ⟨rfl, rfl⟩)
              | (at_range; refine wpList_range_own _ rfl (.tmp 105) 58 rfl 3 37 (int_keyed Tryz.underlying3) Tryz.underlying58 entR w2.heap.size NN DM rfl HO.out ?_; intro w6 hrg0 hg0 hs0))
            have HB6 : Hid (Below w5.heap.size w5 w6) := Lib.hid (((But.refl [] w5).grown hg0 (by simp)).to_below (by simp) (Nat.le_refl _))
            have HRg0 := Lib.hid hrg0
            clear hrg0 hg0 hs0
            go_frame
            go_loopw [17] (fun o wz => ∃ (left : Lit → Bool) (cnt on : Nat), o = .int .i64 on ∧ wz.ranges (H := Unit) Tryz.prog 3 entR w2.heap.size w5.heap.size NN DM left cnt ∧ Below w5.heap.size w5 wz ∧ on + cnt ≤ 32 ∧ Hid (∀ b y, V.e b = some y → left (.int .i64 b) = false → y.dirty = false → 1 ≤ on)) (fun _ wz => wz.rangeLeft w2.heap.size w5.heap.size)
            case atStart => exact ⟨_, _, 0, rfl, HRg0.out, HB6.out, by rw [HSz.out]; have : num G.nb V.e ≤ G.nb := cnt_le _ _; have := HGn.out.1; omega, Lib.hid (fun b y hy hl => by rw [HRd.out.2.1, hy] at hl; cases hl)⟩
            case round =>
              obtain ⟨left, cnt, on, rfl, hrg, hb, hon, HLo⟩ := hrel
              have HRg := Lib.hid hrg
              have HB := Lib.hid hb
              have HOn := Lib.hid hon
              have hon0 : (0 : Int) ≤ (on : Int) := by omega
              have honI : (on : Int) ≤ 32 := by omega
              clear hrg hb hon HRg0 HB6
              go_wp2_with (at_next; refine wpList_next_ranges _ rfl (.tmp 106) rfl 3 (int_keyed Tryz.underlying3) entR (Value.int .i64) En.val kinv einv w2.heap.size w5.heap.size NN DM left cnt rfl HRg.out ?_ ?_)
              · intro hc0 hl0
                have HL0 := Lib.hid hl0
                clear hc0 hl0
                have hon1 : ¬ (on : Int) = 0 := by have := HLo.out yl.b yl HYl.out.1 (HL0.out _) HYl.out.2.1; omega
                have hle2 : ∀ ty, (Builtin.len_ #[58] ty #[.map (some w2.heap.size)]).run Tryz.prog wr = .ok (.int .i64 (m : Int)) wr := fun ty => by rw [← HM.out]; exact mape_len (HM5.out.but (But.of_below HB.out) (by have := HM5.out.lt; simp)) HKey.out ty
                have hro2 := (HR5.out.below HB.out).room (q := B.qB) HQ.out
                rw [HRm.out] at hro2
                have HRo2 := Lib.hid hro2
                have HRt := Lib.hid (HR5.out.below HB.out)
                have HMt := Lib.hid (HM5.out.but (But.of_below HB.out) (by simp))
                have HXt : Hid (wr.heap[g]? = some (.cells #[.int .i64 (bq : Int), .int .i64 1, .int .i64 ((i : Int) + 1), .string D, .bool true, .int .i64 (q : Int), .int .i64 ((i : Int) + 1)] 37 (0, 0))) := Lib.hid (by rw [HB.out.block g (lt_of_heap HX5.out)]; exact HX5.out)
                obtain ⟨NN2, DM2, hown2, hrd2⟩ := HMt.out
                have HO2 := Lib.hid hown2
                have HRd2 := Lib.hid hrd2
                clear hro2 hown2 hrd2
                obtain ⟨w8, hw8⟩ : ∃ x, x = wr := ⟨_, rfl⟩
                subst hw8
                go_wp2_with (first
                  | (go_at_call 24; with_reducible refine HRo2.out.mono ?_; rintro e w8x ⟨rfl, rfl⟩)
                  | (at_range; refine wpList_range_own _ rfl (.tmp 125) 58 rfl 3 37 (int_keyed Tryz.underlying3) Tryz.underlying58 entR w2.heap.size NN2 DM2 rfl HO2.out ?_; intro wq hrg0 hg0 hs0))
                have hbq : Below w8.heap.size w8 wq := ((But.refl [] w8).grown hg0 (by simp)).to_below (by simp) (Nat.le_refl _)
                have HBq : Hid (But [w2.heap.size] w8 wq) := Lib.hid ((But.of_below hbq).mono (by simp))
                have HRg0 := Lib.hid hrg0
                clear hrg0 hg0 hs0 hbq
                go_frame
                go_loopw [20] (fun gs wz => ∃ (left : Lit → Bool) (cnt : Nat) (DD : DataW Unit) (dl : Nat), gs = .int .i64 (dl : Int) ∧ wz.ranges (H := Unit) Tryz.prog 3 entR w2.heap.size w8.heap.size NN2 DD left cnt ∧ Hid (But [w2.heap.size] w8 wz) ∧ Hid ((dl = 0 ∧ RdsE DD V.e ∧ left (.int .i64 yl.b) = true) ∨ (dl = 1 ∧ RdsE DD (updV V.e yl.b none)))) (fun _ wz => wz.rangeLeft w2.heap.size w8.heap.size)
                case atStart => exact ⟨_, _, _, 0, rfl, HRg0.out, HBq, Lib.hid (.inl ⟨rfl, HRd2.out, by rw [HRd2.out.2.1, HYl.out.1]; rfl⟩)⟩
                case round =>
                  obtain ⟨left, cnt, DD, dl, rfl, hrg, HBz, HDl⟩ := hrel
                  have HRg := Lib.hid hrg
                  have hdl0 : (0 : Int) ≤ (dl : Int) := by omega
                  have hdl1 : (dl : Int) ≤ 1 := by rcases HDl.out with z | z <;> omega
                  have HN8 : Hid (w2.heap.size < w8.heap.size ∧ g ≠ w2.heap.size) := Lib.hid ⟨HMt.out.lt, HGn1.out.2.2.1⟩
                  clear hrg HRg0
                  go_wp2_with (at_next; refine wpList_next_ranges _ rfl (.tmp 126) rfl 3 (int_keyed Tryz.underlying3) entR (Value.int .i64) En.val kinv einv w2.heap.size w8.heap.size NN2 DD left cnt rfl HRg.out ?_ ?_)
                  · intro hc0 hl0
                    have hdel : dl = 1 ∧ RdsE DD (updV V.e yl.b none) := by
                      rcases HDl.out with ⟨_, _, z⟩ | z
                      · rw [hl0] at z; cases z
                      · exact z
                    obtain ⟨rfl, hrdE⟩ := hdel
                    have HRt0 := Lib.hid HRt.out
                    have HXt0 := Lib.hid HXt.out
                    have HMt1 : Hid (MapE wr w2.heap.size (updV V.e yl.b none)) := Lib.hid ⟨NN2, DD, HRg.out.owns, hrdE⟩
                    have HRt1 := Lib.hid (HRt0.out.but HBz.out (by intro z hz hc; simp at hc; subst hc; exact HN5.out hz) (by intro z hz; simp at hz; subst hz; exact HLc.out.od))
                    have HXt1 : Hid (wr.heap[g]? = some (.cells #[.int .i64 (bq : Int), .int .i64 1, .int .i64 ((i : Int) + 1), .string D, .bool true, .int .i64 (q : Int), .int .i64 ((i : Int) + 1)] 37 (0, 0))) := Lib.hid (by rw [HBz.out.block g (lt_of_heap HXt0.out) (by simp; exact HN8.out.2)]; exact HXt0.out)
                    have HKeyE : Hid (∀ b y, updV V.e yl.b none b = some y → 0 ≤ b ∧ b < (G.nb : Int)) := Lib.hid (fun b y hy => by
                      unfold updV at hy
                      split at hy
                      · cases hy
                      · exact HKey.out b y hy)
                    clear HRt HMt HXt hle2 HRo2 hc0 hl0 hrdE
                    have HRt := Lib.hid HRt1.out
                    have HMt := Lib.hid HMt1.out
                    have HXt := Lib.hid HXt1.out
                    clear HRt1 HMt1 HXt1 HRt0 HXt0
                    go_upto_region 36 with fail
                    as_aux_lemma =>
                      go_cut [158] (fun c wx => ∃ cb : Bool, c = .bool cb ∧ wr = wx)
                      case first =>
                        by_cases hic : i < n2
                        · have hicI : (i : Int) < (n2 : Int) := by omega
                          obtain ⟨bB, oB, yB, rfl, hBc⟩ := bool_at HW2.out HRt.out.be hic
                          go_wp2_with fail
                          go_meet
                          exact ⟨yB, rfl, rfl⟩
                        · have hicI : ¬ (i : Int) < (n2 : Int) := by omega
                          go_wp2_with fail
                          go_meet
                          exact ⟨false, rfl, rfl⟩
                      case rest =>
                        obtain ⟨cbv, rfl, hw⟩ := hcut
                        subst hw
                        go_upto_if 158 with fail
                        go_cut [16] (fun _ wx => ∃ (dy : Bool) (V2 : Vi) (B2 : Bk), B2.qB = B.qB ∧ B2.dB = B.dB ∧ Rq w wx B2 G V2 (2 + 4004 * (i : Int) + 4004) ∧ w2.heap.size ∉ B2.l ∧ MapE wx w2.heap.size (updV V.e yl.b none) ∧ wx.heap[g]? = some (.cells #[.int .i64 (bq : Int), .int .i64 1, .int .i64 ((i : Int) + 1), .string D, .bool dy, .int .i64 (q : Int), .int .i64 ((i : Int) + 1)] 37 (0, 0)) ∧ V2.e = updV (updV V.e yl.b none) (bq : Int) (some (entL (bq : Int) (i : Int) (q : Int) D dy)) ∧ V2.k = behind V.k (entL (bq : Int) (i : Int) (q : Int) D true))
                        case first =>
                          cases cbv
                          · go_wp2_with fail
                            go_meet
                            exact ⟨true, V', B1.row r5, HQ.out, HQd.out, HRt.out.mono (by omega), HN5.out, HMt.out, HXt.out, HVt.out.1, HVt.out.2⟩
                          · have hcl := clean_entL (E := V'.e) (k := V'.k) (b := (bq : Int)) (i := (i : Int)) (q := (q : Int)) (D := D) (by rw [HVt.out.1]; exact updV_at _ _ _)
                            have HCl := Lib.hid (HRt.out.cleans (q := B.qB) HQ.out (by omega) (bq : Int) 1 ((i : Int) + 1) (by omega) (by omega) hcl)
                            obtain ⟨g0', g1', g2', g3', g4', g5', g6', _, _⟩ := seven HXt.out
                            clear hcl
                            go_wp2_with (go_at_call 26; with_reducible refine HCl.out.mono ?_; rintro e w9 ⟨rfl, r9, hR9, hbu9, hr9⟩
                                         have HR9 := Lib.hid hR9
                                         have HM9 := Lib.hid (HMt.out.but hbu9 HN5.out)
                                         have HN9 := Lib.hid (row_out HN5.out hr9 HMt.out.lt)
                                         have HG9 := Lib.hid (row_out HGn5.out hr9 (lt_of_heap HXt.out))
                                         have hX9 : w9.heap[g]? = some (.cells #[.int .i64 (bq : Int), .int .i64 1, .int .i64 ((i : Int) + 1), .string D, .bool true, .int .i64 (q : Int), .int .i64 ((i : Int) + 1)] 37 (0, 0)) := by rw [hbu9.block g (lt_of_heap HXt.out) HGn5.out]; exact HXt.out
                                         have HX9 := Lib.hid hX9
                                         obtain ⟨j0', j1', j2', j3', j4', j5', j6', fz', _⟩ := seven hX9
                                         clear hR9 hbu9 hr9 hX9)
                            go_meet
                            exact ⟨false, _, (B1.row r5).row r9, HQ.out, HQd.out, (HR9.out.but ((But.refl [g] w9).set (p := ⟨g, 4, none⟩) _ (.inl (by simp))) (by intro y hy hc; simp at hc; exact HG9.out (hc ▸ hy)) (by intro y hy; simp at hy; subst hy; exact HGn1.out.2.2.2)).mono (by omega), HN9.out, HM9.out.but ((But.refl [g] w9).set (p := ⟨g, 4, none⟩) _ (.inl (by simp))) (by simp; exact fun h => HGn1.out.2.2.1 h.symm), set4 HX9.out _, by show updV V'.e _ _ = _; rw [HVt.out.1, updV_twice], HVt.out.2⟩
                        case rest =>
                          obtain ⟨dy, V2, B2, hq2, hqd2, hR, hN, hM, hX, hVe, hVk⟩ := hcut
                          have HQ2 := Lib.hid hq2
                          have HQd2 := Lib.hid hqd2
                          have HRc := Lib.hid hR
                          have HNc := Lib.hid hN
                          have HXc := Lib.hid hX
                          have HVk := Lib.hid hVk
                          obtain ⟨g0', g1', g2', g3', g4', g5', g6', _, _⟩ := seven hX
                          obtain ⟨w10, hrun, hM10, hbu10⟩ := mape_store hM HKeyE.out (by have := HGn.out.1; omega) (i := (bq : Int)) (by omega) (by omega) (entL (bq : Int) (i : Int) (q : Int) D dy)
                          simp only [En.val, entL] at hrun
                          rw [← hVe] at hM10
                          have HR10 := Lib.hid (hR.but hbu10 (by intro y hy hc; simp at hc; exact hN (hc ▸ hy)) (by intro y hy; simp at hy; subst hy; exact HLc.out.od))
                          have HM10 := Lib.hid hM10
                          have HX10 : Hid (w10.heap[g]? = some (.cells #[.int .i64 (bq : Int), .int .i64 1, .int .i64 ((i : Int) + 1), .string D, .bool dy, .int .i64 (q : Int), .int .i64 ((i : Int) + 1)] 37 (0, 0))) := Lib.hid (by rw [hbu10.block g (lt_of_heap hX) (by simp; exact HGn1.out.2.2.1)]; exact hX)
                          have hkey2 := HR10.out.cs.ok
                          have HKey2 : Hid (∀ b y, V2.e b = some y → 0 ≤ b ∧ b < (G.nb : Int)) := Lib.hid (fun b y hy => hkey2.range hy)
                          obtain ⟨NN4, DM4, hown, hrd⟩ := hM10
                          have HO4 := Lib.hid hown
                          have HRd4 := Lib.hid hrd
                          have HVe := Lib.hid hVe
                          clear hq2 hqd2 hR hN hM hX hVe hVk hbu10 hown hrd hkey2
                          go_wp2_with (first
                            | (at_range; refine wpList_range_own _ rfl (.tmp 171) 58 rfl 3 37 (int_keyed Tryz.underlying3) Tryz.underlying58 entR w2.heap.size NN4 DM4 rfl HO4.out ?_; intro w11 hrg0 hg0 hs0))
                          have HB11 : Hid (Below w10.heap.size w10 w11) := Lib.hid (((But.refl [] w10).grown hg0 (by simp)).to_below (by simp) (Nat.le_refl _))
                          have HRg0 := Lib.hid hrg0
                          clear hrg0 hg0 hs0
                          try go_frame
                          go_loopw [11] (fun ds wz => ∃ (left : Lit → Bool) (cnt dc : Nat), ds = .int .i64 dc ∧ wz.ranges (H := Unit) Tryz.prog 3 entR w2.heap.size w10.heap.size NN4 DM4 left cnt ∧ Below w10.heap.size w10 wz ∧ Hid (dc = dnl G.nb V2.e left)) (fun _ wz => wz.rangeLeft w2.heap.size w10.heap.size)
                          case atStart => exact ⟨_, _, 0, rfl, HRg0.out, HB11.out, Lib.hid (dnl_start (fun b y hy => by rw [HRd4.out.2.1, hy]; rfl)).symm⟩
                          case round =>
                            obtain ⟨left, cnt, dc, rfl, hrg, hb, HDc⟩ := hrel
                            have HRg := Lib.hid hrg
                            have HB := Lib.hid hb
                            have hdc0 : (0 : Int) ≤ (dc : Int) := by omega
                            have hdcI : (dc : Int) ≤ 32 := by have h1 : dnl G.nb V2.e left ≤ G.nb := cnt_le _ _; have := HDc.out; have := HGn.out.1; omega
                            clear hrg hb HRg0 HB11
                            go_wp2_with (at_next; refine wpList_next_ranges _ rfl (.tmp 172) rfl 3 (int_keyed Tryz.underlying3) entR (Value.int .i64) En.val kinv einv w2.heap.size w10.heap.size NN4 DM4 left cnt rfl HRg.out ?_ ?_)
                            · intro hc0 hl0
                              have HDn : Hid (dc = dn G.nb V2.e) := Lib.hid (by rw [HDc.out]; exact dnl_end hl0)
                              clear hc0 hl0
                              as_aux_lemma =>
                                have HM13 := Lib.hid (HM10.out.but (But.of_below HB.out) (by simp))
                                have HR13 := Lib.hid (HR10.out.below HB.out)
                                have HX13 : Hid (∀ w', Below wr.heap.size wr w' → w'.cell? ⟨g, 1, none⟩ = some (.int .i64 1) ∧ w'.cell? ⟨g, 2, none⟩ = some (.int .i64 ((i : Int) + 1)) ∧ (∀ ty, (Builtin.len_ #[58] ty #[.map (some w2.heap.size)]).run Tryz.prog w' = .ok (.int .i64 (num G.nb V2.e : Int)) w')) := Lib.hid (fun w' hb => by
                                  have hx : w'.heap[g]? = some (.cells #[.int .i64 (bq : Int), .int .i64 1, .int .i64 ((i : Int) + 1), .string D, .bool dy, .int .i64 (q : Int), .int .i64 ((i : Int) + 1)] 37 (0, 0)) := by rw [hb.block g (by have := lt_of_heap HX10.out; have := HB.out.size; omega), HB.out.block g (lt_of_heap HX10.out)]; exact HX10.out
                                  obtain ⟨_, x1, x2, _⟩ := seven hx
                                  exact ⟨x1, x2, fun ty => mape_len (HM13.out.but (But.of_below hb) (by simp)) HKey2.out ty⟩)
                                have HF1 := Lib.hid (HX13.out wr (Below.refl _ _))
                                have HF2 := Lib.hid (HX13.out wr.drew (Below.refl _ _).drew)
                                have HAll : Hid (∀ w', Below wr.heap.size wr w' → Calls Tryz.prog 20 #[.pointer (some ⟨B.qB, 0, none⟩)] w' fun e w'' => ∃ a cap, e = .returned (.slice a (num G.nb V2.e) cap) ∧ Below wr.heap.size wr w'') := Lib.hid (fun w' hb => by
                                  refine ((HR13.out.below hb).all (q := B.qB) HQ2.out).mono ?_
                                  rintro e w'' ⟨a, cap, rfl, _, h2⟩
                                  exact ⟨a, cap, rfl, hb.trans (h2.mono hb.size)⟩)
                                have HNum : Hid (∀ (x : Int), x = (q : Int) → ∀ w', Below wr.heap.size wr w' → Calls Tryz.prog 27 #[.pointer (some ⟨B.qB, 0, none⟩), .int .i64 x] w' fun e w'' => e = .returned (.int .i64 ((i : Int) + 1)) ∧ w' = w'') := Lib.hid (fun x hx w' hb => by
                                  subst hx
                                  have := (HR13.out.below hb).num (q := B.qB) HQ2.out (q : Int)
                                  rwa [HVk.out, HKb.out.2.2.2] at this)
                                have HLast : Hid (∀ w', Below wr.heap.size wr w' → Calls Tryz.prog 28 #[.pointer (some ⟨B.qB, 0, none⟩)] w' fun e w'' => e = .returned (.agg #[.int .i64 1, .int .i64 ((i : Int) + 1)]) ∧ Below wr.heap.size wr w'') := Lib.hid (fun w' hb => by
                                  have := (HR13.out.below hb).last (q := B.qB) HQ2.out
                                  rw [HVk.out, HKb.out.2.1, HKb.out.2.2.1] at this
                                  refine this.mono ?_
                                  rintro e w'' ⟨rfl, h2⟩
                                  exact ⟨rfl, hb.trans (h2.mono hb.size)⟩)
                                have hm2I : (num G.nb V2.e : Int) ≤ 32 := by have : num G.nb V2.e ≤ G.nb := cnt_le _ _; have := HGn.out.1; omega
                                have hm20 : (0 : Int) ≤ (num G.nb V2.e : Int) := by omega
                                have hwr : IntKind.i64.wrap ((i : Int) + 1) = (i : Int) + 1 := by have := HI.out; simp [IntKind.wrap, IntKind.bits, IntKind.signed]; omega
                                have htm : ((i : Int)).tmod 4 = (q : Int) := by rw [Int.tmod_eq_emod_of_nonneg (by omega)]; exact hqq
                                have HKk2 : Hid (KOk V2.k ((i : Int) + 1)) := Lib.hid (by rw [HVk.out]; exact HKb.out.1)
                                go_wp2_with fail
                                go_region_held3 (fun w' => w'.cell? ⟨g, 1, none⟩ = some (.int .i64 1) ∧ w'.cell? ⟨g, 2, none⟩ = some (.int .i64 ((i : Int) + 1)) ∧ (∀ ty, (Builtin.len_ #[58] ty #[.map (some w2.heap.size)]).run Tryz.prog w' = .ok (.int .i64 (num G.nb V2.e : Int)) w'))
                                  (first
                                    | exact HF1.out
                                    | exact HF2.out
                                    | exact HF3.out
                                    | exact HF4.out)
                                  (first
                                    | (go_at_call 20; with_reducible refine (HAll.out _ (by first | exact Below.refl _ _ | exact (Below.refl _ _).drew)).mono ?_; rintro e w13 ⟨aA, cA, rfl, hb13⟩
                                       have HB13 := Lib.hid hb13
                                       have HF3 := Lib.hid (HX13.out w13 hb13)
                                       clear hb13)
                                    | (go_at_call 27; with_reducible refine (HNum.out _ (by first | rfl | exact htm | exact hqq) _ HB13.out).mono ?_; rintro e w' ⟨rfl, rfl⟩)
                                    | (go_at_call 28; with_reducible refine (HLast.out _ HB13.out).mono ?_; rintro e w14 ⟨rfl, hb14⟩
                                       have HB14 := Lib.hid hb14
                                       have HF4 := Lib.hid (HX13.out w14 hb14)
                                       clear hb14))
                                all_goals
                                  go_wp2_with fail
                                  go_roundw
                                  case rel => exact ⟨i + 1, B2, V2, by have := HI.out; omega, by have := HI.out; omega, by rw [HDn.out], by go_num, HQ2.out, HQd2.out, ⟨(HR13.out.below HB14.out).mono (by omega), HM13.out.but (But.of_below HB14.out) (by simp), HNc.out, HLc.out.od, by simpa using HKk2.out⟩⟩
                                  case measure => have := HI.out; simp [RowKit.intOf]; omega
                            · intro x1 c kl yd yp w7 cnt2 hkey hlk hv hat hrg2 hlt hg2 hs2 hen
                              obtain ⟨rfl, hEx, hwf⟩ := come_ent HRd4.out hkey hv hat
                              have hb2 := (But.refl [w10.heap.size] wr).grown hg2 (by simp)
                              have hB7 : Below w10.heap.size w10 w7 := HB.out.trans (hb2.to_below (by simp) HB.out.size)
                              have hxr := HKey2.out x1 c hEx
                              have hnb32 := HGn.out.1
                              have HRg2 := Lib.hid (And.intro hrg2 hlt)
                              have HSt := Lib.hid (dnl_step hEx hxr.1 hxr.2 hlk (by simp [Lit.sameKey]))
                              obtain ⟨cb, cp, cq, cd, cy, cc, cn⟩ := c
                              simp only [En.val] at hen
                              have hba := (Below.refl w7.heap.size w7).alloc (Nat.le_refl _) (.cells #[.int .i64 cb, .int .i64 cp, .int .i64 cq, .string cd, .bool cy, .int .i64 cc, .int .i64 cn] 37)
                              have hgt := gets2 ((HR10.out.below (hB7.trans (hba.mono hB7.size)))) (q := B.qB) HQ2.out x1 (by omega) (by omega) (z := ⟨cb, cp, cq, cd, cy, cc, cn⟩) (hd := true) (by rw [hEx]; rfl) (by rw [hEx]; rfl)
                              simp only at hgt
                              have HGt := Lib.hid hgt
                              have HBa := Lib.hid hba
                              have HB7 := Lib.hid hB7
                              have HCn := Lib.hid (EAt.mk7 w7 ⟨cb, cp, cq, cd, cy, cc, cn⟩)
                              clear hkey hlk hv hat hrg2 hlt hg2 hs2 hEx hwf hb2 hB7 hxr hgt hba
                              cases cy with
                              | false =>
                                go_wp2_with (go_at_call 25; with_reducible refine HGt.out.mono ?_; rintro e w12 ⟨rfl, hb12⟩
                                             have hb13 := hb12.trans ((Below.refl w12.heap.size w12).alloc (Nat.le_refl _) (.cells #[.int .i64 cb, .int .i64 cp, .int .i64 cq, .string cd, .bool false, .int .i64 cc, .int .i64 cn] 37) |>.mono hb12.size)
                                             have hb14 := HBa.out.trans (hb13.mono HBa.out.size)
                                             have HB14 := Lib.hid (HB7.out.trans (hb14.mono HB7.out.size))
                                             have HRg3 := Lib.hid (rangesE_but HRg2.out.1 (But.of_below hb14) (by simp) (by simp))
                                             obtain ⟨k0', k1', k2', k3', k4', k5', k6'⟩ := HCn.out.but (But.of_below hb13) (by simp)
                                             simp only at k0' k1' k2' k3' k4' k5' k6'
                                             clear hb12 hb13 hb14)
                                go_roundw
                                case rel => exact ⟨_, cnt2, dc, rfl, HRg3.out, HB14.out, Lib.hid (by rw [HSt.out, HDc.out]; rfl)⟩
                                case measure => rw [HRg3.out.left_eq, HRg.out.left_eq]; exact HRg2.out.2
                              | true =>
                                go_wp2_with (go_at_call 25; with_reducible refine HGt.out.mono ?_; rintro e w12 ⟨rfl, hb12⟩
                                             have hb13 := hb12.trans ((Below.refl w12.heap.size w12).alloc (Nat.le_refl _) (.cells #[.int .i64 cb, .int .i64 cp, .int .i64 cq, .string cd, .bool true, .int .i64 cc, .int .i64 cn] 37) |>.mono hb12.size)
                                             have hb14 := HBa.out.trans (hb13.mono HBa.out.size)
                                             have HB14 := Lib.hid (HB7.out.trans (hb14.mono HB7.out.size))
                                             have HRg3 := Lib.hid (rangesE_but HRg2.out.1 (But.of_below hb14) (by simp) (by simp))
                                             obtain ⟨k0', k1', k2', k3', k4', k5', k6'⟩ := HCn.out.but (But.of_below hb13) (by simp)
                                             simp only at k0' k1' k2' k3' k4' k5' k6'
                                             clear hb12 hb13 hb14)
                                go_roundw
                                case rel => exact ⟨_, cnt2, dc + 1, by go_num, HRg3.out, HB14.out, Lib.hid (by rw [HSt.out, HDc.out]; rfl)⟩
                                case measure => rw [HRg3.out.left_eq, HRg.out.left_eq]; exact HRg2.out.2
                  · intro x1 cc kl yd yp w7 cnt2 hkey hlk hv hat hrg2 hlt hg2 hs2 hen
                    have hb2 : But [w8.heap.size] wr w7 := (But.refl [w8.heap.size] wr).grown hg2 (by simp)
                    have hB7 : But [w2.heap.size] w8 w7 := but_new HBz.out hb2 (by simp)
                    have HB7 := Lib.hid hB7
                    have HRg2 := Lib.hid (And.intro hrg2 hlt)
                    have HR7 := Lib.hid (HRt.out.but hB7 (by intro z hz hc; simp at hc; subst hc; exact HN5.out hz) (by intro z hz; simp at hz; subst hz; exact HLc.out.od))
                    have hEx : V.e x1 = some cc ∧ kl = .int .i64 x1 ∧ (x1 = yl.b → dl = 0) := by
                      rcases HDl.out with ⟨z1, z2, z3⟩ | ⟨z1, z2⟩
                      · obtain ⟨rfl, h2, _⟩ := come_ent z2 hkey hv hat
                        exact ⟨h2, rfl, fun _ => z1⟩
                      · obtain ⟨rfl, h2, _⟩ := come_ent z2 hkey hv hat
                        unfold updV at h2
                        split at h2
                        · cases h2
                        · rename_i hne; exact ⟨h2, rfl, fun e => absurd e hne⟩
                    obtain ⟨hE1, rfl, hdl⟩ := hEx
                    have hxr := HKey.out x1 cc hE1
                    have hnb32 := HGn.out.1
                    have HKey7 := Lib.hid hkey
                    by_cases hxy : x1 = yl.b
                    · obtain rfl : dl = 0 := hdl hxy
                      have hV1 : V'.e x1 = none := by
                        rw [HVt.out.1]
                        unfold updV
                        rw [if_neg (by rw [hxy]; exact HYl.out.2.2), if_pos hxy]
                      have hgt := gets2 HR7.out (q := B.qB) HQ.out x1 (by omega) (by omega) (z := zeroE) (hd := false) (by rw [hV1]; rfl) (by rw [hV1]; rfl)
                      simp only [zeroE] at hgt
                      have HGt := Lib.hid hgt
                      have HXY := Lib.hid hxy
                      have HRd3 : Hid (RdsE DD V.e) := Lib.hid (by rcases HDl.out with ⟨_, z, _⟩ | ⟨z, _⟩; exact z; cases z)
                      clear hkey hlk hv hat hrg2 hlt hg2 hs2 hb2 hB7 hE1 hxr hgt hdl hxy hV1
                      go_wp2_with (first
                        | (go_at_call 25; with_reducible refine HGt.out.mono ?_; rintro e w12 ⟨rfl, hb12⟩
                           have hb13 := hb12.trans ((Below.refl w12.heap.size w12).alloc (Nat.le_refl _) (.cells #[.int .i64 0, .int .i64 0, .int .i64 0, .string ⟨#[]⟩, .bool false, .int .i64 0, .int .i64 0] 37) |>.mono hb12.size)
                           have HB13 : Hid (But [w2.heap.size] w8 (w12.alloc (.cells #[.int .i64 0, .int .i64 0, .int .i64 0, .string ⟨#[]⟩, .bool false, .int .i64 0, .int .i64 0] 37))) := Lib.hid (HB7.out.below hb13 HB7.out.size)
                           have HRg3 := Lib.hid (rangesE_but HRg2.out.1 (But.of_below hb13) (by simp) (by simp))
                           clear hb12 hb13)
                        | (at_delete
                           refine wpList_delete_ranges _ rfl (.tmp 141) (.tmp 142) 58 3 rfl 37 (int_keyed Tryz.underlying3) Tryz.underlying58 entR w2.heap.size w8.heap.size NN2 DD _ cnt2 rfl HRg3.out (.int .i64 x1) (.int .i64 x1) rfl HKey7.out ?_
                           intro w15 cnt3 hrg4 hle4 hmt4
                           have HRg4 := Lib.hid (And.intro hrg4 hle4)
                           have HB15 : Hid (But [w2.heap.size] w8 w15) := Lib.hid (HB13.out.grown hmt4.grown (by intro k hk; injection hk with hk; subst hk; exact .inl (by simp)))
                           clear hrg4 hle4 hmt4
                           go_frame))
                      go_roundw
                      case rel => exact ⟨_, cnt3, _, 1, by rfl, HRg4.out.1, HB15, Lib.hid (.inr ⟨rfl, by have := rdse_del HRd3.out x1; rw [HXY.out] at this ⊢; exact this⟩)⟩
                      case measure => rw [HRg4.out.1.left_eq, HRg.out.left_eq]; exact Nat.lt_of_le_of_lt HRg4.out.2 HRg2.out.2
                    · obtain ⟨z1, hz1⟩ : ∃ z1, V'.e x1 = some z1 := by
                        rw [HVt.out.1]
                        unfold updV
                        by_cases hb1 : x1 = (bq : Int)
                        · rw [if_pos hb1]; exact ⟨_, rfl⟩
                        · rw [if_neg hb1, if_neg hxy, hE1]; exact ⟨_, rfl⟩
                      obtain ⟨cb, cp, cq, cd, cy, cc', cn⟩ := z1
                      have hgt := gets2 HR7.out (q := B.qB) HQ.out x1 (by omega) (by omega) (z := ⟨cb, cp, cq, cd, cy, cc', cn⟩) (hd := true) (by rw [hz1]; rfl) (by rw [hz1]; rfl)
                      simp only at hgt
                      have HGt := Lib.hid hgt
                      have HXY := Lib.hid hxy
                      clear hkey hlk hv hat hrg2 hlt hg2 hs2 hb2 hB7 hE1 hxr hgt hdl hxy hz1
                      go_wp2_with (go_at_call 25; with_reducible refine HGt.out.mono ?_; rintro e w12 ⟨rfl, hb12⟩
                                   have hb13 := hb12.trans ((Below.refl w12.heap.size w12).alloc (Nat.le_refl _) (.cells #[.int .i64 cb, .int .i64 cp, .int .i64 cq, .string cd, .bool cy, .int .i64 cc', .int .i64 cn] 37) |>.mono hb12.size)
                                   have HB13 : Hid (But [w2.heap.size] w8 (w12.alloc (.cells #[.int .i64 cb, .int .i64 cp, .int .i64 cq, .string cd, .bool cy, .int .i64 cc', .int .i64 cn] 37))) := Lib.hid (HB7.out.below hb13 HB7.out.size)
                                   have HRg3 := Lib.hid (rangesE_but HRg2.out.1 (But.of_below hb13) (by simp) (by simp))
                                   clear hb12 hb13)
                      go_roundw
                      case rel =>
                        refine ⟨_, cnt2, DD, dl, rfl, HRg3.out, HB13, Lib.hid ?_⟩
                        rcases HDl.out with ⟨z1, z2, z3⟩ | z
                        · exact .inl ⟨z1, z2, by rw [z3, sameKey_ne (by intro h; injection h with _ h; exact HXY.out h.symm)]; rfl⟩
                        · exact .inr z
                      case measure => rw [HRg3.out.left_eq, HRg.out.left_eq]; exact HRg2.out.2
              · intro x1 c kl yd yp w7 cnt2 hkey hlk hv hat hrg2 hlt hg2 hs2 hen
                obtain ⟨rfl, hEx, hwf⟩ := come_ent HRd.out hkey hv hat
                have hb2 := (But.refl [w5.heap.size] wr).grown hg2 (by simp)
                have HB7 : Hid (Below w5.heap.size w5 w7) := Lib.hid (HB.out.trans (hb2.to_below (by simp) HB.out.size))
                have HRg2 := Lib.hid (And.intro hrg2 hlt)
                have HEx := Lib.hid hEx
                have HC0 : Hid (cnt2 < cnt) := Lib.hid hlt
                obtain ⟨cb, cp, cq, cd, cy, cc, cn⟩ := c
                simp only [En.val] at hen
                have HRg3 := Lib.hid (rangesE_but HRg2.out.1 (But.of_below ((Below.refl w7.heap.size w7).alloc (Nat.le_refl _) (.cells #[.int .i64 cb, .int .i64 cp, .int .i64 cq, .string cd, .bool cy, .int .i64 cc, .int .i64 cn] 37))) (by simp) (by simp))
                have HB8 : Hid (Below w5.heap.size w5 (w7.alloc (.cells #[.int .i64 cb, .int .i64 cp, .int .i64 cq, .string cd, .bool cy, .int .i64 cc, .int .i64 cn] 37))) := Lib.hid (HB7.out.alloc HB7.out.size _)
                clear hkey hlk hv hat hrg2 hlt hg2 hs2 hEx hwf hb2
                cases cy
                · go_wp2
                  go_roundw
                  case rel => exact ⟨_, cnt2, on + 1, by go_num, HRg3.out, HB8.out, by have := HOn.out; have := HC0.out; omega, Lib.hid (fun _ _ _ _ _ => by omega)⟩
                  case measure => rw [HRg3.out.left_eq, HRg.out.left_eq]; exact HRg2.out.2
                · go_wp2
                  go_roundw
                  case rel =>
                    refine ⟨_, cnt2, on, rfl, HRg3.out, HB8.out, by have := HOn.out; have := HC0.out; omega, Lib.hid (fun b y hy hl hd => ?_)⟩
                    by_cases hbx : b = x1
                    · subst hbx
                      rw [HEx.out] at hy
                      injection hy with hy
                      subst hy
                      cases hd
                    · refine HLo.out b y hy ?_ hd
                      have : (Lit.int .i64 b).sameKey (.int .i64 x1) = false := sameKey_ne (by intro h; injection h with _ h; exact hbx h)
                      simpa [this] using hl
                  case measure => rw [HRg3.out.left_eq, HRg.out.left_eq]; exact HRg2.out.2
end Q
end Go.Proofs.YtmcalgnpinolmaaGreat
