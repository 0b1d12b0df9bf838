/-
  Open: the log's records are taken up, one after another.
  A cache that is opened for the first time, and once more; Sync; a ring that is too small.
  What a law's call makes: its own device, its own cache; the literals that lay entries.
  awake: calls whose answers the document fixes.
  awake: the walk.
  Strings, rows of strings, of bools, and what a crash leaves, that a statement is handed, read as in memory.
  Bytes that a statement is handed, read as in memory; the k-th of them, read later.
  What a cache tells of its own memory alone, whatever becomes of the device.
  An act that is none of the device's.
  What a cache tells, in one value.
  What is told twice, and is the same.
  An act too large to be looked at.
  Acts as they lie in memory, and as a statement is handed them; rows of numbers.
  What every law of acts uses: the k-th act, a cache of the call's own, what an act makes.
-/
import Derived.Test.YtmcalgnpinolmaaGreatQB
import Derived.Test.YtmcalgnpinolmaaGreatQC
import Derived.Test.YtmcalgnpinolmaaGreatCel7
import Derived.Test.YtmcalgnpinolmaaGreatQD
import Derived.Test.YtmcalgnpinolmaaGreatSDev2
import Derived.Test.YtmcalgnpinolmaaGreatRows
import Derived.ProofKit
import Derived.OpenShut
import Derived.ShutString
import Derived.ChangeOld
import Derived.SliceStrings
import Derived.Lib.SmallJoins
import Derived.Deep.SlicePairs
import Derived.Deep.Grids
import Derived.BigQuiet
namespace Go.Proofs.YtmcalgnpinolmaaGreat
open Go.RowKit Go.Maps
set_option linter.unusedVariables false
set_option linter.unusedSimpArgs false
set_option maxRecDepth 20000
namespace Q

theorem read_q {qB lB N nb mE : Nat} {k0 : Kp} (w : World) (q : CacheC w qB lB N nb mE k0) (d : Deed) (k : Kp) (hnb : nb ≤ 32) (hd : MayD nb d) (hk : MayK k) :
    Calls Tryz.prog 43 #[.pointer (some ⟨qB, 0, none⟩), .string (txQ d k)] w fun e w' => e = .returned (.tuple #[recV d k, .bool true]) ∧ Below w.heap.size w w' := by
  obtain ⟨p, s, t0, t1, t2, t3⟩ := k
  cases d with
  | lay x =>
    obtain ⟨b, ep, sq, data, dirty, cl, n⟩ := x
    cases dirty with
    | true => exact read_layT w q b ep sq data cl n p s t0 t1 t2 t3 hnb hd hk
    | false => exact read_layF w q b ep sq data cl n p s t0 t1 t2 t3 hnb hd hk
  | clean b ep sq => exact read_clean w q b ep sq p s t0 t1 t2 t3 hnb hd hk
  | drop b => exact read_drop w q b p s t0 t1 t2 t3 hnb hd hk
  | note => exact read_note w q p s t0 t1 t2 t3 hnb hd hk

def Drc := Deed × Kp
def tx1 (x : Deed × Kp) : ByteArray := txQ x.1 x.2

variable {D : M.Dv → Prop} {L : M.Lg} {K : Int} {dB sB mB : Nat} {G : Gm}

theorem take_snoc {α : Type} {l : List α} {k : Nat} {x : α} (h : l[k]? = some x) : l.take (k + 1) = l.take k ++ [x] := by
  rw [List.take_add_one, h]; rfl

theorem may_kp0 : MayK kp0 := ⟨by decide, by decide, by decide, by decide, by decide, by decide⟩

/-- the cells of a cache that is made anew -/
theorem cache_made (w : World) (lB mE : Nat) (N nb : Nat) : CacheC (w.alloc (.cells #[.pointer (some ⟨lB, 0, none⟩), .int .i64 (N : Int), .int .i64 (nb : Int), .map (some mE), .int .i64 0, .int .i64 0, .int .i64 0, .int .i64 0, .int .i64 0, .int .i64 0] 94)) w.heap.size lB N nb mE kp0 where
  p0 := by rw [World.cell?_alloc_mark]; rfl
  p1 := by rw [World.cell?_alloc_mark]; rfl
  p2 := by rw [World.cell?_alloc_mark]; rfl
  p3 := by rw [World.cell?_alloc_mark]; rfl
  p4 := by rw [World.cell?_alloc_mark]; rfl
  p5 := by rw [World.cell?_alloc_mark]; rfl
  p6 := by rw [World.cell?_alloc_mark]; rfl
  p7 := by rw [World.cell?_alloc_mark]; rfl
  p8 := by rw [World.cell?_alloc_mark]; rfl
  p9 := by rw [World.cell?_alloc_mark]; rfl
  fz := fun o => by
    have h := heap_alloc_new w (.cells #[.pointer (some ⟨lB, 0, none⟩), .int .i64 (N : Int), .int .i64 (nb : Int), .map (some mE), .int .i64 0, .int .i64 0, .int .i64 0, .int .i64 0, .int .i64 0, .int .i64 0] 94)
    unfold World.frozen?
    simp only [h]
    simp

set_option maxHeartbeats 4000000 in
theorem open_any (w : World) (ds : List (Deed × Kp)) (hK : K ≤ 1000000000) (hnb1 : 1 ≤ G.nb) (hnb : G.nb ≤ 32) (h8 : 8 ≤ G.N) (hN : G.N ≤ 512)
    (hs : L.rs.map (·.s) = ds.map tx1) (hm : ∀ x ∈ ds, MayD G.nb x.1 ∧ MayK x.2) (hcn : num G.nb (vis (run L.head none0 ds)) ≤ G.N - 6)
    (ho : Calls Tryz.prog 41 #[.pointer (some ⟨dB, 0, none⟩), .int .i64 (G.first : Int), .int .i64 (G.N : Int), .int .i64 (G.a : Int), .int .i64 (G.b : Int)] w fun e w' => ∃ lB cB rb d' c', e = .returned (.tuple #[.pointer (some ⟨lB, 0, none⟩), .int .i64 0]) ∧
      DevAt w' dB sB mB G.n d' ∧ Free d' ∧ LG w' dB sB mB G.n d' lB rb cB G.first G.N G.a G.b c' L K ∧ (w.heap.size ≤ lB ∧ w.heap.size ≤ cB ∧ w.heap.size ≤ rb) ∧ But [dB, sB, mB] w w' ∧ D d') :
    Calls Tryz.prog 17 #[.pointer (some ⟨dB, 0, none⟩), .int .i64 (G.first : Int), .int .i64 (G.N : Int), .int .i64 (G.a : Int), .int .i64 (G.b : Int), .int .i64 (G.nb : Int)] w fun e w' => ∃ (B : Bk) (d' : M.Dv) (c' : M.Cl), e = .returned (.tuple #[.pointer (some ⟨B.qB, 0, none⟩), .int .i64 0]) ∧ B.dB = dB ∧ B.sB = sB ∧ B.mB = mB ∧
      CG w' B G ⟨d', c', L, run L.head none0 ds, lastK kp0 ds, K⟩ ∧ (w.heap.size ≤ B.lB ∧ w.heap.size ≤ B.cB ∧ w.heap.size ≤ B.rb ∧ w.heap.size ≤ B.qB ∧ w.heap.size ≤ B.mE) ∧ But [dB, sB, mB] w w' ∧ D d' := by
  have HO := Lib.hid ho
  have i1 : (1 : Int) ≤ (G.nb : Int) := by omega
  have i2 : (G.nb : Int) ≤ 32 := by omega
  have i3 : (8 : Int) ≤ (G.N : Int) := by omega
  have Hs := Lib.hid hs
  have Hm := Lib.hid hm
  have Hcn := Lib.hid hcn
  have HK := Lib.hid hK
  have Hg := Lib.hid (And.intro hnb1 (And.intro hnb (And.intro h8 hN)))
  clear ho hs hm hcn hK hnb1 hnb h8 hN
  have hmm := @run_makeMap Tryz.prog
  go_enter Tryz.func17, Tryz.ntmps17
  go_wp2_with (go_at_call 41; with_reducible refine HO.out.mono ?_; rintro e w1 ⟨lB, cB, rb, d', c', rfl, hdv, hfr, hlg, hnew, hbut, hD⟩
               have H1 := Lib.hid (And.intro hdv (And.intro hfr (And.intro hlg (And.intro hnew (And.intro hbut hD)))))
               clear hdv hfr hlg hnew hbut hD)
  have HQ0 : Hid (CacheC ((w1.alloc (.map #[] 0)).alloc (.cells #[.pointer (some ⟨lB, 0, none⟩), .int .i64 (G.N : Int), .int .i64 (G.nb : Int), .map (some w1.heap.size), .int .i64 0, .int .i64 0, .int .i64 0, .int .i64 0, .int .i64 0, .int .i64 0] 94)) (w1.heap.size + 1) lB G.N G.nb w1.heap.size kp0) := Lib.hid (by have := cache_made (w1.alloc (.map #[] 0)) lB w1.heap.size G.N G.nb; simpa using this)
  have HM0 : Hid (MapQ ((w1.alloc (.map #[] 0)).alloc (.cells #[.pointer (some ⟨lB, 0, none⟩), .int .i64 (G.N : Int), .int .i64 (G.nb : Int), .map (some w1.heap.size), .int .i64 0, .int .i64 0, .int .i64 0, .int .i64 0, .int .i64 0, .int .i64 0] 94)) w1.heap.size none0) := Lib.hid ((mapq_made w1).but (But.of_below ((Below.refl _ _).alloc (Nat.le_refl _) _)) (by simp))
  have HB0 : Hid (Below w1.heap.size w1 ((w1.alloc (.map #[] 0)).alloc (.cells #[.pointer (some ⟨lB, 0, none⟩), .int .i64 (G.N : Int), .int .i64 (G.nb : Int), .map (some w1.heap.size), .int .i64 0, .int .i64 0, .int .i64 0, .int .i64 0, .int .i64 0, .int .i64 0] 94))) := Lib.hid (((Below.refl _ _).alloc (Nat.le_refl _) _).alloc (by simp) _)
  have hlen : L.rs.length = ds.length := by have := congrArg List.length Hs.out; simpa using this
  have HRc : Hid (∀ w', Below w1.heap.size w1 w' → Calls Tryz.prog 42 #[.pointer (some ⟨lB, 0, none⟩)] w' fun e w'' => ∃ a cap, e = .returned (.slice a ds.length cap) ∧ C.Own 9 w'' w'.heap.size a ds.length cap (C.strs (ds.map tx1)) ∧ Below w'.heap.size w' w'') := Lib.hid (fun w' hb => by
    have := records_any w' L (H1.out.2.2.1.below hb).la
    rw [Hs.out, hlen] at this
    exact this)
  clear hlen
  have HRd : Hid (∀ (w' : World) (k0 : Kp) (x : Deed × Kp), CacheC w' (w1.heap.size + 1) lB G.N G.nb w1.heap.size k0 → x ∈ ds → Calls Tryz.prog 43 #[.pointer (some ⟨w1.heap.size + 1, 0, none⟩), .string (tx1 x)] w' fun e w'' => e = .returned (.tuple #[recV x.1 x.2, .bool true]) ∧ Below w'.heap.size w' w'') := Lib.hid (fun w' k0 x q hx => read_q w' q x.1 x.2 Hg.out.2.1 (Hm.out x hx).1 (Hm.out x hx).2)
  have HE : Hid (∀ k, ∀ b y, run L.head none0 (ds.take k) b = some y → 0 ≤ b ∧ b < (G.nb : Int)) := Lib.hid (fun k b y hy => (run_ok (OkE.none G.nb L.head) (Int.le_refl _) (l := ds.take k) (fun x hx => (Hm.out x (List.mem_of_mem_take hx)).1)).range hy)
  have HDo : Hid (∀ (w' : World) (k0 : Kp) (k : Nat) (x : Deed × Kp), CacheC w' (w1.heap.size + 1) lB G.N G.nb w1.heap.size k0 → MapQ w' w1.heap.size (run L.head none0 (ds.take k)) → ds[k]? = some x → Calls Tryz.prog 44 #[.pointer (some ⟨w1.heap.size + 1, 0, none⟩), recV x.1 x.2, .int .i64 (L.head + (k : Int))] w' fun e w'' => e = .returned (.tuple #[]) ∧ CacheC w'' (w1.heap.size + 1) lB G.N G.nb w1.heap.size (lastK kp0 (ds.take (k + 1))) ∧ MapQ w'' w1.heap.size (run L.head none0 (ds.take (k + 1))) ∧ But [w1.heap.size + 1, w1.heap.size] w' w'') := Lib.hid (fun w' k0 k x q hmq hx => by
    have hxm := (List.getElem?_eq_some_iff.1 hx)
    have := do_any w' q hmq (by omega) (HE.out k) Hg.out.2.1 x.1 (Hm.out x (List.mem_of_getElem? hx)).1 x.2 (L.head + (k : Int))
    rw [take_snoc hx, lastK_snoc, run_snoc, List.length_take, Nat.min_eq_left (by have := hxm.1; omega)]
    exact this)
  have HLh : Hid (∀ w', But [w1.heap.size + 1, w1.heap.size] ((w1.alloc (.map #[] 0)).alloc (.cells #[.pointer (some ⟨lB, 0, none⟩), .int .i64 (G.N : Int), .int .i64 (G.nb : Int), .map (some w1.heap.size), .int .i64 0, .int .i64 0, .int .i64 0, .int .i64 0, .int .i64 0, .int .i64 0] 94)) w' → Calls Tryz.prog 45 #[.pointer (some ⟨lB, 0, none⟩)] w' fun e w'' => e = .returned (.int .i64 L.head) ∧ w' = w'') := Lib.hid (fun w' hb => by
    have h0 := (H1.out.2.2.1.below HB0.out)
    have l1 := H1.out.2.2.1.la.lt
    have l2 := H1.out.2.2.1.ca.lt
    exact head_lg w' (h0.but hb (by simp; omega) (by simp; omega) (by simp; omega)))
  have HH : Hid (1 ≤ L.head ∧ L.head + (ds.length : Int) ≤ 1000000000) := Lib.hid (by
    have h1 := H1.out.2.2.1.gd.ring.h1
    have h2 := H1.out.2.2.1.gd.tail
    have h3 := HK.out
    have h4 : L.rs.length = ds.length := by have := congrArg List.length Hs.out; simpa using this
    unfold M.Lg.tail at h2
    omega)
  go_wp2_with (go_at_call 42; with_reducible refine (HRc.out _ HB0.out).mono ?_; rintro e w2 ⟨a, cap, rfl, hown, hb2⟩
               have HOw := Lib.hid hown
               have HB2 := Lib.hid hb2
               clear hown hb2)
  have HW2 : Hid (CacheC w2 (w1.heap.size + 1) lB G.N G.nb w1.heap.size kp0 ∧ MapQ w2 w1.heap.size none0 ∧ But [] ((w1.alloc (.map #[] 0)).alloc (.cells #[.pointer (some ⟨lB, 0, none⟩), .int .i64 (G.N : Int), .int .i64 (G.nb : Int), .map (some w1.heap.size), .int .i64 0, .int .i64 0, .int .i64 0, .int .i64 0, .int .i64 0, .int .i64 0] 94)) w2) := Lib.hid ⟨HQ0.out.below HB2.out HQ0.out.lt, HM0.out.but (But.of_below HB2.out) (by simp), But.of_below HB2.out⟩
  have HRow : Hid (∀ wr (k : Nat) x, ds[k]? = some x → But [w1.heap.size + 1, w1.heap.size] w2 wr → ∃ g, a = some ⟨g, 0, none⟩ ∧ wr.cell? ⟨g, k, none⟩ = some (.string (tx1 x))) := Lib.hid (fun wr k x hx hb => by
    have hk : k < ds.length := (List.getElem?_eq_some_iff.1 hx).1
    obtain ⟨hr, ho⟩ := C.own_row HOw.out
    obtain ⟨g, o, t, ha, hg, ht, hcell⟩ := C.row_str hr k hk
    obtain ⟨hge, rfl⟩ := ho g o ha
    rw [List.getElem?_map, hx] at ht
    injection ht with ht
    subst ht
    rw [Nat.zero_add] at hcell
    refine ⟨g, ha, ?_⟩
    rw [hb.cell hg (by simp at hge; simp; omega)]
    exact hcell)
  have hcapI : (ds.length : Int) ≤ (ds.length : Int) := Int.le_refl _
  clear HRc HQ0 HM0 hcapI
  go_loopw [52] (fun i wr => ∃ (k : Nat), k ≤ ds.length ∧ i = .int .i64 k ∧ CacheC wr (w1.heap.size + 1) lB G.N G.nb w1.heap.size (lastK kp0 (ds.take k)) ∧ MapQ wr w1.heap.size (run L.head none0 (ds.take k)) ∧ But [w1.heap.size + 1, w1.heap.size] w2 wr) (fun i _ => ds.length - (RowKit.intOf i).toNat)
  case atStart => exact ⟨0, Nat.zero_le _, rfl, HW2.out.1, HW2.out.2.1, But.refl _ _⟩
  case round =>
    obtain ⟨k, hk, rfl, hc, hmq, hb⟩ := hrel
    have HC := Lib.hid hc
    have HMq := Lib.hid hmq
    have HB := Lib.hid hb
    clear hc hmq hb
    by_cases hkl : k < ds.length
    · obtain ⟨x, hx⟩ : ∃ x, ds[k]? = some x := ⟨_, List.getElem?_eq_getElem hkl⟩
      obtain ⟨g, rfl, hcell⟩ := HRow.out wr k x hx HB.out
      have hkI : (k : Int) < (ds.length : Int) := by omega
      have hkC : (k : Int) < 9223372036854775807 := by have := HH.out; omega
      have hadd : IntKind.i64.wrap (L.head + (k : Int)) = L.head + (k : Int) := by have := HH.out; simp [IntKind.wrap, IntKind.bits, IntKind.signed]; omega
      have hadd1 : IntKind.i64.wrap ((k : Int) + 1) = (k : Int) + 1 := by have := HH.out; simp [IntKind.wrap, IntKind.bits, IntKind.signed]; omega
      have HX := Lib.hid hx
      have HRd1 := Lib.hid (HRd.out wr _ x HC.out (List.mem_of_getElem? hx))
      obtain ⟨td, vd, hv⟩ := x.1.val_iface
      have hrv : recV x.1 x.2 = .agg #[.iface td vd, .int .i64 x.2.ep, .int .i64 x.2.sq, .int .i64 x.2.t0, .int .i64 x.2.t1, .int .i64 x.2.t2, .int .i64 x.2.t3] := by unfold recV; rw [hv]
      rw [hrv] at HRd1
      have HDo1 : Hid (∀ (w' : World) (at' : Int), at' = L.head + (k : Int) → But [] wr w' → Calls Tryz.prog 44 #[.pointer (some ⟨w1.heap.size + 1, 0, none⟩), .agg #[.iface td vd, .int .i64 x.2.ep, .int .i64 x.2.sq, .int .i64 x.2.t0, .int .i64 x.2.t1, .int .i64 x.2.t2, .int .i64 x.2.t3], .int .i64 at'] w' fun e w'' => e = .returned (.tuple #[]) ∧ CacheC w'' (w1.heap.size + 1) lB G.N G.nb w1.heap.size (lastK kp0 (ds.take (k + 1))) ∧ MapQ w'' w1.heap.size (run L.head none0 (ds.take (k + 1))) ∧ But [w1.heap.size + 1, w1.heap.size] w' w'') := Lib.hid (fun w' at' ha hb => by
        subst ha
        have := HDo.out w' _ k x (HC.out.but hb (by simp)) (HMq.out.but hb (by simp)) HX.out
        rwa [hrv] at this)
      have HLh1 : Hid (∀ w', But [] wr w' → Calls Tryz.prog 45 #[.pointer (some ⟨lB, 0, none⟩)] w' fun e w'' => e = .returned (.int .i64 L.head) ∧ w' = w'') := Lib.hid (fun w' hb => HLh.out w' (((HW2.out.2.2.mono (by simp)).trans HB.out).trans (hb.mono (by simp))))
      clear hx hv hrv hkl hk
      go_wp2_with (go_at_call 43; with_reducible refine HRd1.out.mono ?_; rintro e w3 ⟨rfl, hb3⟩
                   have HB3 := Lib.hid hb3
                   clear hb3)
      have HX0 : Hid (∀ w', (∃ q, But q (w3.alloc (.cells #[.iface td vd, .int .i64 x.2.ep, .int .i64 x.2.sq, .int .i64 x.2.t0, .int .i64 x.2.t1, .int .i64 x.2.t2, .int .i64 x.2.t3] 98)) w' ∧ w3.heap.size ∉ q) → w'.cell? ⟨w3.heap.size, 0, none⟩ = some (.iface td vd) ∧ w'.cell? ⟨w3.heap.size, 1, none⟩ = some (.int .i64 x.2.ep) ∧ w'.cell? ⟨w3.heap.size, 2, none⟩ = some (.int .i64 x.2.sq) ∧ w'.cell? ⟨w3.heap.size, 3, none⟩ = some (.int .i64 x.2.t0) ∧ w'.cell? ⟨w3.heap.size, 4, none⟩ = some (.int .i64 x.2.t1) ∧ w'.cell? ⟨w3.heap.size, 5, none⟩ = some (.int .i64 x.2.t2) ∧ w'.cell? ⟨w3.heap.size, 6, none⟩ = some (.int .i64 x.2.t3)) := Lib.hid (fun w' hq => by
        obtain ⟨q, hb, hn⟩ := hq
        refine ⟨?_, ?_, ?_, ?_, ?_, ?_, ?_⟩
        all_goals (rw [hb.cell (by simp) hn, World.cell?_alloc_mark]; rfl))
      have HS0 := Lib.hid (HX0.out (w3.alloc (.cells #[.iface td vd, .int .i64 x.2.ep, .int .i64 x.2.sq, .int .i64 x.2.t0, .int .i64 x.2.t1, .int .i64 x.2.t2, .int .i64 x.2.t3] 98)).drew ⟨[], (But.refl _ _).drew, by simp⟩)
      have HB4 : Hid (But [] wr (w3.alloc (.cells #[.iface td vd, .int .i64 x.2.ep, .int .i64 x.2.sq, .int .i64 x.2.t0, .int .i64 x.2.t1, .int .i64 x.2.t2, .int .i64 x.2.t3] 98)).drew) := Lib.hid (But.of_below (HB3.out.alloc HB3.out.size _).drew)
      have HN : Hid (w3.heap.size ∉ [w1.heap.size + 1, w1.heap.size]) := Lib.hid (by
        have h1 := HB3.out.size
        have h2 := HB.out.size
        have h3 := HB2.out.size
        simp at h3; simp; omega)
      go_region_held3 (fun w' => w'.cell? ⟨w3.heap.size, 0, none⟩ = some (.iface td vd) ∧ w'.cell? ⟨w3.heap.size, 1, none⟩ = some (.int .i64 x.2.ep) ∧ w'.cell? ⟨w3.heap.size, 2, none⟩ = some (.int .i64 x.2.sq) ∧ w'.cell? ⟨w3.heap.size, 3, none⟩ = some (.int .i64 x.2.t0) ∧ w'.cell? ⟨w3.heap.size, 4, none⟩ = some (.int .i64 x.2.t1) ∧ w'.cell? ⟨w3.heap.size, 5, none⟩ = some (.int .i64 x.2.t2) ∧ w'.cell? ⟨w3.heap.size, 6, none⟩ = some (.int .i64 x.2.t3))
        (first
          | with_reducible exact HS0.out
          | with_reducible exact HS1.out)
        (first
          | (go_at_call 45; with_reducible refine (HLh1.out _ HB4.out).mono ?_; rintro e w4 ⟨rfl, rfl⟩)
          | (go_at_call 44; with_reducible refine (HDo1.out _ _ (by first | rfl | exact hadd) HB4.out).mono ?_; rintro e w5 ⟨rfl, hc5, hm5, hb5⟩
             have H5 := Lib.hid (And.intro hc5 (And.intro hm5 hb5))
             have HS1 := Lib.hid (HX0.out w5 ⟨[w1.heap.size + 1, w1.heap.size], ((But.refl [w1.heap.size + 1, w1.heap.size] (w3.alloc (.cells #[.iface td vd, .int .i64 x.2.ep, .int .i64 x.2.sq, .int .i64 x.2.t0, .int .i64 x.2.t1, .int .i64 x.2.t2, .int .i64 x.2.t3] 98))).drew).trans hb5, HN.out⟩)
             clear hc5 hm5 hb5))
      all_goals
        go_wp2_with fail
        go_roundw
        case rel => exact ⟨k + 1, by have := (List.getElem?_eq_some_iff.1 HX.out).1; omega, by go_num, H5.out.1, H5.out.2.1, (HB.out.trans (HB4.out.mono (by simp))).trans H5.out.2.2⟩
        case measure => have := (List.getElem?_eq_some_iff.1 HX.out).1; simp [RowKit.intOf]; omega
    · obtain rfl : k = ds.length := by omega
      have hltI : ¬ (ds.length : Int) < (ds.length : Int) := by omega
      have HF : Hid (CG wr ⟨dB, sB, mB, lB, rb, cB, w1.heap.size + 1, w1.heap.size⟩ G ⟨d', c', L, run L.head none0 ds, lastK kp0 ds, K⟩ ∧ But [dB, sB, mB] w wr) := Lib.hid (by
        obtain ⟨hdv, hfr, hlg, hnew, hbut, hD⟩ := H1.out
        have q1 := hdv.ltD
        have q2 := hdv.lt
        have q3 := hdv.pend.lt
        have q4 := hlg.la.lt
        have q5 := hlg.ca.lt
        have hb1 : But [w1.heap.size + 1, w1.heap.size] w1 wr := (((But.of_below HB0.out).mono (by simp)).trans (HW2.out.2.2.mono (by simp))).trans HB.out
        have hc := HC.out
        have hm := HMq.out
        rw [List.take_length] at hc hm
        refine ⟨⟨hdv.but hb1 (by simp; omega) (by simp; omega) (by simp; omega), hfr, hlg.but hb1 (by simp; omega) (by simp; omega) (by simp; omega), hc, hm, ⟨by simp only; omega, by simp only; omega⟩, ⟨⟨ds, Hs.out, Hm.out, rfl, rfl⟩, Hcn.out, Hg.out.2.2.1, Hg.out.2.1, ?_⟩⟩, ?_⟩
        · unfold lastK
          cases hl : ds.getLast? with
          | none => exact may_kp0
          | some y => exact (Hm.out y (List.mem_of_getLast? hl)).2
        · exact but_new hbut hb1 (by have := hbut.size; simp; omega))
      clear hkl hk
      go_wp2_with fail
      obtain ⟨hdv, hfr, hlg, hnew, hbut, hD⟩ := H1.out
      have hs1 := hbut.size
      have hs2 : w.heap.size ≤ w1.heap.size + 1 := by omega
      refine bodyPost_ret_by ?_ rfl ⟨⟨dB, sB, mB, lB, rb, cB, w1.heap.size + 1, w1.heap.size⟩, rfl, rfl, rfl, rfl, d', ⟨c', HF.out.1⟩, ⟨hnew.1, hnew.2.1, hnew.2.2, hs2, hs1⟩, HF.out.2, hD⟩
      simp [results, Tryz.results17, go_sem]
end Q
end Go.Proofs.YtmcalgnpinolmaaGreat
namespace Go.Proofs.YtmcalgnpinolmaaGreat
open Go.RowKit Go.Maps
set_option linter.unusedVariables false
set_option linter.unusedSimpArgs false
set_option maxRecDepth 20000
namespace Q
variable {B : Bk} {G : Gm} {s : St} {dB sB mB : Nat} {d : M.Dv}

theorem sync_cg (w : World) (h : CG w B G s) : Calls Tryz.prog 36 #[.pointer (some ⟨B.qB, 0, none⟩)] w fun e w' => e = .returned (.int .i64 0) ∧ ∃ d', CG w' B G ⟨d', s.c, s.L, s.E, s.k, s.K⟩ ∧ (∀ j : Nat, M.seen d' j = M.seen s.d j) ∧ (∀ k, d'.P k = none) ∧ But [B.dB, B.sB, B.mB] w w' := by
  have p0 := h.qc.p0
  have HS := Lib.hid (sync_lg w h.dv h.fr h.lg)
  have H := Lib.hid h
  clear h
  go_enter Tryz.func36, Tryz.ntmps36
  go_wp2_with (go_at_call 54; with_reducible refine HS.out.mono ?_; rintro e w1 ⟨rfl, d', hd', hf', hl', hb, hsn, hP⟩
               have H1 := Lib.hid (And.intro hd' (And.intro hf' (And.intro hl' (And.intro hb (And.intro hsn hP)))))
               clear hd' hf' hl' hb hsn hP)
  go_ret
  obtain ⟨hd', hf', hl', hb, hsn, hP⟩ := H1.out
  have s1 := H.out.sp.q
  have s2 := H.out.sp.m
  exact ⟨rfl, d', ⟨hd', hf', hl', H.out.qc.but hb (by simp; omega), H.out.mp.but hb (by simp; omega), H.out.sp, H.out.hd⟩, hsn, hP, hb⟩

theorem num_none (nb : Nat) : num nb (vis none0) = 0 := by
  unfold num
  induction nb with
  | zero => rfl
  | succ n ih => show cnt n _ + _ = 0; rw [ih]; rfl

theorem open_first (w : World) (hd : DevAt w dB sB mB G.n d) (hf : Free d) (hgeo : Geo G.n G.first G.N G.a G.b) (hz : ∀ j : Nat, (G.first ≤ j ∧ j < G.first + G.N) ∨ j = G.a ∨ j = G.b → M.seen d j = M.zero) (hnb1 : 1 ≤ G.nb) (hnb : G.nb ≤ 32) (h8 : 8 ≤ G.N) :
    Calls Tryz.prog 17 #[.pointer (some ⟨dB, 0, none⟩), .int .i64 (G.first : Int), .int .i64 (G.N : Int), .int .i64 (G.a : Int), .int .i64 (G.b : Int), .int .i64 (G.nb : Int)] w fun e w' => ∃ (B : Bk) (d' : M.Dv) (c' : M.Cl), e = .returned (.tuple #[.pointer (some ⟨B.qB, 0, none⟩), .int .i64 0]) ∧ B.dB = dB ∧ B.sB = sB ∧ B.mB = mB ∧
      CG w' B G ⟨d', c', ⟨1, 1, 0, []⟩, none0, kp0, 2⟩ ∧ (w.heap.size ≤ B.lB ∧ w.heap.size ≤ B.cB ∧ w.heap.size ≤ B.rb ∧ w.heap.size ≤ B.qB ∧ w.heap.size ≤ B.mE) ∧ But [dB, sB, mB] w w' ∧ ((∀ j : Nat, j ≠ G.a → j ≠ G.b → M.seen d' j = M.seen d j) ∧ ∀ k, d'.P k = none) :=
  open_any (D := fun d' => (∀ j : Nat, j ≠ G.a → j ≠ G.b → M.seen d' j = M.seen d j) ∧ ∀ k, d'.P k = none) (L := ⟨1, 1, 0, []⟩) (K := 2) w [] (by decide) hnb1 hnb h8 (by have := hgeo.fn; have := hgeo.n5; omega) rfl (by simp) (by show num G.nb (vis none0) ≤ _; rw [num_none]; omega) (open_new w hd hf hgeo hz)

theorem open_over (w : World) (hd : DevAt w dB sB mB G.n s.d) (hf : Free s.d) (hg : M.Good (M.seen s.d) s.K G.first G.N G.a G.b s.c s.L) (hgeo : Geo G.n G.first G.N G.a G.b) (hh : Hold G.nb G.N s.L s.E s.k) (hK : s.K + 1 ≤ 1000000000) (hnb1 : 1 ≤ G.nb) :
    Calls Tryz.prog 17 #[.pointer (some ⟨dB, 0, none⟩), .int .i64 (G.first : Int), .int .i64 (G.N : Int), .int .i64 (G.a : Int), .int .i64 (G.b : Int), .int .i64 (G.nb : Int)] w fun e w' => ∃ (B : Bk) (d' : M.Dv) (c' : M.Cl), e = .returned (.tuple #[.pointer (some ⟨B.qB, 0, none⟩), .int .i64 0]) ∧ B.dB = dB ∧ B.sB = sB ∧ B.mB = mB ∧
      CG w' B G ⟨d', c', s.L.anew, s.E, s.k, s.K + 1⟩ ∧ (w.heap.size ≤ B.lB ∧ w.heap.size ≤ B.cB ∧ w.heap.size ≤ B.rb ∧ w.heap.size ≤ B.qB ∧ w.heap.size ≤ B.mE) ∧ But [dB, sB, mB] w w' ∧ ((∀ j : Nat, j ≠ G.a → j ≠ G.b → M.seen d' j = M.seen s.d j) ∧ ∀ k, d'.P k = none) := by
  obtain ⟨ds, h1, h2, h3, h4⟩ := hh.says
  have hcn := hh.cn
  rw [h3] at hcn
  have := open_any (D := fun d' => (∀ j : Nat, j ≠ G.a → j ≠ G.b → M.seen d' j = M.seen s.d j) ∧ ∀ k, d'.P k = none) (L := s.L.anew) (K := s.K + 1) w ds hK hnb1 hh.nb hh.n8 (by have := hgeo.fn; have := hgeo.n5; omega) h1 h2 hcn (open_again w hd hf hgeo (by omega) hg)
  rw [h3, h4]
  exact this

/-- a ring that is too small -/
theorem open_few (w : World) (a1 a2 a3 a4 a5 a6 : Int) (h : a3 < 8) (hn : 1 ≤ a6 ∧ a6 ≤ 32) (v : Value) : Calls Tryz.prog 17 #[v, .int .i64 a2, .int .i64 a3, .int .i64 a4, .int .i64 a5, .int .i64 a6] w fun e w' => e = .returned (.tuple #[.pointer none, .int .i64 1]) ∧ w = w' := by
  obtain ⟨h1, h2⟩ := hn
  go_enter Tryz.func17, Tryz.ntmps17
  go_wp2_with fail
  go_ret2
  exact ⟨rfl, rfl⟩
end Q
end Go.Proofs.YtmcalgnpinolmaaGreat
namespace Go.Proofs.YtmcalgnpinolmaaGreat
open Go.RowKit Go.Maps
set_option linter.unusedVariables false
set_option linter.unusedSimpArgs false
set_option maxRecDepth 20000
namespace Q
variable {w0 : World} {B : Bk} {G : Gm} {V V' : Vi} {K K' : Int}

/-- a cache of the call's own -/
structure Rq (w0 w : World) (B : Bk) (G : Gm) (V : Vi) (K : Int) : Prop where
  cs : Cs w B G V K
  be : Below w0.heap.size w0 w
  od : ∀ x ∈ B.l, w0.heap.size ≤ x

theorem Rq.below {w w' : World} (h : Rq w0 w B G V K) (hb : Below w.heap.size w w') : Rq w0 w' B G V K := ⟨h.cs.below hb, h.be.trans (hb.mono h.be.size), h.od⟩
theorem Rq.mono {w : World} (h : Rq w0 w B G V K) (hk : K ≤ K') : Rq w0 w B G V K' := ⟨h.cs.mono hk, h.be, h.od⟩
theorem Rq.after {w w' : World} (h : Rq w0 w B G V K) (a : After w B G V' K' w') : ∃ r, Rq w0 w' (B.row r) G V' K' ∧ (r = B.rb ∨ w.heap.size ≤ r) ∧ But B.l w w' := by
  obtain ⟨r, h1, h2, h3⟩ := a
  refine ⟨r, ⟨h1, h.be.trans (h3.to_below h.od h.be.size), fun x hx => ?_⟩, h2, h3⟩
  rcases row_l h2 x hx with g | g
  · exact h.od x g
  · exact Nat.le_trans h.be.size g

theorem u8_mod (x : Int) (k : Nat) (hk : 0 < k) (h : (Lit.int .u8 x).wf = true) {kI : Int} (hkI : kI = (k : Int)) : ∃ r : Nat, r < k ∧ x.tmod kI = (r : Int) := by
  subst hkI
  have hx : 0 ≤ x := by
    simp [Lit.wf, IntKind.min, IntKind.max, IntKind.signed, IntKind.bits] at h
    omega
  have h1 : 0 ≤ x.tmod k := Int.tmod_nonneg _ hx
  have h2 : x.tmod k < k := Int.tmod_lt_of_pos _ (by omega)
  exact ⟨(x.tmod k).toNat, by omega, by omega⟩

/-- a new device, and a cache that is opened on it -/
theorem fresh_open (w w1 : World) (hb : Below w.heap.size w w1) {dB sB mB : Nat} (hd : DevAt w1 dB sB mB G.n M.fresh) (ho : w.heap.size ≤ dB ∧ w.heap.size ≤ sB ∧ w.heap.size ≤ mB) (hgeo : Geo G.n G.first G.N G.a G.b) (hnb1 : 1 ≤ G.nb) (hnb : G.nb ≤ 32) (h8 : 8 ≤ G.N)
    {x1 x2 x3 x4 x5 : Int} (e1 : x1 = (G.first : Int)) (e2 : x2 = (G.N : Int)) (e3 : x3 = (G.a : Int)) (e4 : x4 = (G.b : Int)) (e5 : x5 = (G.nb : Int)) :
    Calls Tryz.prog 17 #[.pointer (some ⟨dB, 0, none⟩), .int .i64 x1, .int .i64 x2, .int .i64 x3, .int .i64 x4, .int .i64 x5] w1 fun e w' => ∃ (B : Bk) (d' : M.Dv) (c' : M.Cl), e = .returned (.tuple #[.pointer (some ⟨B.qB, 0, none⟩), .int .i64 0]) ∧ B.dB = dB ∧ B.sB = sB ∧ B.mB = mB ∧
      CG w' B G ⟨d', c', ⟨1, 1, 0, []⟩, none0, kp0, 2⟩ ∧ (∀ k, d'.P k = none) ∧ (∀ x ∈ B.l, w.heap.size ≤ x) ∧ Below w.heap.size w w' := by
  subst e1 e2 e3 e4 e5
  refine (open_first w1 hd Free.fresh hgeo (fun j _ => rfl) hnb1 hnb h8).mono ?_
  rintro e w' ⟨B, d', c', rfl, rfl, rfl, rfl, hc, hn, hbu, hs, hP⟩
  have hsz := hb.size
  refine ⟨B, d', c', rfl, rfl, rfl, rfl, hc, hP, ?_, hb.trans (hbu.to_below (by simp; omega) hb.size)⟩
  simp [Bk.l]
  omega

theorem CG.run {w : World} {d' : M.Dv} {c' : M.Cl} (h : CG w B G ⟨d', c', ⟨1, 1, 0, []⟩, none0, kp0, 2⟩) : Cs w B G ⟨vis none0, kp0⟩ 2 := ⟨_, h, rfl, rfl, Int.le_refl _, by simp⟩

/-- the law's own Open -/
theorem law_open (w0 w : World) (hb : Below w0.heap.size w0 w) (x : Int) (wf : (Lit.int .u8 x).wf = true) :
    Calls Tryz.prog 12 #[.int .u8 x] w fun e w' => ∃ (B : Bk) (N : Nat), 8 ≤ N ∧ N ≤ 37 ∧ x.tmod 30 + 8 = (N : Int) ∧ e = .returned (.tuple #[.pointer (some ⟨B.dB, 0, none⟩), .pointer (some ⟨B.qB, 0, none⟩), .int .i64 (N : Int)]) ∧ Rq w0 w' B ⟨N + 2, 2, N, 0, 1, 32⟩ ⟨vis none0, kp0⟩ 2 ∧ (∀ y ∈ B.l, w.heap.size ≤ y) ∧ Below w.heap.size w w' := by
  obtain ⟨r, hr, hrm⟩ := u8_mod x 30 (by decide) wf (kI := 30) rfl
  have hrI : (r : Int) < 30 := by omega
  have hr0 : (0 : Int) ≤ (r : Int) := by omega
  have Hr := Lib.hid hr
  have HB := Lib.hid hb
  have HN := Lib.hid (new_yes (r + 10) (by omega) w)
  have hx : (((r + 10 : Nat) : Int)) = (r : Int) + 8 + 2 := by omega
  rw [hx] at HN
  clear wf hr hb hx
  go_enter Tryz.func12, Tryz.ntmps12
  go_wp2_with (first
    | (go_at_call 34; with_reducible refine HN.out.mono ?_; rintro e w1 ⟨dB, sB, mB, rfl, hD, hb1, l1, l2, l3⟩
       have HO := Lib.hid (fresh_open (G := ⟨r + 10, 2, r + 8, 0, 1, 32⟩) w w1 hb1 hD ⟨l1, l2, l3⟩ ⟨by simp, by simp, by simp, by simp; omega, by simp, by simp, by simp, by have := Hr.out; simp; omega⟩ (by simp) (by simp) (by simp) (x1 := 2) (x2 := (r : Int) + 8) (x3 := 0) (x4 := 1) (x5 := 32) rfl (by simp) rfl rfl rfl)
       clear hD hb1 l1 l2 l3)
    | (go_at_call 17; with_reducible refine HO.out.mono ?_; rintro e w2 ⟨B, d', c', rfl, h1, h2, h3, hc, hP, ho, hb2⟩
       have HC := Lib.hid (And.intro h1 (And.intro hc (And.intro ho hb2)))
       clear h1 h2 h3 hc hP ho hb2))
  obtain ⟨rfl, hc, ho, hb2⟩ := HC.out
  have hs0 := HB.out.size
  refine bodyPost_ret_by ?_ rfl ⟨B, r + 8, by omega, by have := Hr.out; omega, by rw [hrm]; simp, rfl, ⟨hc.run, HB.out.trans (hb2.mono hs0), fun y hy => Nat.le_trans hs0 (ho y hy)⟩, ho, hb2⟩
  simp [results, Tryz.results12, go_sem]
end Q
end Go.Proofs.YtmcalgnpinolmaaGreat
namespace Go.Proofs.YtmcalgnpinolmaaGreat
open Go.RowKit Go.Maps
set_option linter.unusedVariables false
set_option linter.unusedSimpArgs false
set_option maxRecDepth 20000
namespace Q
variable {w0 : World} {B : Bk} {G : Gm} {V V' : Vi} {K K' : Int}

theorem put_yes {nb N : Nat} {x : En} (hc : checkE nb x = 0) (ho : 0 < ord x.ep x.sq V.k.ep V.k.sq) (hf : ¬ fullV nb N V x.b) : putE nb N V x = 0 ∧ putVi nb N V x = layV V x := by
  have h : putE nb N V x = 0 := by
    unfold putE
    rw [if_neg (by rw [hc]; simp), if_neg (by omega), if_neg (fun h => hf h.1)]
  exact ⟨h, by rw [putVi_1 h hf]; rfl⟩
theorem put_low {nb N : Nat} {x y : En} (hc : checkE nb x = 0) (ho : 0 < ord x.ep x.sq V.k.ep V.k.sq) (hf : fullV nb N V x.b) (hl : lowest nb V.e = some y) : putE nb N V x = 0 ∧ putVi nb N V x = layV (dropV V y.b) x := by
  have h : putE nb N V x = 0 := by
    unfold putE
    rw [if_neg (by rw [hc]; simp), if_neg (by omega), if_neg (fun h => by rw [hl] at h; cases h.2)]
  exact ⟨h, by rw [putVi_2 h hf]; unfold lowI; rw [hl]; rfl⟩
theorem put_full {nb N : Nat} {x : En} (hc : checkE nb x = 0) (ho : 0 < ord x.ep x.sq V.k.ep V.k.sq) (hf : fullV nb N V x.b) (hl : lowest nb V.e = none) : putE nb N V x = 12 ∧ putVi nb N V x = V := by
  have h : putE nb N V x = 12 := by
    unfold putE
    rw [if_neg (by rw [hc]; simp), if_neg (by omega), if_pos ⟨hf, hl⟩]
  exact ⟨h, putVi_0 (by rw [h]; simp)⟩
theorem put_old {nb N : Nat} {x : En} (hc : checkE nb x = 0) (ho : ord x.ep x.sq V.k.ep V.k.sq ≤ 0) : putE nb N V x = 1 ∧ putVi nb N V x = V := by
  have h : putE nb N V x = 1 := by
    unfold putE
    rw [if_neg (by rw [hc]; simp), if_pos ho]
  exact ⟨h, putVi_0 (by rw [h]; simp)⟩

def dataA : ByteArray := ⟨#[97, 98, 99, 100, 101, 102, 103, 104]⟩
def entA (b s : Int) (y : Bool) : En := ⟨b, 1, s, dataA, y, 1, s⟩

/-- the literal of 'awake' -/
theorem putA (w : World) (h : Cs w B G V K) (hK : K ≤ 600000000) (b s : Int) (y : Bool) (hb0 : -9223372036854775808 ≤ b) (hb1 : b ≤ 9223372036854775807) (cB : Nat) (hc : w.cell? ⟨cB, 0, none⟩ = some (.pointer (some ⟨B.qB, 0, none⟩))) :
    Calls Tryz.prog 35 #[.int .i64 b, .int .i64 s, .bool y, .pointer (some ⟨cB, 0, none⟩)] w fun e w' => e = .returned (.int .i64 (putE G.nb G.N V (entA b s y))) ∧ After w B G (putVi G.nb G.N V (entA b s y)) (K + 2002) w' := by
  have HP : Hid (Calls Tryz.prog 23 #[.pointer (some ⟨B.qB, 0, none⟩), .agg #[.int .i64 b, .int .i64 1, .int .i64 s, .string ⟨#[97, 98, 99, 100, 101, 102, 103, 104]⟩, .bool y, .int .i64 1, .int .i64 s]] w fun e w' => e = .returned (.int .i64 (putE G.nb G.N V (entA b s y))) ∧ After w B G (putVi G.nb G.N V (entA b s y)) (K + 2002) w') := Lib.hid (put_cs w h hK (entA b s y) hb0 hb1)
  clear h
  go_enter Tryz.func35, Tryz.ntmps35
  go_wp2_with (go_at_call 23; with_reducible refine HP.out.mono ?_; rintro e w1 ⟨rfl, h1⟩; have H1 := Lib.hid h1; clear h1)
  go_ret
  exact ⟨rfl, H1.out⟩

/-- a cache of the call's own, and a variable that points to it -/
structure Pt (w0 w : World) (B : Bk) (G : Gm) (V : Vi) (K : Int) (qB cB dB : Nat) : Prop where
  rq : Rq w0 w B G V K
  eq : B.qB = qB
  dq : B.dB = dB
  cl : w.cell? ⟨cB, 0, none⟩ = some (.pointer (some ⟨qB, 0, none⟩))
  nm : cB ∉ B.l
theorem Pt.below {w w' : World} {qB cB dB : Nat} (h : Pt w0 w B G V K qB cB dB) (hb : Below w.heap.size w w') : Pt w0 w' B G V K qB cB dB :=
  ⟨h.rq.below hb, h.eq, h.dq, by rw [hb.cell (World.block_lt_of_cell? w _ h.cl)]; exact h.cl, h.nm⟩
theorem Pt.after {w w' : World} {qB cB dB : Nat} (h : Pt w0 w B G V K qB cB dB) (a : After w B G V' K' w') : ∃ B', Pt w0 w' B' G V' K' qB cB dB ∧ But B.l w w' := by
  obtain ⟨r, h1, h2, h3⟩ := h.rq.after a
  have hl := World.block_lt_of_cell? w _ h.cl
  refine ⟨B.row r, ⟨h1, h.eq, h.dq, by rw [h3.cell hl h.nm]; exact h.cl, fun hm => ?_⟩, h3⟩
  rcases row_l h2 _ hm with g | g
  · exact h.nm g
  · simp at hl; omega
theorem Pt.putA {w : World} {qB cB dB : Nat} (h : Pt w0 w B G V K qB cB dB) (hK : K ≤ 600000000) (b s : Int) (y : Bool) {x : Int} (hb0 : -9223372036854775808 ≤ b) (hb1 : b ≤ 9223372036854775807) (hx : putE G.nb G.N V (entA b s y) = x ∧ putVi G.nb G.N V (entA b s y) = V') :
    Calls Tryz.prog 35 #[.int .i64 b, .int .i64 s, .bool y, .pointer (some ⟨cB, 0, none⟩)] w fun e w' => e = .returned (.int .i64 x) ∧ ∃ B', Pt w0 w' B' G V' (K + 2002) qB cB dB := by
  have hc := h.cl
  rw [← h.eq] at hc
  refine (Q.putA w h.rq.cs hK b s y hb0 hb1 cB hc).mono ?_
  rintro e w' ⟨rfl, ha⟩
  rw [hx.1, hx.2] at *
  obtain ⟨B', h1, _⟩ := h.after ha
  exact ⟨rfl, B', h1⟩

/-! the states -/
def A0 : Vi := ⟨vis none0, kp0⟩
def A1 : Vi := layV A0 (entA 0 1 true)
def A2 : Vi := layV A1 (entA 1 2 true)
def A3 : Vi := cleanVi A2 0 1 1
def A4 : Vi := layV (dropV A3 0) (entA 2 3 true)
theorem chkA (b s : Int) (y : Bool) (hb : 0 ≤ b ∧ b < 4) (hs : 1 ≤ s ∧ s ≤ 100) : checkE 4 (entA b s y) = 0 := by
  unfold checkE In1 In0 entA
  have e : dataA.size = 8 := rfl
  simp only [e]
  rw [if_neg (by simp; omega), if_neg (by simp), if_neg (by omega)]
theorem a01 : putE 4 8 A0 (entA 0 1 true) = 0 ∧ putVi 4 8 A0 (entA 0 1 true) = A1 := put_yes (chkA _ _ _ (by omega) (by omega)) (by decide) (by unfold fullV; rw [show num 4 A0.e = 0 from rfl]; omega)
theorem a12 : putE 4 8 A1 (entA 1 2 true) = 0 ∧ putVi 4 8 A1 (entA 1 2 true) = A2 := put_yes (chkA _ _ _ (by omega) (by omega)) (by decide) (by unfold fullV; rw [show num 4 A1.e = 1 from rfl]; omega)
theorem a22 : putE 4 8 A2 (entA 2 3 true) = 12 ∧ putVi 4 8 A2 (entA 2 3 true) = A2 := put_full (chkA _ _ _ (by omega) (by omega)) (by decide) ⟨rfl, by rw [show num 4 A2.e = 2 from rfl]; omega⟩ rfl
theorem a23 : cleanE A2 0 1 1 = 0 := rfl
theorem a34 : putE 4 8 A3 (entA 2 3 true) = 0 ∧ putVi 4 8 A3 (entA 2 3 true) = A4 := put_low (y := entA 0 1 false) (chkA _ _ _ (by omega) (by omega)) (by decide) ⟨rfl, by rw [show num 4 A3.e = 2 from rfl]; omega⟩ rfl
theorem a44 : putE 4 8 A4 (entA 1 3 true) = 1 ∧ putVi 4 8 A4 (entA 1 3 true) = A4 := put_old (chkA _ _ _ (by omega) (by omega)) (by decide)
theorem a5 : A4.e 0 = none ∧ A4.e 2 = some (entA 2 3 true) ∧ num 4 A4.e = 2 ∧ A4.k.ep = 1 ∧ A4.k.sq = 3 ∧ A4.k.get 1 = 3 ∧ dropE A4 0 = 10 := ⟨rfl, rfl, rfl, rfl, rfl, rfl, rfl⟩
theorem a6 : keepE 0 0 [] = 1 := by
  unfold keepE
  rw [if_neg (fun h => by have := h.2.2.1; simp at this)]

end Q
end Go.Proofs.YtmcalgnpinolmaaGreat
namespace Go.Proofs.YtmcalgnpinolmaaGreat
open Go.RowKit Go.Maps
set_option linter.unusedVariables false
set_option linter.unusedSimpArgs false
set_option maxRecDepth 20000
namespace Q
variable {w0 : World} {B : Bk} {G : Gm} {V V' : Vi} {K K' : Int}

theorem Cs.sync (w : World) (h : Cs w B G V K) : Calls Tryz.prog 36 #[.pointer (some ⟨B.qB, 0, none⟩)] w fun e w' => e = .returned (.int .i64 0) ∧ (∃ s : St, CG w' B G s ∧ vis s.E = V.e ∧ s.k = V.k ∧ s.K ≤ K ∧ s.L.rs.length ≤ G.N - 2 ∧ ∀ k, s.d.P k = none) ∧ But [B.dB, B.sB, B.mB] w w' := by
  obtain ⟨s, h1, h2, h3, h4, h5⟩ := h
  refine (sync_cg w h1).mono ?_
  rintro e w' ⟨rfl, d', g1, g2, g3, g4⟩
  exact ⟨rfl, ⟨_, g1, h2, h3, h4, h5, g3⟩, g4⟩

/-- a crash with nothing pending, and it is opened anew -/
theorem crash_cs (w : World) {s : St} (h : CG w B G s) (hP : ∀ k, s.d.P k = none) : Calls Tryz.prog 16 #[.pointer (some ⟨B.dB, 0, none⟩), .slice none 0 0] w fun e w' => e = .returned (.tuple #[]) ∧ (∃ d', DevAt w' B.dB B.sB B.mB G.n d' ∧ Free d' ∧ M.Good (M.seen d') s.K G.first G.N G.a G.b s.c s.L) ∧ But [B.dB, B.sB, B.mB] w w' := by
  refine (crash_nil w h.dv hP).mono ?_
  rintro e w' ⟨rfl, d', h1, h2, h3, h4⟩
  exact ⟨rfl, ⟨d', h1, h2, Good_congr h.lg.gd (fun p _ => h3 _) (h3 _) (h3 _)⟩, h4⟩

theorem open_cs (w : World) {s : St} {d' : M.Dv} {dB sB mB : Nat} (hd : DevAt w dB sB mB G.n d') (hf : Free d') (hg : M.Good (M.seen d') s.K G.first G.N G.a G.b s.c s.L) (hgeo : Geo G.n G.first G.N G.a G.b) (hh : Hold G.nb G.N s.L s.E s.k) (hK : s.K + 1 ≤ K') (hK2 : K' ≤ 1000000000) (hnb1 : 1 ≤ G.nb) (he : vis s.E = V.e) (hk : s.k = V.k) (hl : s.L.rs.length ≤ G.N - 2)
    {x1 x2 x3 x4 x5 : Int} (e1 : x1 = (G.first : Int)) (e2 : x2 = (G.N : Int)) (e3 : x3 = (G.a : Int)) (e4 : x4 = (G.b : Int)) (e5 : x5 = (G.nb : Int)) :
    Calls Tryz.prog 17 #[.pointer (some ⟨dB, 0, none⟩), .int .i64 x1, .int .i64 x2, .int .i64 x3, .int .i64 x4, .int .i64 x5] w fun e w' => ∃ B : Bk, e = .returned (.tuple #[.pointer (some ⟨B.qB, 0, none⟩), .int .i64 0]) ∧ B.dB = dB ∧ B.sB = sB ∧ B.mB = mB ∧ Cs w' B G V K' ∧ (w.heap.size ≤ B.lB ∧ w.heap.size ≤ B.cB ∧ w.heap.size ≤ B.rb ∧ w.heap.size ≤ B.qB ∧ w.heap.size ≤ B.mE) ∧ But [dB, sB, mB] w w' := by
  subst e1 e2 e3 e4 e5
  refine (open_over (s := ⟨d', s.c, s.L, s.E, s.k, s.K⟩) w hd hf hg hgeo hh (by show s.K + 1 ≤ _; omega) hnb1).mono ?_
  rintro e w' ⟨B, d2, c2, rfl, h1, h2, h3, h4, h5, h6, h7⟩
  exact ⟨B, rfl, h1, h2, h3, ⟨_, h4, he, hk, hK, hl⟩, h5, h6⟩

set_option maxHeartbeats 4000000 in
theorem awake_any (w : World) : Calls Tryz.prog 11 #[] w fun e w' => e = .returned (.bool true) ∧ Below w.heap.size w w' := by
  have hn := new_yes 10 (by omega) w
  rw [show ((10 : Nat) : Int) = 10 from rfl] at hn
  have HN := Lib.hid hn
  clear hn
  have HFw := Lib.hid (fun w' v => open_few w' 0 2 7 0 1 4 (by omega) (by omega) v)
  have hmf : ∀ (fn : Fn) (first cap : Array Value) (w : World), (Instr.makeFunc fn first cap).run Tryz.prog w = .ok (.func fn first cap) w := fun _ _ _ _ => rfl
  go_enter Tryz.func11, Tryz.ntmps11
  go_wp2_with (first
    | (go_at_call 34; with_reducible refine HN.out.mono ?_; rintro e w1 ⟨dB, sB, mB, rfl, hD, hb1, l1, l2, l3⟩
       have HO := Lib.hid (fresh_open (G := ⟨10, 2, 8, 0, 1, 4⟩) w w1 hb1 hD ⟨l1, l2, l3⟩ ⟨by simp, by simp, by simp, by simp, by simp, by simp, by simp, by simp⟩ (by simp) (by simp) (by simp) (x1 := 2) (x2 := 8) (x3 := 0) (x4 := 1) (x5 := 4) rfl rfl rfl rfl rfl)
       clear hD hb1 l1 l2 l3)
    | (go_at_call 17; with_reducible refine HO.out.mono ?_; rintro e w2 ⟨B, d', c', rfl, h1, h2, h3, hc, hP, ho, hb2⟩
       have hbc := hb2.trans ((Below.refl w2.heap.size w2).alloc (Nat.le_refl _) (.cells #[.pointer (some ⟨B.qB, 0, none⟩)] 25) |>.mono hb2.size)
       have HC : Hid (Pt w (w2.alloc (.cells #[.pointer (some ⟨B.qB, 0, none⟩)] 25)) B ⟨10, 2, 8, 0, 1, 4⟩ A0 2 B.qB w2.heap.size dB) := Lib.hid ⟨⟨hc.run.below ((Below.refl w2.heap.size w2).alloc (Nat.le_refl _) _), hbc, ho⟩, rfl, h1, by rw [World.cell?_alloc_mark]; rfl, fun hm => Nat.lt_irrefl _ (hc.run.lt _ hm)⟩
       have HD0 := Lib.hid h1
       have hRm := room_cs _ HC.out.rq.cs
       rw [show (((8 - 6 : Nat) : Int)) = 2 from rfl] at hRm
       have HRm := Lib.hid hRm
       have pc := HC.out.cl
       have HP1 := Lib.hid (HC.out.putA (V' := A1) (x := 0) (by omega) 0 1 true (by omega) (by omega) a01)
       clear h1 h2 h3 hc hP ho hb2 hbc hRm)
    | (go_at_call 17; with_reducible refine (HFw.out _ _).mono ?_; rintro e w3 ⟨rfl, rfl⟩)
    | (go_at_call 24; with_reducible refine HRm.out.mono ?_; rintro e w3 ⟨rfl, rfl⟩)
    | (go_at_call 35; with_reducible refine HP1.out.mono ?_; rintro e w3 ⟨rfl, B1, hp1⟩
       have HP2 := Lib.hid (hp1.putA (V' := A2) (x := 0) (by omega) 1 2 true (by omega) (by omega) a12)
       clear hp1)
    | (go_at_call 35; with_reducible refine HP2.out.mono ?_; rintro e w4 ⟨rfl, B2, hp2⟩
       have HP3 := Lib.hid (hp2.putA (V' := A2) (x := 12) (by omega) 2 3 true (by omega) (by omega) a22)
       clear hp2)
    | (go_at_call 35; with_reducible refine HP3.out.mono ?_; rintro e w5 ⟨rfl, B3, hp3⟩
       have pc5 := hp3.cl
       have hcl := clean_cs w5 hp3.rq.cs (by omega) 0 1 1 (by omega) (by omega)
       rw [hp3.eq, a23] at hcl
       have HCl := Lib.hid hcl
       have HQ3 := Lib.hid hp3
       clear hp3 hcl)
    | (go_at_call 26; with_reducible refine HCl.out.mono ?_; rintro e w6 ⟨rfl, ha6⟩
       obtain ⟨B4, hp4, _⟩ := HQ3.out.after ha6
       have HP4 := Lib.hid (hp4.putA (V' := A4) (x := 0) (by omega) 2 3 true (by omega) (by omega) a34)
       clear hp4 ha6)
    | (go_at_call 35; with_reducible refine HP4.out.mono ?_; rintro e w7 ⟨rfl, B5, hp5⟩
       have HP5 := Lib.hid (hp5.putA (V' := A4) (x := 1) (by omega) 1 3 true (by omega) (by omega) a44)
       clear hp5)
    | (go_at_call 35; with_reducible refine HP5.out.mono ?_; rintro e w8 ⟨rfl, B6, hp6⟩
       have pc8 := hp6.cl
       have hsy := Cs.sync w8 hp6.rq.cs
       rw [hp6.eq] at hsy
       have HSy := Lib.hid hsy
       have HQ6 := Lib.hid hp6
       clear hp6 hsy)
    | (go_at_call 36; with_reducible refine HSy.out.mono ?_; rintro e w9 ⟨rfl, ⟨s, hg, he, hk, hK, hl, hP⟩, hbu9⟩
       have hcr := crash_cs w9 hg hP
       rw [HQ6.out.dq] at hcr
       have HCr := Lib.hid hcr
       have HG := Lib.hid (And.intro hg (And.intro he (And.intro hk (And.intro hK (And.intro hl hbu9)))))
       clear hg he hk hK hl hP hbu9 hcr)
    | (go_at_call 16; with_reducible refine HCr.out.mono ?_; rintro e w10 ⟨rfl, ⟨d2, hd2, hf2, hg2⟩, hbu10⟩
       have HO2 := Lib.hid (open_cs (V := A4) (K' := 20000) w10 hd2 hf2 hg2 HG.out.1.lg.geo HG.out.1.hd (by have := HG.out.2.2.2.1; omega) (by omega) (by simp) HG.out.2.1 HG.out.2.2.1 HG.out.2.2.2.2.1 (x1 := 2) (x2 := 8) (x3 := 0) (x4 := 1) (x5 := 4) rfl rfl rfl rfl rfl)
       have HB10 := Lib.hid hbu10
       clear hd2 hf2 hg2 hbu10)
    | (go_at_call 17; with_reducible refine HO2.out.mono ?_; rintro e w11 ⟨C, rfl, hCd, hCs, hCm, hcs, hnew, hbu11⟩
       have HRq : Hid (Rq w w11 C ⟨10, 2, 8, 0, 1, 4⟩ A4 20000) := Lib.hid (by
         have o6 := HQ6.out.rq.od
         have b6 := HQ6.out.rq.be
         have d6 := HQ6.out.dq
         have hbu9 := HG.out.2.2.2.2.2
         have hbu10 := HB10.out
         simp only [Bk.l, List.mem_cons, List.not_mem_nil, or_false, forall_eq_or_imp, forall_eq] at o6
         obtain ⟨o1, o2, o3, o4, o5, o6, o7, o8⟩ := o6
         have b9 := b6.trans (hbu9.to_below (by simp; omega) b6.size)
         have b10 := b9.trans (hbu10.to_below (by simp; omega) b9.size)
         have b11 := b10.trans (hbu11.to_below (by simp; omega) b10.size)
         have z10 := b10.size
         refine ⟨hcs, b11, ?_⟩
         simp only [Bk.l, List.mem_cons, List.not_mem_nil, or_false, forall_eq_or_imp, forall_eq]
         omega)
       have HGe : Hid (Calls Tryz.prog 25 #[.pointer (some ⟨C.qB, 0, none⟩), .int .i64 0] w11 fun e w' => e = .returned (.tuple #[.agg #[.int .i64 0, .int .i64 0, .int .i64 0, .string ⟨#[]⟩, .bool false, .int .i64 0, .int .i64 0], .bool false]) ∧ Below w11.heap.size w11 w') := Lib.hid (by
         have hge := get_cs w11 HRq.out.cs 0 (by omega) (by omega)
         rw [a5.1] at hge
         exact hge)
       clear hCd hCs hCm hcs hnew hbu11)
    | (go_at_call 25; with_reducible refine HGe.out.mono ?_; rintro e w12 ⟨rfl, hb12⟩
       have HR12 := Lib.hid ((HRq.out.below hb12).below ((Below.refl w12.heap.size w12).alloc (Nat.le_refl _) (.cells #[.int .i64 0, .int .i64 0, .int .i64 0, .string ⟨#[]⟩, .bool false, .int .i64 0, .int .i64 0] 37)))
       have HGe2 : Hid (Calls Tryz.prog 25 #[.pointer (some ⟨C.qB, 0, none⟩), .int .i64 2] (w12.alloc (.cells #[.int .i64 0, .int .i64 0, .int .i64 0, .string ⟨#[]⟩, .bool false, .int .i64 0, .int .i64 0] 37)) fun e w' => e = .returned (.tuple #[.agg #[.int .i64 2, .int .i64 1, .int .i64 3, .string ⟨#[97, 98, 99, 100, 101, 102, 103, 104]⟩, .bool true, .int .i64 1, .int .i64 3], .bool true]) ∧ Below (w12.alloc (.cells #[.int .i64 0, .int .i64 0, .int .i64 0, .string ⟨#[]⟩, .bool false, .int .i64 0, .int .i64 0] 37)).heap.size (w12.alloc (.cells #[.int .i64 0, .int .i64 0, .int .i64 0, .string ⟨#[]⟩, .bool false, .int .i64 0, .int .i64 0] 37)) w') := Lib.hid (by
         have hge := get_cs (w12.alloc (.cells #[.int .i64 0, .int .i64 0, .int .i64 0, .string ⟨#[]⟩, .bool false, .int .i64 0, .int .i64 0] 37)) HR12.out.cs 2 (by omega) (by omega)
         rw [a5.2.1] at hge
         exact hge)
       clear hb12)
    | (go_at_call 25; with_reducible refine HGe2.out.mono ?_; rintro e w13 ⟨rfl, hb13⟩
       have HR13 := Lib.hid ((HR12.out.below hb13).below ((Below.refl w13.heap.size w13).alloc (Nat.le_refl _) (.cells #[.int .i64 2, .int .i64 1, .int .i64 3, .string ⟨#[97, 98, 99, 100, 101, 102, 103, 104]⟩, .bool true, .int .i64 1, .int .i64 3] 37)))
       have hall := all_cs (w13.alloc (.cells #[.int .i64 2, .int .i64 1, .int .i64 3, .string ⟨#[97, 98, 99, 100, 101, 102, 103, 104]⟩, .bool true, .int .i64 1, .int .i64 3] 37)) HR13.out.cs
       rw [show num (4 : Nat) A4.e = 2 from a5.2.2.1] at hall
       have HAll := Lib.hid hall
       clear hb13 hall)
    | (go_at_call 20; with_reducible refine HAll.out.mono ?_; rintro e w14 ⟨aA, capA, rfl, _, hb14⟩
       have HR14 := Lib.hid (HR13.out.below hb14)
       have hla := last_cs w14 HR14.out.cs
       rw [a5.2.2.2.1, a5.2.2.2.2.1] at hla
       have HLa := Lib.hid hla
       clear hb14 hla)
    | (go_at_call 28; with_reducible refine HLa.out.mono ?_; rintro e w15 ⟨rfl, hb15⟩
       have HR15 := Lib.hid (HR14.out.below hb15)
       have hnu := number_cs w15 HR15.out.cs 1
       rw [a5.2.2.2.2.2.1] at hnu
       have HNu := Lib.hid hnu
       have hdr := drop_cs w15 HR15.out.cs (by omega) 0 (by omega) (by omega)
       rw [a5.2.2.2.2.2.2] at hdr
       have HDr := Lib.hid hdr
       clear hb15 hnu hdr)
    | (go_at_call 27; with_reducible refine HNu.out.mono ?_; rintro e w16 ⟨rfl, rfl⟩)
    | (go_at_call 37; with_reducible refine HDr.out.mono ?_; rintro e w17 ⟨rfl, ha17⟩
       obtain ⟨r17, hr17, _, _⟩ := HR15.out.after ha17
       have hno := note_cs w17 hr17.cs (by omega) 0 0 none 0 0 [] ⟨rfl, by omega, by simp [maxLen], .inl rfl⟩
       rw [a6, show (C.row r17).qB = C.qB from rfl] at hno
       have HNo := Lib.hid hno
       have HR17 := Lib.hid hr17
       clear ha17 hr17 hno)
    | (go_at_call 32; with_reducible refine HNo.out.mono ?_; rintro e w18 ⟨rfl, ha18⟩
       obtain ⟨r18, hr18, _, _⟩ := HR17.out.after ha18
       have HR18 := Lib.hid hr18.be
       clear ha18 hr18))
  go_ret
  exact ⟨rfl, HR18.out⟩
end Q
end Go.Proofs.YtmcalgnpinolmaaGreat
namespace Go.Proofs.YtmcalgnpinolmaaGreat
open Go.ChangeShapes Go.WideShapes Go.ChangeAt Go.RowKit Go.Joins Go.Deep
set_option linter.unusedVariables false
set_option linter.unusedSimpArgs false
set_option maxRecDepth 20000

theorem own : ownKnob Tryz.prog.godebug = none := by kernel_rfl
theorem laidOut : laidOutB Tryz.prog = true := by kernel_rfl

theorem addr_add {b off : Nat} (k : Nat) : (⟨b, off, none⟩ : Addr).add k = ⟨b, off + k, none⟩ := by by_cases g : k = 0 <;> simp [Addr.add, g]

theorem row_in {w : World} {a : Addr} {len cap : Nat} {f : Nat → Value} {m : Nat} (hl : len ≤ cap) (hm : cap ≤ maxLen) (hlm : len ≤ m) (hc : ∀ i, i < m → w.cell? (a.add i) = some (f i)) :
    Row w (some a) len cap ((List.range len).map f) := by
  refine ⟨by simp, hl, hm, ?_⟩
  by_cases h0 : len = 0
  · subst h0; exact .inl rfl
  · obtain ⟨b, off, spot⟩ := a
    have hc0 := hc 0 (by omega)
    have hspot : spot = none := by simpa [Addr.add] using World.cell?_spot hc0
    subst hspot
    refine .inr ⟨b, off, rfl, by simpa [Addr.add] using World.block_lt_of_cell? w _ hc0, fun i hi => ?_⟩
    have := hc i (by omega)
    rw [addr_add] at this
    rw [this]
    simp [hi]

theorem wf_i64 {x : Int} (h : (Lit.int .i64 x).wf = true) : -9223372036854775808 ≤ x ∧ x ≤ 9223372036854775807 := wf_int h

section
variable {H : Type} {enc : TypeId × Value → H} {W : World}

theorem open_strs {v : Value} {d : DataW H} {p : List MemPlace} (h : DataW.Trod enc Tryz.prog W 0 (fun _ => true) true 95 v d p) (hv : ∃ a n c, v = .slice a n c) :
    ∃ a n cap ts, v = .slice a n cap ∧ Row W a n cap (C.strs ts) := by
  obtain ⟨a, n, c, rfl⟩ := hv
  obtain ⟨fuel, hf⟩ := h
  rcases open_strings Tryz.underlying95 Tryz.underlying9 (by kernel_rfl) hf with ⟨hcs, _⟩ | ⟨a, l, c, ss, hcs, _, hl, hm, hz, _, hcell, hwz⟩
  · injection hcs with hcs
    exact ⟨none, 0, 0, [], hcs, row_nil W⟩
  · injection hcs with hcs
    have hz' : ss.length = c := by simpa using hz
    have e : C.strs (ss.take l) = (List.range l).map fun i => .string (ss.getD i ByteArray.empty) := by
      apply List.ext_getElem?
      intro i
      unfold C.strs
      rw [List.getElem?_map, List.getElem?_take, List.getElem?_map]
      by_cases hi : i < l
      · rw [if_pos hi, List.getElem?_range hi]
        simp [List.getD_eq_getElem?_getD, show i < ss.length by omega]
      · rw [if_neg hi, List.getElem?_eq_none (by simp; omega)]
        rfl
    refine ⟨some a, l, c, ss.take l, hcs, ?_⟩
    rw [e]
    exact row_in hl hm (by omega) hcell

theorem open_bits {v : Value} {d : DataW H} {p : List MemPlace} (h : DataW.Trod enc Tryz.prog W 0 (fun _ => true) true 57 v d p) (hv : ∃ a n c, v = .slice a n c) :
    ∃ (a : Option Addr) (n cap : Nat) (l : List Bool), v = .slice a n cap ∧ Row W a n cap (l.map Value.bool) := by
  obtain ⟨a, n, c, rfl⟩ := hv
  obtain ⟨fuel, hf⟩ := h
  rcases open_bools Tryz.underlying57 Tryz.underlying4 (by kernel_rfl) hf with ⟨hcs, _⟩ | ⟨a, l, c, B, hcs, _, hl, hm, _, hcell⟩
  · injection hcs with hcs
    exact ⟨none, 0, 0, [], hcs, row_nil W⟩
  · injection hcs with hcs
    refine ⟨some a, l, c, (List.range l).map B, hcs, ?_⟩
    rw [List.map_map]
    exact row_in hl hm (by omega) hcell

theorem open_crash {v : Value} {d : DataW H} {p : List MemPlace} (h : DataW.Trod enc Tryz.prog W 0 (fun _ => true) true 39 v d p) (hv : ∃ a n c, v = .slice a n c) :
    ∃ a n cap l, v = .slice a n cap ∧ KRow W a n cap l := by
  obtain ⟨a, n, c, rfl⟩ := hv
  obtain ⟨fuel, hf⟩ := h
  rcases open_slice_pairs Tryz.underlying39 Tryz.underlying45 (by kernel_rfl) rfl rfl (by kernel_rfl) (by kernel_rfl) hf with ⟨hcs, _⟩ | ⟨a, l, c, m, n, V0, V1, D0, D1, P0, P1, hcs, _, hl, hm, hmm, _, hi⟩
  · injection hcs with hcs
    exact ⟨none, 0, 0, [], hcs, krow_nil W⟩
  · injection hcs with hcs
    simp only [if_true] at hmm
    have each : ∀ i, i < l → ∃ q : Int × Int, W.cell? (a.add (i * 2)) = some (.int .i64 q.1) ∧ W.cell? (a.add (i * 2 + 1)) = some (.int .i64 q.2) := by
      intro i hil
      obtain ⟨h1, h2, h3, h4⟩ := hi i (by omega)
      obtain ⟨n0, e0, _, _⟩ := DataW.trod_int Tryz.underlying3 h3
      obtain ⟨n1, e1, _, _⟩ := DataW.trod_int Tryz.underlying3 h4
      injection e0 with e0
      injection e1 with e1
      exact ⟨(n0, n1), by rw [h1, e0], by rw [h2, e1]⟩
    obtain ⟨q, hq⟩ := choose_lt each
    refine ⟨some a, l, c, (List.range l).map q, hcs, by simp, hl, hm, ?_⟩
    by_cases h0 : l = 0
    · subst h0; exact .inl rfl
    · obtain ⟨b, off, spot⟩ := a
      have hc0 := (hq 0 (by omega)).1
      have hspot : spot = none := by simpa [Addr.add] using World.cell?_spot hc0
      subst hspot
      refine .inr ⟨b, off, rfl, by simpa [Addr.add] using World.block_lt_of_cell? W _ hc0, fun i x hx => ?_⟩
      have hil : i < l := by have := (List.getElem?_eq_some_iff.1 hx).1; simpa using this
      have hxq : x = q i := by simp [hil] at hx; exact hx.symm
      subst hxq
      have := hq i hil
      rw [addr_add, addr_add, ← Nat.add_assoc] at this
      exact this
end

/-- a string of a row that came in, read later -/
theorem strs_at {w w' : World} {a : Option Addr} {n c : Nat} {l : List ByteArray} (h : Row w a n c (C.strs l)) (hb : Below w.heap.size w w') {k : Nat} (hk : k < n) :
    ∃ b off t, a = some ⟨b, off, none⟩ ∧ l[k]? = some t ∧ w'.cell? ⟨b, off + k, none⟩ = some (.string t) ∧ b < w.heap.size := by
  obtain ⟨b, off, t, ha, hlt, ht, hc⟩ := C.row_str (c_row h) k hk
  exact ⟨b, off, t, ha, ht, by rw [hb.cell (p := ⟨b, off + k, none⟩) hlt]; exact hc, hlt⟩

theorem bits_at {w w' : World} {a : Option Addr} {n c : Nat} {l : List Bool} (h : Row w a n c (l.map Value.bool)) (hb : Below w.heap.size w w') {k : Nat} (hk : k < n) :
    ∃ b off x, a = some ⟨b, off, none⟩ ∧ w'.cell? ⟨b, off + k, none⟩ = some (.bool x) := by
  obtain ⟨h1, h2, h3, h4⟩ := h
  rw [List.length_map] at h1
  rcases h4 with h4 | ⟨b, off, ha, hlt, hc⟩
  · have := congrArg List.length h4; rw [List.length_map, List.length_nil] at this; omega
  · refine ⟨b, off, l[k]'(by omega), ha, ?_⟩
    rw [hb.cell (p := ⟨b, off + k, none⟩) hlt, hc k hk]
    simp [List.getElem?_eq_getElem (show k < l.length by omega)]
end Go.Proofs.YtmcalgnpinolmaaGreat
namespace Go.Proofs.YtmcalgnpinolmaaGreat
open Go.ChangeShapes Go.WideShapes Go.ChangeAt Go.RowKit Go.Joins Go.Deep
set_option linter.unusedVariables false
set_option linter.unusedSimpArgs false
set_option maxRecDepth 20000

section
variable {H : Type} {enc : TypeId × Value → H} {W : World}

theorem open_u8s {fuel : Nat} {v : Value} {x : DataW H × List MemPlace} (h : DataW.trod enc Tryz.prog W 0 (fun _ => true) true fuel 56 [v] = some x) :
    ∃ a n cap zs, v = .slice a n cap ∧ Row W a n cap (u8s zs) := by
  rcases open_ints Tryz.underlying56 Tryz.underlying5 (by kernel_rfl) h with ⟨hcs, _⟩ | ⟨a, l, c, zs, hcs, _, hl, hm, hz, _, hcell, hwz⟩
  · injection hcs with hcs
    exact ⟨none, 0, 0, [], hcs, row_nil W⟩
  · injection hcs with hcs
    have hz' : zs.length = c := by simpa using hz
    have hr : ∀ z ∈ zs, 0 ≤ z ∧ z < 256 := by
      intro z hz
      have := hwz z hz
      simp [Lit.wf, IntKind.min, IntKind.max, IntKind.signed, IntKind.bits] at this
      omega
    have e : u8s ((zs.take l).map fun z => UInt8.ofNat z.toNat) = (List.range l).map fun i => .int .u8 (zs.getD i 0) := by
      apply List.ext_getElem?
      intro i
      unfold u8s
      rw [List.getElem?_map, List.getElem?_map, List.getElem?_take, List.getElem?_map]
      by_cases hi : i < l
      · rw [if_pos hi, List.getElem?_range hi]
        have hil : i < zs.length := by omega
        have := hr zs[i] (List.getElem_mem hil)
        simp [List.getD_eq_getElem?_getD, hil, u8]
        omega
      · rw [if_neg hi, List.getElem?_eq_none (by simp; omega)]
        rfl
    refine ⟨some a, l, c, (zs.take l).map fun z => UInt8.ofNat z.toNat, hcs, ?_⟩
    rw [e]
    exact row_in hl hm (by omega) hcell

theorem open_bytes {v : Value} {d : DataW H} {p : List MemPlace} (h : DataW.Trod enc Tryz.prog W 0 (fun _ => true) true 56 v d p) (hv : ∃ a n c, v = .slice a n c) :
    ∃ a n cap zs, v = .slice a n cap ∧ Row W a n cap (u8s zs) := by
  obtain ⟨a, n, c, rfl⟩ := hv
  obtain ⟨fuel, hf⟩ := h
  exact open_u8s hf
end

theorem bytes_at {w w' : World} {a : Option Addr} {n cap : Nat} {t : List UInt8} (h : Row w a n cap (u8s t)) (hb : Below w.heap.size w w') {i : Nat} (hi : i < n) :
    ∃ b off y, a = some ⟨b, off, none⟩ ∧ t[i]? = some y ∧ w'.cell? ⟨b, off + i, none⟩ = some (.int .u8 (y.toNat : Int)) := by
  obtain ⟨h1, h2, h3, h4⟩ := h
  rw [u8s_length] at h1
  rcases h4 with h4 | ⟨b, off, ha, hlt, hc⟩
  · have : t = [] := by simpa [u8s] using h4
    subst this; simp at h1; omega
  · have hx : t[i]? = some (t[i]'(by omega)) := List.getElem?_eq_getElem _
    refine ⟨b, off, t[i]'(by omega), ha, hx, ?_⟩
    rw [(But.of_below hb).cell hlt (by simp), hc i hi]
    unfold u8s
    rw [List.getElem?_map, hx]
    rfl
end Go.Proofs.YtmcalgnpinolmaaGreat
namespace Go.Proofs.YtmcalgnpinolmaaGreat
open Go.RowKit Go.Maps Go.Sort Go.Shelf
set_option linter.unusedVariables false
set_option linter.unusedSimpArgs false
set_option maxRecDepth 20000
namespace Q
variable {B : Bk} {G : Gm} {V : Vi} {K : Int}

/-- a cache's own memory, as it is seen -/
structure Ct (w : World) (B : Bk) (G : Gm) (V : Vi) : Prop where
  qc : CacheC w B.qB B.lB G.N G.nb B.mE V.k
  mp : ∃ E, MapQ w B.mE E ∧ vis E = V.e
  ok : VOk G.nb G.N V
  n5 : G.N ≤ 512
theorem Cs.ct {w : World} (h : Cs w B G V K) : Ct w B G V := by
  have h1 := h.qc
  have h2 := h.ok
  obtain ⟨s, g1, g2, _⟩ := h
  exact ⟨h1, ⟨s.E, g1.mp, g2⟩, h2, by have := g1.lg.geo.fn; have := g1.lg.geo.n5; omega⟩
theorem Ct.but {w w' : World} (h : Ct w B G V) {q : List Nat} (hb : But q w w') (h1 : B.qB ∉ q) (h2 : B.mE ∉ q) : Ct w' B G V := by
  obtain ⟨g1, ⟨E, g2, g3⟩, g4, g5⟩ := h
  exact ⟨g1.but hb h1, ⟨E, g2.but hb h2, g3⟩, g4, g5⟩
theorem Ct.below {w w' : World} (h : Ct w B G V) (hb : Below w.heap.size w w') : Ct w' B G V := h.but (But.of_below hb) (by simp) (by simp)
theorem Ct.keys {w : World} (h : Ct w B G V) {E : Mp} (he : vis E = V.e) : ∀ b x, E b = some x → 0 ≤ b ∧ b < (G.nb : Int) := by
  intro b x hx
  refine h.ok.range (b := b) (x := x.e) ?_
  rw [← he]; unfold vis; rw [hx]; rfl

theorem room_ct (w : World) (h : Ct w B G V) : Calls Tryz.prog 24 #[.pointer (some ⟨B.qB, 0, none⟩)] w fun e w' => e = .returned (.int .i64 ((G.N - 6 : Nat) : Int)) ∧ w = w' := by
  have p1 := h.qc.p1
  have hn := h.ok.n8
  have hN : G.N ≤ 512 := h.n5
  have e1 : ((G.N - 6 : Nat) : Int) = (G.N : Int) - 6 := by omega
  have e2 : (G.N : Int) ≤ 512 := by omega
  rw [e1]
  clear h hn hN e1
  go_enter Tryz.func24, Tryz.ntmps24
  go_wp2
  go_ret
  exact ⟨by simp, rfl⟩

theorem last_ct (w : World) (h : Ct w B G V) : Calls Tryz.prog 28 #[.pointer (some ⟨B.qB, 0, none⟩)] w fun e w' => e = .returned (.agg #[.int .i64 V.k.ep, .int .i64 V.k.sq]) ∧ Below w.heap.size w w' := by
  have HB : Hid (Below w.heap.size w (w.alloc (.cells #[.int .i64 0, .int .i64 0] 30))) := Lib.hid ((Below.refl _ _).alloc (Nat.le_refl _) _)
  have g := (h.below HB.out).qc
  have p4 := g.p4
  have p5 := g.p5
  clear h g
  go_enter Tryz.func28, Tryz.ntmps28
  go_wp2
  refine bodyPost_ret_by ?_ rfl ⟨rfl, (Below.refl _ _).alloc (Nat.le_refl _) _⟩
  simp [results, Tryz.results28, go_sem]

theorem number_ct (w : World) (h : Ct w B G V) (i : Int) : Calls Tryz.prog 27 #[.pointer (some ⟨B.qB, 0, none⟩), .int .i64 i] w fun e w' => e = .returned (.int .i64 (V.k.get i)) ∧ w = w' := by
  have p6 := h.qc.p6
  have p7 := h.qc.p7
  have p8 := h.qc.p8
  have p9 := h.qc.p9
  clear h
  unfold Kp.get
  by_cases h0 : i < 0
  · rw [if_neg (by omega), if_neg (by omega), if_neg (by omega), if_neg (by omega)]
    go_enter Tryz.func27, Tryz.ntmps27
    go_wp2
    go_ret
    exact ⟨rfl, rfl⟩
  · by_cases h4 : 4 ≤ i
    · rw [if_neg (by omega), if_neg (by omega), if_neg (by omega), if_neg (by omega)]
      go_enter Tryz.func27, Tryz.ntmps27
      go_wp2
      go_ret
      exact ⟨rfl, rfl⟩
    · have hi : i = 0 ∨ i = 1 ∨ i = 2 ∨ i = 3 := by omega
      clear h0 h4
      rcases hi with rfl | rfl | rfl | rfl
      all_goals
        simp (config := { decide := true }) only [if_true, if_false]
        go_enter Tryz.func27, Tryz.ntmps27
        go_wp2
        go_ret
        exact ⟨rfl, rfl⟩

theorem get_ct (w : World) (h : Ct w B G V) (b : Int) (hb0 : -9223372036854775808 ≤ b) (hb1 : b ≤ 9223372036854775807) : Calls Tryz.prog 25 #[.pointer (some ⟨B.qB, 0, none⟩), .int .i64 b] w fun e w' => e = .returned (.tuple #[entV (V.e b), .bool (V.e b).isSome]) ∧ Below w.heap.size w w' := by
  have HB : Hid (Below w.heap.size w (w.alloc (.cells #[.int .i64 0, .int .i64 0, .int .i64 0, .string ⟨#[]⟩, .bool false, .int .i64 0, .int .i64 0] 37))) := Lib.hid ((Below.refl _ _).alloc (Nat.le_refl _) _)
  have hct := h.below HB.out
  obtain ⟨E, hm, hv⟩ := hct.mp
  have p3 := hct.qc.p3
  have hl := (mapq_look hm hb0 hb1).1
  have hE : vis E b = V.e b := by rw [hv]
  have hx : ∃ x : La, (E b).getD zeroL = x ∧ entV (V.e b) = x.e.val ∧ (V.e b).isSome = (E b).isSome := by
    rw [← hE]
    unfold vis entV
    cases E b with
    | none => exact ⟨_, rfl, rfl, rfl⟩
    | some y => exact ⟨_, rfl, rfl, rfl⟩
  obtain ⟨x, h1, h2, h3⟩ := hx
  rw [h1, ← h3] at hl
  rw [h2]
  generalize (V.e b).isSome = z at *
  obtain ⟨⟨xb, xp, xq, xd, xy, xc, xn⟩, xpos⟩ := x
  unfold La.val at hl
  unfold En.val
  simp only at hl ⊢
  clear h hct hm hv hE h1 h2 h3 hb0 hb1
  go_enter Tryz.func25, Tryz.ntmps25
  go_wp2
  refine bodyPost_ret_by ?_ rfl ⟨rfl, ?_⟩
  rotate_left
  · exact (((Below.refl w.heap.size w).alloc (Nat.le_refl _) _).alloc (by simp) _)
  · simp [results, Tryz.results25, go_sem]

set_option maxHeartbeats 2000000 in
/-- All: the entries, by block, in a row of the call's own -/
theorem all_ct (w : World) (h : Ct w B G V) : Calls Tryz.prog 20 #[.pointer (some ⟨B.qB, 0, none⟩)] w fun e w' => ∃ a cap, e = .returned (.slice a (num G.nb V.e) cap) ∧ OwnE w.heap.size w' a cap (allV G.nb V.e) ∧ Below w.heap.size w w' := by
  have hnum : num G.nb V.e ≤ 32 := Nat.le_trans (cnt_le _ _) h.ok.nb
  obtain ⟨E, hmp, hv⟩ := h.mp
  have hkeys := h.keys hv
  have hmp0 := hmp
  obtain ⟨N, D, hown, hr⟩ := hmp0
  have hsz := size_num hown hr hkeys
  have hlen := allV_len G.nb V.e
  have hall := keysQ_all G.nb E
  have hkl := keysQ_len G.nb E
  rw [hv] at hsz hall hkl
  have HS : Hid (Calls Tryz.prog 46 #[.func (.func 67) #[] #[.pointer (some ⟨w.heap.size, 0, none⟩)]] (w.alloc (.cells #[.map (some B.mE)] 90)) fun e w' => ∃ aK cK, e = .returned (.slice aK (num G.nb V.e) cK) ∧ C.Row w' aK (num G.nb V.e) cK (C.i64s (keysQ G.nb E)) ∧ (∀ g o z, aK = some ⟨g, o, z⟩ → w.heap.size ≤ g) ∧ Below w.heap.size w w') := Lib.hid (by
    refine (sortedB_q w B.mE N D hown (by omega)).mono ?_
    rintro e w' ⟨v, ss, rfl, hp, hrow, hb⟩
    have e2 : ss.mergeSort (fun x y => decide (x ≤ y)) = keysQ G.nb E := (mergeSort_of_perm_i hp).trans (keysQ_sorted hown hr hkeys)
    have e3 : ss.length = num G.nb V.e := by rw [← hkl, ← e2, List.length_mergeSort]
    rw [e2, e3] at hrow
    have hl : (C.i64s (keysQ G.nb E)).length = num G.nb V.e := by rw [C.i64s_length, hkl]
    rcases hrow.2 with ⟨rfl, h0⟩ | ⟨g, c, cur, rfl, hB, hh, hn, hm, hs, ht⟩
    · rw [h0]
      refine ⟨none, 0, rfl, ⟨by rw [hl, h0], Nat.le_refl _, by simp [maxLen], .inl (List.eq_nil_of_length_eq_zero (by rw [hl, h0]))⟩, fun g o z hz => (by cases hz), hb⟩
    · refine ⟨some ⟨g, 0, none⟩, c, rfl, (C.own_row (e := 3) (B := w.heap.size) ⟨⟨by rw [Nat.mul_one]; exact hl, .inr ⟨g, c, cur, rfl, hB, hh, hn, hm, hs, ht⟩⟩, hl, by omega⟩).1, fun g' o z hz => ?_, hb⟩
      injection hz with hz
      injection hz with e1
      omega)
  have HC : Hid (∀ wx, Below w.heap.size w wx → CacheC wx B.qB B.lB G.N G.nb B.mE V.k ∧ MapQ wx B.mE E) := Lib.hid (fun wx hb => ⟨h.qc.but (But.of_below hb) (by simp), hmp.but (But.of_below hb) (by simp)⟩)
  have HM : Hid (∀ i x, (keysQ G.nb E)[i]? = some x → ∃ y : La, E x = some y ∧ (allV G.nb V.e)[i]? = some y.e ∧ 0 ≤ x ∧ x ≤ 1000) := Lib.hid (fun i x hi => by
    have hx := (mem_keysQ hkeys x).1 (List.mem_of_getElem? hi)
    obtain ⟨y, hy⟩ := Option.isSome_iff_exists.1 hx
    have hb := hkeys x y hy
    have hnb := h.ok.nb
    refine ⟨y, hy, ?_, by omega, by omega⟩
    rw [← hall, List.getElem?_map, hi]
    simp [entOf, hy])
  have p3 := h.qc.p3
  have HLen := Lib.hid hlen
  have hnI : (num G.nb V.e : Int) ≤ 32 := by omega
  have hn0 : (0 : Int) ≤ (num G.nb V.e : Int) := by omega
  have Hkl := Lib.hid hkl
  have Hn := Lib.hid hnum
  generalize num G.nb V.e = m at *
  generalize allV G.nb V.e = all at *
  generalize keysQ G.nb E = ks at *
  clear h hmp hv hown hr hkeys hsz hall hlen hkl hnum
  go_enter Tryz.func20, Tryz.ntmps20
  go_wp2_with (first
    | (go_at_call 47; with_reducible refine (keysB_q _ _).mono ?_; rintro e w' ⟨rfl, rfl⟩)
    | (go_at_call 46; with_reducible refine HS.out.mono ?_; rintro e w1 ⟨aK, cK, rfl, hrow, hgK, hb1⟩
       have HR := Lib.hid (And.intro hrow hgK)
       have HB1 := Lib.hid hb1
       clear hrow hgK hb1))
  go_loopw [3, 13] (fun sl i wr => ∃ (k : Nat) (a : Option Addr) (cap : Nat), k ≤ m ∧ sl = .slice a k cap ∧ i = .int .i64 k ∧ OwnE w1.heap.size wr a cap (all.take k) ∧ Below w1.heap.size w1 wr) (fun _ i _ => m - (RowKit.intOf i).toNat)
  case atStart => exact ⟨0, none, 0, by omega, rfl, rfl, by simpa using OwnE.nil w1.heap.size w1, Below.refl _ _⟩
  case round =>
    obtain ⟨k, a, cap, hk, rfl, rfl, hown, hb⟩ := hrel
    have HO := Lib.hid hown
    have HB := Lib.hid hb
    have HBw : Hid (Below w.heap.size w wr) := Lib.hid (HB1.out.trans (hb.mono HB1.out.size))
    clear hown hb p3
    by_cases hlt : k < m
    · have hltI : (k : Int) < (m : Int) := by omega
      obtain ⟨gK, oK, x, hg1, hg2, hg3, hg4⟩ := C.row_i64 HR.out.1 k hlt
      subst hg1
      obtain ⟨y, hy1, hy2, hy3, hy4⟩ := HM.out k x hg3
      have hx : wr.cell? ⟨gK, oK + k, none⟩ = some (.int .i64 x) := by rw [HB.out.cell (p := ⟨gK, oK + k, none⟩) hg2]; exact hg4
      have hcr := HC.out _ HBw.out
      have q3 := hcr.1.p3
      have hl := (mapq_look hcr.2 (i := x) (by omega) (by omega)).2
      rw [hy1] at hl
      obtain ⟨⟨xb, xp, xq, xd, xy, xc, xn⟩, xpos⟩ := y
      simp only [Option.getD_some, La.val] at hl
      have hbn := (Below.refl wr.heap.size wr).alloc (Nat.le_refl _) (.cells #[.int .i64 xb, .int .i64 xp, .int .i64 xq, .string xd, .bool xy, .int .i64 xc, .int .i64 xn] 37)
      have HO2 : Hid (OwnE w1.heap.size (wr.alloc (.cells #[.int .i64 xb, .int .i64 xp, .int .i64 xq, .string xd, .bool xy, .int .i64 xc, .int .i64 xn] 37)) a cap (all.take k)) := Lib.hid (HO.out.but (But.of_below hbn) (by simp))
      have HE2 : Hid (EAt (wr.alloc (.cells #[.int .i64 xb, .int .i64 xp, .int .i64 xq, .string xd, .bool xy, .int .i64 xc, .int .i64 xn] 37)) wr.heap.size 0 ⟨xb, xp, xq, xd, xy, xc, xn⟩) := Lib.hid (by
        refine ⟨?_, ?_, ?_, ?_, ?_, ?_, ?_⟩ <;> (rw [World.cell?_alloc_mark]; rfl))
      have HBa : Hid (Below w1.heap.size w1 (wr.alloc (.cells #[.int .i64 xb, .int .i64 xp, .int .i64 xq, .string xd, .bool xy, .int .i64 xc, .int .i64 xn] 37))) := Lib.hid (HB.out.alloc HB.out.size _)
      have HTk : Hid (all.take (k + 1) = all.take k ++ [⟨xb, xp, xq, xd, xy, xc, xn⟩]) := Lib.hid (by rw [List.take_add_one, hy2]; rfl)
      have HLk : Hid ((all.take k).length = k ∧ k < m) := Lib.hid ⟨by rw [List.length_take, HLen.out]; omega, hlt⟩
      clear hg2 hg3 hg4 hy1 hy2 hy3 hy4 hcr hbn hlt hk
      go_wp2_with (first
        | (refine wpList_field_laid _ rfl (.tmp 23) rfl ⟨⟨xb, xp, xq, xd, xy, xc, xn⟩, xpos⟩ rfl (.agg #[.int .i64 xb, .int .i64 xp, .int .i64 xq, .string xd, .bool xy, .int .i64 xc, .int .i64 xn]) rfl ?_)
        | (at_builtin
           refine wpList_append_ent _ rfl (.tmp 17) (.tmp 25) rfl w1.heap.size a k cap _ rfl HLk.out.1 HO2.out HBa.out.size _ 1 _ rfl HE2.out (by have := HLk.out.2; have := Hn.out; omega) ?_
           intro a2 cap2 w2 hown2 hb2
           have HO3 := Lib.hid hown2
           have HB3 : Hid (Below w1.heap.size w1 w2) := Lib.hid (HBa.out.trans hb2)
           clear hown2 hb2))
      go_roundw
      case rel => exact ⟨k + 1, a2, cap2, by have := HLk.out.2; omega, rfl, by go_num, by rw [HTk.out]; exact HO3.out, HB3.out⟩
      case measure => have := HLk.out.2; simp [RowKit.intOf]; omega
    · obtain rfl : k = m := by omega
      have hltI : ¬ (k : Int) < (k : Int) := by omega
      have hta : all.take k = all := List.take_of_length_le (by rw [HLen.out]; exact Nat.le_refl _)
      rw [hta] at HO
      have HF : Hid (OwnE w.heap.size wr a cap all) := Lib.hid (by
        have h1 := HO.out
        have h2 := HB1.out.size
        rcases h1.ways with ⟨rfl, rfl, h3⟩ | ⟨g, cur, rfl, hB, r1, r2, r3, r4, r5⟩
        · rw [h3]; exact OwnE.nil _ _
        · exact OwnE.mk' (by omega) r1 r2 r3 r4 r5 h1.2)
      clear hlt hk hta
      go_wp2_with fail
      go_ret
      exact ⟨a, cap, rfl, HF.out, HBw.out⟩
end Q
end Go.Proofs.YtmcalgnpinolmaaGreat
namespace Go.Proofs.YtmcalgnpinolmaaGreat
open Go.RowKit Go.Maps
set_option linter.unusedVariables false
set_option linter.unusedSimpArgs false
set_option maxRecDepth 20000
namespace Q
variable {w0 : World} {B : Bk} {G : Gm} {V V' : Vi} {K K' : Int}

noncomputable def doE (nb N : Nat) (V : Vi) (kind : Int) (e : En) (t : List Int) : Int :=
  if kind = 0 then putE nb N V e else if kind = 1 then cleanE V e.b e.ep e.sq else if kind = 2 then dropE V e.b else if kind = 3 then keepE e.ep e.sq t else if kind = 8 then keepE e.ep e.sq t else 0
noncomputable def doVi (nb N : Nat) (V : Vi) (kind : Int) (e : En) (t : List Int) : Vi :=
  if kind = 0 then putVi nb N V e else if kind = 1 then cleanVi V e.b e.ep e.sq else if kind = 2 then dropVi V e.b else if kind = 3 then noteVi V e.ep e.sq t else if kind = 8 then resetVi V e.ep e.sq t else V

def actV (kind n : Int) (e : En) (aT : Option Addr) (nT cT : Nat) (s : ByteArray) (aL : Option Addr) (nL cL : Nat) : Value :=
  .agg #[.int .i64 kind, .int .i64 n, .int .i64 e.b, .int .i64 e.ep, .int .i64 e.sq, .string e.data, .bool e.dirty, .int .i64 e.cl, .int .i64 e.n, .slice aT nT cT, .string s, .slice aL nL cL]

set_option maxHeartbeats 4000000 in
theorem do_cs (w : World) (h : Cs w B G V K) (hK : K ≤ 600000000) (kind n : Int) (e : En) (aT : Option Addr) (nT cT : Nat) (s : ByteArray) (aL : Option Addr) (nL cL : Nat) (t : List Int) (hr : C.Row w aT nT cT (C.i64s t)) (hb0 : -9223372036854775808 ≤ e.b) (hb1 : e.b ≤ 9223372036854775807) :
    Calls Tryz.prog 22 #[.pointer (some ⟨B.qB, 0, none⟩), actV kind n e aT nT cT s aL nL cL] w fun r w' => r = .returned (.int .i64 (doE G.nb G.N V kind e t)) ∧ After w B G (doVi G.nb G.N V kind e t) (K + 2002) w' := by
  obtain ⟨b, ep, sq, data, dirty, cl, en⟩ := e
  have hbw := (Below.refl w.heap.size w).alloc (Nat.le_refl _) (.cells #[.int .i64 kind, .int .i64 n, .int .i64 b, .int .i64 ep, .int .i64 sq, .string data, .bool dirty, .int .i64 cl, .int .i64 en, .slice aT nT cT, .string s, .slice aL nL cL] 41)
  have HB := Lib.hid hbw
  have H := Lib.hid (h.below hbw)
  have H0 := Lib.hid h
  have HRow := Lib.hid (C.row_below hr hbw (Nat.le_refl _))
  have HA : Hid (∀ (V' : Vi) w', After (w.alloc (.cells #[.int .i64 kind, .int .i64 n, .int .i64 b, .int .i64 ep, .int .i64 sq, .string data, .bool dirty, .int .i64 cl, .int .i64 en, .slice aT nT cT, .string s, .slice aL nL cL] 41)) B G V' (K + 2002) w' → After w B G V' (K + 2002) w') := Lib.hid (fun V' w' ⟨r, h1, h2, h3⟩ => After.from HB.out h1 h2 h3)
  unfold actV
  simp only at hb0 hb1 ⊢
  clear h hr hbw
  by_cases k0 : kind = 0
  · subst k0
    have hp := put_cs _ H.out hK ⟨b, ep, sq, data, dirty, cl, en⟩ hb0 hb1
    simp only [En.val] at hp
    have HP := Lib.hid hp
    clear hp
    go_enter Tryz.func22, Tryz.ntmps22
    go_wp2_with (go_at_call 23; with_reducible refine HP.out.mono ?_; rintro e w1 ⟨rfl, h1⟩; have H1 := Lib.hid (HA.out _ _ h1); clear h1)
    go_ret
    exact ⟨by simp [doE], by have := H1.out; simpa [doVi] using this⟩
  by_cases k1 : kind = 1
  · subst k1
    have HP := Lib.hid (clean_cs _ H.out hK b ep sq hb0 hb1)
    go_enter Tryz.func22, Tryz.ntmps22
    go_wp2_with (go_at_call 26; with_reducible refine HP.out.mono ?_; rintro e w1 ⟨rfl, h1⟩; have H1 := Lib.hid (HA.out _ _ h1); clear h1)
    go_ret
    exact ⟨by simp [doE], by have := H1.out; simpa [doVi] using this⟩
  by_cases k2 : kind = 2
  · subst k2
    have HP := Lib.hid (drop_cs _ H.out hK b hb0 hb1)
    go_enter Tryz.func22, Tryz.ntmps22
    go_wp2_with (go_at_call 37; with_reducible refine HP.out.mono ?_; rintro e w1 ⟨rfl, h1⟩; have H1 := Lib.hid (HA.out _ _ h1); clear h1)
    go_ret
    exact ⟨by simp [doE], by have := H1.out; simpa [doVi] using this⟩
  by_cases k3 : kind = 3
  · subst k3
    have HP := Lib.hid (note_cs _ H.out hK ep sq aT nT cT t HRow.out)
    go_enter Tryz.func22, Tryz.ntmps22
    go_wp2_with (go_at_call 32; with_reducible refine HP.out.mono ?_; rintro e w1 ⟨rfl, h1⟩; have H1 := Lib.hid (HA.out _ _ h1); clear h1)
    go_ret
    exact ⟨by simp [doE], by have := H1.out; simpa [doVi] using this⟩
  by_cases k8 : kind = 8
  · subst k8
    have HP := Lib.hid (reset_cs _ H.out hK ep sq aT nT cT t HRow.out)
    go_enter Tryz.func22, Tryz.ntmps22
    go_wp2_with (go_at_call 30; with_reducible refine HP.out.mono ?_; rintro e w1 ⟨rfl, h1⟩; have H1 := Lib.hid (HA.out _ _ h1); clear h1)
    go_ret
    exact ⟨by simp [doE], by have := H1.out; simpa [doVi] using this⟩
  have e1 : doE G.nb G.N V kind ⟨b, ep, sq, data, dirty, cl, en⟩ t = 0 := by unfold doE; rw [if_neg k0, if_neg k1, if_neg k2, if_neg k3, if_neg k8]
  have e2 : doVi G.nb G.N V kind ⟨b, ep, sq, data, dirty, cl, en⟩ t = V := by unfold doVi; rw [if_neg k0, if_neg k1, if_neg k2, if_neg k3, if_neg k8]
  rw [e1, e2]
  by_cases k4 : kind = 4
  · subst k4
    have HP := Lib.hid (Cs.sync _ H.out)
    clear e1 e2
    go_enter Tryz.func22, Tryz.ntmps22
    go_wp2_with (go_at_call 36; with_reducible refine HP.out.mono ?_; rintro e w1 ⟨rfl, ⟨z, g1, g2, g3, g4, g5, _⟩, g6⟩
                 have H1 := Lib.hid (HA.out V w1 ⟨B.rb, ⟨z, g1, g2, g3, by omega, g5⟩, .inl rfl, g6.mono (by simp [Bk.l])⟩)
                 clear g1 g2 g3 g4 g5 g6)
    go_ret
    exact ⟨rfl, H1.out⟩
  · clear e1 e2
    go_enter Tryz.func22, Tryz.ntmps22
    go_wp2_with fail
    go_ret
    exact ⟨rfl, HA.out V _ (After.same H.out (Below.refl _ _) (by omega))⟩
end Q
end Go.Proofs.YtmcalgnpinolmaaGreat
namespace Go.Proofs.YtmcalgnpinolmaaGreat
open Go.RowKit Go.Maps
set_option linter.unusedVariables false
set_option linter.unusedSimpArgs false
set_option maxRecDepth 20000
namespace Q
variable {w0 : World} {B : Bk} {G : Gm} {V V' : Vi} {K K' : Int}

structure TAt (w : World) (P : Nat) (sl : Value) (ep sq t0 t1 t2 t3 : Int) : Prop where
  c0 : w.cell? ⟨P, 0, none⟩ = some sl
  c1 : w.cell? ⟨P, 1, none⟩ = some (.int .i64 ep)
  c2 : w.cell? ⟨P, 2, none⟩ = some (.int .i64 sq)
  c3 : w.cell? ⟨P, 3, none⟩ = some (.int .i64 t0)
  c4 : w.cell? ⟨P, 4, none⟩ = some (.int .i64 t1)
  c5 : w.cell? ⟨P, 5, none⟩ = some (.int .i64 t2)
  c6 : w.cell? ⟨P, 6, none⟩ = some (.int .i64 t3)
  fz : ∀ o, w.frozen? ⟨P, o, none⟩ = false
theorem TAt.of {w : World} {P : Nat} {T : TypeId} {sl : Value} {ep sq t0 t1 t2 t3 : Int} (h : w.heap[P]? = some (.cells #[sl, .int .i64 ep, .int .i64 sq, .int .i64 t0, .int .i64 t1, .int .i64 t2, .int .i64 t3] T (0, 0))) : TAt w P sl ep sq t0 t1 t2 t3 := by
  obtain ⟨m0, m1, m2, m3, m4, m5, m6, fz, _⟩ := seven h
  exact ⟨m0, m1, m2, m3, m4, m5, m6, fz⟩
variable {w : World} {P : Nat} {sl : Value} {ep sq t0 t1 t2 t3 : Int}
theorem TAt.set3 (h : TAt w P sl ep sq t0 t1 t2 t3) (v : Int) : TAt (w.setCell ⟨P, 3, none⟩ (.int .i64 v)) P sl ep sq v t1 t2 t3 :=
  ⟨by rw [World.cell?_setCell_other _ _ _ _ (by simp)]; exact h.c0, by rw [World.cell?_setCell_other _ _ _ _ (by simp)]; exact h.c1, by rw [World.cell?_setCell_other _ _ _ _ (by simp)]; exact h.c2, World.cell?_setCell_same _ _ _ h.c3, by rw [World.cell?_setCell_other _ _ _ _ (by simp)]; exact h.c4, by rw [World.cell?_setCell_other _ _ _ _ (by simp)]; exact h.c5, by rw [World.cell?_setCell_other _ _ _ _ (by simp)]; exact h.c6, fun o => by rw [World.frozen?_setCell]; exact h.fz o⟩
theorem TAt.set4 (h : TAt w P sl ep sq t0 t1 t2 t3) (v : Int) : TAt (w.setCell ⟨P, 4, none⟩ (.int .i64 v)) P sl ep sq t0 v t2 t3 :=
  ⟨by rw [World.cell?_setCell_other _ _ _ _ (by simp)]; exact h.c0, by rw [World.cell?_setCell_other _ _ _ _ (by simp)]; exact h.c1, by rw [World.cell?_setCell_other _ _ _ _ (by simp)]; exact h.c2, by rw [World.cell?_setCell_other _ _ _ _ (by simp)]; exact h.c3, World.cell?_setCell_same _ _ _ h.c4, by rw [World.cell?_setCell_other _ _ _ _ (by simp)]; exact h.c5, by rw [World.cell?_setCell_other _ _ _ _ (by simp)]; exact h.c6, fun o => by rw [World.frozen?_setCell]; exact h.fz o⟩
theorem TAt.set5 (h : TAt w P sl ep sq t0 t1 t2 t3) (v : Int) : TAt (w.setCell ⟨P, 5, none⟩ (.int .i64 v)) P sl ep sq t0 t1 v t3 :=
  ⟨by rw [World.cell?_setCell_other _ _ _ _ (by simp)]; exact h.c0, by rw [World.cell?_setCell_other _ _ _ _ (by simp)]; exact h.c1, by rw [World.cell?_setCell_other _ _ _ _ (by simp)]; exact h.c2, by rw [World.cell?_setCell_other _ _ _ _ (by simp)]; exact h.c3, by rw [World.cell?_setCell_other _ _ _ _ (by simp)]; exact h.c4, World.cell?_setCell_same _ _ _ h.c5, by rw [World.cell?_setCell_other _ _ _ _ (by simp)]; exact h.c6, fun o => by rw [World.frozen?_setCell]; exact h.fz o⟩
theorem TAt.set6 (h : TAt w P sl ep sq t0 t1 t2 t3) (v : Int) : TAt (w.setCell ⟨P, 6, none⟩ (.int .i64 v)) P sl ep sq t0 t1 t2 v :=
  ⟨by rw [World.cell?_setCell_other _ _ _ _ (by simp)]; exact h.c0, by rw [World.cell?_setCell_other _ _ _ _ (by simp)]; exact h.c1, by rw [World.cell?_setCell_other _ _ _ _ (by simp)]; exact h.c2, by rw [World.cell?_setCell_other _ _ _ _ (by simp)]; exact h.c3, by rw [World.cell?_setCell_other _ _ _ _ (by simp)]; exact h.c4, by rw [World.cell?_setCell_other _ _ _ _ (by simp)]; exact h.c5, World.cell?_setCell_same _ _ _ h.c6, fun o => by rw [World.frozen?_setCell]; exact h.fz o⟩

def toldV (a : Option Addr) (n cap : Nat) (k : Kp) : Value := .agg #[.slice a n cap, .int .i64 k.ep, .int .i64 k.sq, .int .i64 k.t0, .int .i64 k.t1, .int .i64 k.t2, .int .i64 k.t3]
def upto (k i : Nat) (x : Int) : Int := if i < k then x else 0

theorem OwnE.base {B0 B1 : Nat} {w : World} {a : Option Addr} {cap : Nat} {l : List En} (h : OwnE B0 w a cap l) (hb : B1 ≤ B0) : OwnE B1 w a cap l := by
  have h2 := h.2
  rcases h.ways with ⟨rfl, rfl, rfl⟩ | ⟨g, cur, rfl, h1, h3, h4, h5, h6, h7⟩
  · exact OwnE.nil _ _
  · exact OwnE.mk' (by omega) h3 h4 h5 h6 h7 h2
theorem ret_told {fn : Func} (hres : fn.results = #[.cell 2 33]) {R : Ending → World → Prop} {a : Act} {w : World} {b : Nat} {v0 v1 v2 v3 v4 v5 v6 : Value} (h2 : a.tmps.getD 2 undef = .pointer (some ⟨b, 0, none⟩)) (hd : a.defers = []) (hrow : w.rangeAt b 0 [v0, v1, v2, v3, v4, v5, v6])
    (hR : R (.returned (.agg #[v0, v1, v2, v3, v4, v5, v6])) w) : bodyPost Tryz.prog fn R .ret a w := by
  have k0 : w.cell? ⟨b, 0, none⟩ = _ := hrow 0 _ rfl
  have k1 : w.cell? ⟨b, 1, none⟩ = _ := hrow 1 _ rfl
  have k2 : w.cell? ⟨b, 2, none⟩ = _ := hrow 2 _ rfl
  have k3 : w.cell? ⟨b, 3, none⟩ = _ := hrow 3 _ rfl
  have k4 : w.cell? ⟨b, 4, none⟩ = _ := hrow 4 _ rfl
  have k5 : w.cell? ⟨b, 5, none⟩ = _ := hrow 5 _ rfl
  have k6 : w.cell? ⟨b, 6, none⟩ = _ := hrow 6 _ rfl
  simp only [Array.getD_eq_getD_getElem?] at h2
  refine bodyPost_ret_by ?_ hd hR
  simp [results, hres, h2, go_sem, k0, k1, k2, k3, k4, k5, k6]

set_option maxHeartbeats 2000000 in
theorem told_ct (w : World) (h : Ct w B G V) : Calls Tryz.prog 13 #[.pointer (some ⟨B.qB, 0, none⟩)] w fun e w' => ∃ a cap, e = .returned (toldV a (num G.nb V.e) cap V.k) ∧ OwnE w.heap.size w' a cap (allV G.nb V.e) ∧ Below w.heap.size w w' := by
  have hbz := (Below.refl w.heap.size w).alloc (Nat.le_refl _) (.cells #[.slice none 0 0, .int .i64 0, .int .i64 0, .int .i64 0, .int .i64 0, .int .i64 0, .int .i64 0] 33)
  have HBz := Lib.hid hbz
  have hz := heap_alloc_new w (.cells #[.slice none 0 0, .int .i64 0, .int .i64 0, .int .i64 0, .int .i64 0, .int .i64 0, .int .i64 0] 33)
  have HZ := Lib.hid hz
  have HC := Lib.hid (fun w' (hb : Below w.heap.size w w') => h.below hb)
  have HAll := Lib.hid (all_ct _ (h.below hbz))
  clear h hbz hz
  go_enter Tryz.func13, Tryz.ntmps13
  go_wp2_with (first
    | (go_at_call 20; with_reducible refine HAll.out.mono ?_; rintro e w1 ⟨a, cap, rfl, ho, hb1⟩
       have HB1 : Hid (Below w.heap.size w w1) := Lib.hid (HBz.out.trans (hb1.mono HBz.out.size))
       have HO1 := Lib.hid (And.intro ho hb1)
       have HLa := Lib.hid (last_ct w1 (HC.out w1 HB1.out))
       clear ho hb1)
    | (go_at_call 28; with_reducible refine HLa.out.mono ?_; rintro e w2 ⟨rfl, hb2⟩
       have HB2 := Lib.hid hb2
       clear hb2))
  have HT0 : Hid (TAt (w2.alloc (.cells #[.slice a (num G.nb V.e) cap, .int .i64 V.k.ep, .int .i64 V.k.sq, .int .i64 0, .int .i64 0, .int .i64 0, .int .i64 0] 33)) w2.heap.size (.slice a (num G.nb V.e) cap) V.k.ep V.k.sq 0 0 0 0) := Lib.hid (TAt.of (heap_alloc_new w2 _))
  have HB12 : Hid (Below w1.heap.size w1 (w2.alloc (.cells #[.slice a (num G.nb V.e) cap, .int .i64 V.k.ep, .int .i64 V.k.sq, .int .i64 0, .int .i64 0, .int .i64 0, .int .i64 0] 33))) := Lib.hid (HB2.out.alloc HB2.out.size _)
  have HBw : Hid (Below w.heap.size w (w2.alloc (.cells #[.slice a (num G.nb V.e) cap, .int .i64 V.k.ep, .int .i64 V.k.sq, .int .i64 0, .int .i64 0, .int .i64 0, .int .i64 0] 33))) := Lib.hid (HB1.out.trans (HB12.out.mono HB1.out.size))
  have HP : Hid (w.heap.size < w1.heap.size ∧ w1.heap.size ≤ w2.heap.size) := Lib.hid ⟨by have := HO1.out.2.size; simp at this; omega, HB2.out.size⟩
  clear HAll HLa
  go_loopw [10] (fun i wr => ∃ k : Nat, k ≤ 4 ∧ i = .int .i64 k ∧ TAt wr w2.heap.size (.slice a (num G.nb V.e) cap) V.k.ep V.k.sq (upto k 0 V.k.t0) (upto k 1 V.k.t1) (upto k 2 V.k.t2) (upto k 3 V.k.t3) ∧ But [w2.heap.size] (w2.alloc (.cells #[.slice a (num G.nb V.e) cap, .int .i64 V.k.ep, .int .i64 V.k.sq, .int .i64 0, .int .i64 0, .int .i64 0, .int .i64 0] 33)) wr) (fun i _ => 4 - (RowKit.intOf i).toNat)
  case atStart => exact ⟨0, by omega, rfl, HT0.out, But.refl _ _⟩
  case round =>
    obtain ⟨k, hk, rfl, hT, hB⟩ := hrel
    have HT := Lib.hid hT
    have HB := Lib.hid hB
    have HBr : Hid (Below w.heap.size w wr) := Lib.hid (HBw.out.trans (hB.to_below (by intro x hx; simp at hx; subst hx; have := HP.out; omega) HBw.out.size))
    have hcs := HC.out wr HBr.out
    clear hT hB
    by_cases hkl : k < 4
    · rcases (by omega : k = 0 ∨ k = 1 ∨ k = 2 ∨ k = 3) with rfl | rfl | rfl | rfl
      · have hnu := number_ct wr hcs 0
        rw [show V.k.get 0 = V.k.t0 from rfl] at hnu
        have HN := Lib.hid hnu
        obtain ⟨c0, c1, c2, c3, c4, c5, c6, fz⟩ := HT.out
        clear hnu hcs hkl hk
        go_wp2_with (go_at_call 27; with_reducible refine HN.out.mono ?_; rintro e w4 ⟨rfl, rfl⟩)
        go_roundw
        case rel => exact ⟨1, by omega, by first | rfl | go_num, HT.out.set3 _, HB.out.set _ (.inl (by simp))⟩
        case measure => simp [RowKit.intOf]
      · have hnu := number_ct wr hcs 1
        rw [show V.k.get 1 = V.k.t1 from rfl] at hnu
        have HN := Lib.hid hnu
        obtain ⟨c0, c1, c2, c3, c4, c5, c6, fz⟩ := HT.out
        clear hnu hcs hkl hk
        go_wp2_with (go_at_call 27; with_reducible refine HN.out.mono ?_; rintro e w4 ⟨rfl, rfl⟩)
        go_roundw
        case rel => exact ⟨2, by omega, by first | rfl | go_num, HT.out.set4 _, HB.out.set _ (.inl (by simp))⟩
        case measure => simp [RowKit.intOf]
      · have hnu := number_ct wr hcs 2
        rw [show V.k.get 2 = V.k.t2 from rfl] at hnu
        have HN := Lib.hid hnu
        obtain ⟨c0, c1, c2, c3, c4, c5, c6, fz⟩ := HT.out
        clear hnu hcs hkl hk
        go_wp2_with (go_at_call 27; with_reducible refine HN.out.mono ?_; rintro e w4 ⟨rfl, rfl⟩)
        go_roundw
        case rel => exact ⟨3, by omega, by first | rfl | go_num, HT.out.set5 _, HB.out.set _ (.inl (by simp))⟩
        case measure => simp [RowKit.intOf]
      · have hnu := number_ct wr hcs 3
        rw [show V.k.get 3 = V.k.t3 from rfl] at hnu
        have HN := Lib.hid hnu
        obtain ⟨c0, c1, c2, c3, c4, c5, c6, fz⟩ := HT.out
        clear hnu hcs hkl hk
        go_wp2_with (go_at_call 27; with_reducible refine HN.out.mono ?_; rintro e w4 ⟨rfl, rfl⟩)
        go_roundw
        case rel => exact ⟨4, by omega, by first | rfl | go_num, HT.out.set6 _, HB.out.set _ (.inl (by simp))⟩
        case measure => simp [RowKit.intOf]
    · obtain rfl : k = 4 := by omega
      have hT := HT.out
      rw [show upto 4 0 V.k.t0 = V.k.t0 from rfl, show upto 4 1 V.k.t1 = V.k.t1 from rfl, show upto 4 2 V.k.t2 = V.k.t2 from rfl, show upto 4 3 V.k.t3 = V.k.t3 from rfl] at hT
      obtain ⟨c0, c1, c2, c3, c4, c5, c6, fz⟩ := hT
      have hz : wr.heap[w.heap.size]? = some (.cells #[.slice none 0 0, .int .i64 0, .int .i64 0, .int .i64 0, .int .i64 0, .int .i64 0, .int .i64 0] 33 (0, 0)) := by
        rw [HB.out.block w.heap.size (by have := HP.out; simp; omega) (by have := HP.out; simp; omega), HB12.out.block w.heap.size HP.out.1, HO1.out.2.block w.heap.size (by simp)]
        exact HZ.out
      obtain ⟨m0, m1, m2, m3, m4, m5, m6, fz2, ht⟩ := seven hz
      have HT7 := Lib.hid ht
      have HOw : Hid (OwnE w.heap.size (wr.setCells w.heap.size 0 [.slice a (num G.nb V.e) cap, .int .i64 V.k.ep, .int .i64 V.k.sq, .int .i64 V.k.t0, .int .i64 V.k.t1, .int .i64 V.k.t2, .int .i64 V.k.t3]) a cap (allV G.nb V.e)) := Lib.hid (by
        have o1 := HO1.out.1
        have o2 := o1.but ((((But.of_below HB12.out).mono (by simp)).trans (HB.out.mono (by simp))).trans ((But.refl [w.heap.size, w2.heap.size] wr).sets w.heap.size 0 [.slice a (num G.nb V.e) cap, .int .i64 V.k.ep, .int .i64 V.k.sq, .int .i64 V.k.t0, .int .i64 V.k.t1, .int .i64 V.k.t2, .int .i64 V.k.t3] (.inl (by simp)))) (fun g hg => by
          have := o1.lt hg
          have := HP.out
          simp at *
          omega)
        exact o2.base (by simp))
      clear ht hz hcs hkl hk
      go_wp2_with fail
      refine ret_told rfl rfl rfl (World.rangeAt_setCells_same wr w.heap.size 0 [.slice a (num G.nb V.e) cap, .int .i64 V.k.ep, .int .i64 V.k.sq, .int .i64 V.k.t0, .int .i64 V.k.t1, .int .i64 V.k.t2, .int .i64 V.k.t3] HT7.out) ⟨a, cap, rfl, HOw.out, ?_⟩
      exact HBr.out.trans (((But.refl [w.heap.size] wr).sets w.heap.size 0 [.slice a (num G.nb V.e) cap, .int .i64 V.k.ep, .int .i64 V.k.sq, .int .i64 V.k.t0, .int .i64 V.k.t1, .int .i64 V.k.t2, .int .i64 V.k.t3] (.inl (by simp))).to_below (by simp) HBr.out.size)

theorem told_cs (w : World) (h : Cs w B G V K) : Calls Tryz.prog 13 #[.pointer (some ⟨B.qB, 0, none⟩)] w fun e w' => ∃ a cap, e = .returned (toldV a (num G.nb V.e) cap V.k) ∧ OwnE w.heap.size w' a cap (allV G.nb V.e) ∧ Below w.heap.size w w' := told_ct w h.ct
end Q
end Go.Proofs.YtmcalgnpinolmaaGreat
namespace Go.Proofs.YtmcalgnpinolmaaGreat
open Go.RowKit Go.Maps
set_option linter.unusedVariables false
set_option linter.unusedSimpArgs false
set_option maxRecDepth 20000
namespace Q
variable {w0 : World} {B : Bk} {G : Gm} {V V' : Vi} {K K' : Int}

set_option maxHeartbeats 2000000 in
theorem same_q (w : World) (a a' : Option Addr) (n c c' B0 B1 : Nat) (l : List En) (hl : l.length = n) (h : OwnE B0 w a c l) (h' : OwnE B1 w a' c' l) :
    Calls Tryz.prog 31 #[.slice a n c, .slice a' n c'] w fun e w' => e = .returned (.bool true) ∧ ∃ j, w' = w.drewN j := by
  subst hl
  have H := Lib.hid h
  have H' := Lib.hid h'
  have hl6 := h.2
  have hnI : (l.length : Int) ≤ 1000 := by omega
  have hn0 : (0 : Int) ≤ (l.length : Int) := by omega
  clear h h' hl6
  go_enter Tryz.func31, Tryz.ntmps31
  go_wp2_with fail
  go_loopw [13] (fun i wr => ∃ (k q : Nat), k ≤ l.length ∧ i = .int .i64 k ∧ wr = w.drewN q) (fun i _ => l.length - (RowKit.intOf i).toNat)
  case atStart => exact ⟨0, 0, by omega, rfl, rfl⟩
  case round =>
    obtain ⟨k, q, hk, rfl, rfl⟩ := hrel
    by_cases hlt : k < l.length
    · have hltI : (k : Int) < (l.length : Int) := by omega
      obtain ⟨x, hx⟩ : ∃ x, l[k]? = some x := ⟨_, List.getElem?_eq_getElem hlt⟩
      obtain ⟨g, rfl, _, _, hc⟩ := H.out.cell hx
      obtain ⟨g', rfl, _, _, hc'⟩ := H'.out.cell hx
      have hb := below_drewN w.heap.size w q
      obtain ⟨c0, c1, c2, c3, c4, c5, c6⟩ := hc.but (But.of_below hb) (by simp)
      obtain ⟨d0, d1, d2, d3, d4, d5, d6⟩ := hc'.but (But.of_below hb) (by simp)
      obtain ⟨xb, xp, xq, xd, xy, xc, xn⟩ := x
      simp only at c0 c1 c2 c3 c4 c5 c6 d0 d1 d2 d3 d4 d5 d6
      have Hlt := Lib.hid hlt
      have HD : Hid (∀ j, (w.drewN q).drewN j = w.drewN (q + j)) := Lib.hid fun j => by simp [World.drewN, Nat.add_assoc]
      clear hlt hc hc' hb hx
      generalize w.drewN q = w1 at *
      go_wp2_with fail
      go_quiet (fail)
      go_wp2_with fail
      go_roundw
      case rel => exact ⟨k + 1, q + nq, by have := Hlt.out; omega, by go_num, HD.out _⟩
      case measure => have := Hlt.out; simp [RowKit.intOf]; omega
    · have hltI : ¬ (k : Int) < (l.length : Int) := by omega
      clear hlt
      go_wp2_with fail
      go_ret
      exact ⟨rfl, q, rfl⟩

/-- rows of four numbers, compared -/
theorem eq4 (a b c d a' b' c' d' : Int) (w : World) : (Op.equalIn 10000 31 (.agg #[.int .i64 a, .int .i64 b, .int .i64 c, .int .i64 d]) (.agg #[.int .i64 a', .int .i64 b', .int .i64 c', .int .i64 d'])).run Tryz.prog w = .ok (a == a' && b == b' && c == c' && d == d') w := by
  have u3 := Tryz.underlying2
  have a3 := Tryz.isAgg2
  have z3 := Tryz.sizeOf2
  rw [show (10000 : Nat) = 9999 + 1 from rfl, Op.equalIn]
  simp only [Sem.run_bind, run_underlying Tryz.underlying31, Result.andThen_ok]
  simp only [Std.Legacy.Range.forIn_eq_forIn_range', Std.Legacy.Range.size, Nat.sub_zero, Nat.add_sub_cancel, Nat.div_one, List.range'_succ, List.range'_zero, List.forIn_cons, List.forIn_nil]
  go_simp
  by_cases h1 : a = a' <;> by_cases h2 : b = b' <;> by_cases h3 : c = c' <;> by_cases h4 : d = d' <;> simp [h1, h2, h3, h4]

set_option maxHeartbeats 2000000 in
theorem alike_q (w : World) (a a' : Option Addr) (n c c' B0 B1 : Nat) (l : List En) (k : Kp) (hl : l.length = n) (h : OwnE B0 w a c l) (h' : OwnE B1 w a' c' l) :
    Calls Tryz.prog 18 #[toldV a n c k, toldV a' n c' k] w fun e w' => e = .returned (.bool true) ∧ Below w.heap.size w w' := by
  have hbw : Below w.heap.size w ((w.alloc (.cells #[.slice a n c, .int .i64 k.ep, .int .i64 k.sq, .int .i64 k.t0, .int .i64 k.t1, .int .i64 k.t2, .int .i64 k.t3] 33)).alloc (.cells #[.slice a' n c', .int .i64 k.ep, .int .i64 k.sq, .int .i64 k.t0, .int .i64 k.t1, .int .i64 k.t2, .int .i64 k.t3] 33)) := ((Below.refl _ _).alloc (Nat.le_refl _) _).alloc (by simp) _
  have HB := Lib.hid hbw
  have HS := Lib.hid (same_q ((w.alloc (.cells #[.slice a n c, .int .i64 k.ep, .int .i64 k.sq, .int .i64 k.t0, .int .i64 k.t1, .int .i64 k.t2, .int .i64 k.t3] 33)).alloc (.cells #[.slice a' n c', .int .i64 k.ep, .int .i64 k.sq, .int .i64 k.t0, .int .i64 k.t1, .int .i64 k.t2, .int .i64 k.t3] 33)) a a' n c c' B0 B1 l hl (h.but (But.of_below hbw) (by simp)) (h'.but (But.of_below hbw) (by simp)))
  have HX : Hid (∀ q, TAt (((w.alloc (.cells #[.slice a n c, .int .i64 k.ep, .int .i64 k.sq, .int .i64 k.t0, .int .i64 k.t1, .int .i64 k.t2, .int .i64 k.t3] 33)).alloc (.cells #[.slice a' n c', .int .i64 k.ep, .int .i64 k.sq, .int .i64 k.t0, .int .i64 k.t1, .int .i64 k.t2, .int .i64 k.t3] 33)).drewN q) w.heap.size (.slice a n c) k.ep k.sq k.t0 k.t1 k.t2 k.t3 ∧ TAt (((w.alloc (.cells #[.slice a n c, .int .i64 k.ep, .int .i64 k.sq, .int .i64 k.t0, .int .i64 k.t1, .int .i64 k.t2, .int .i64 k.t3] 33)).alloc (.cells #[.slice a' n c', .int .i64 k.ep, .int .i64 k.sq, .int .i64 k.t0, .int .i64 k.t1, .int .i64 k.t2, .int .i64 k.t3] 33)).drewN q) (w.heap.size + 1) (.slice a' n c') k.ep k.sq k.t0 k.t1 k.t2 k.t3) := Lib.hid (fun q => by
    have h1 := heap_alloc_new w (.cells #[.slice a n c, .int .i64 k.ep, .int .i64 k.sq, .int .i64 k.t0, .int .i64 k.t1, .int .i64 k.t2, .int .i64 k.t3] 33)
    have h2 := heap_alloc_new (w.alloc (.cells #[.slice a n c, .int .i64 k.ep, .int .i64 k.sq, .int .i64 k.t0, .int .i64 k.t1, .int .i64 k.t2, .int .i64 k.t3] 33)) (.cells #[.slice a' n c', .int .i64 k.ep, .int .i64 k.sq, .int .i64 k.t0, .int .i64 k.t1, .int .i64 k.t2, .int .i64 k.t3] 33)
    rw [show (w.alloc (.cells #[.slice a n c, .int .i64 k.ep, .int .i64 k.sq, .int .i64 k.t0, .int .i64 k.t1, .int .i64 k.t2, .int .i64 k.t3] 33)).heap.size = w.heap.size + 1 by simp] at h2
    have h3 : ((w.alloc (.cells #[.slice a n c, .int .i64 k.ep, .int .i64 k.sq, .int .i64 k.t0, .int .i64 k.t1, .int .i64 k.t2, .int .i64 k.t3] 33)).alloc (.cells #[.slice a' n c', .int .i64 k.ep, .int .i64 k.sq, .int .i64 k.t0, .int .i64 k.t1, .int .i64 k.t2, .int .i64 k.t3] 33)).heap[w.heap.size]? = _ := (Below.heap_alloc _ _ _ (lt_of_heap h1)).trans h1
    exact ⟨TAt.of h3, TAt.of h2⟩)
  have he := eq4 k.t0 k.t1 k.t2 k.t3 k.t0 k.t1 k.t2 k.t3
  simp only [beq_self_eq_true, Bool.and_self] at he
  unfold toldV
  clear h h' hl hbw
  go_enter Tryz.func18, Tryz.ntmps18
  go_wp2_with (go_at_call 31; with_reducible refine HS.out.mono ?_; rintro e w1 ⟨rfl, q, rfl⟩
               obtain ⟨⟨c0, c1, c2, c3, c4, c5, c6, f1⟩, ⟨d0, d1, d2, d3, d4, d5, d6, f2⟩⟩ := HX.out q
               have HB1 := Lib.hid (HB.out.trans ((below_drewN w.heap.size ((w.alloc (.cells #[.slice a n c, .int .i64 k.ep, .int .i64 k.sq, .int .i64 k.t0, .int .i64 k.t1, .int .i64 k.t2, .int .i64 k.t3] 33)).alloc (.cells #[.slice a' n c', .int .i64 k.ep, .int .i64 k.sq, .int .i64 k.t0, .int .i64 k.t1, .int .i64 k.t2, .int .i64 k.t3] 33)) q)))
               generalize ((w.alloc (.cells #[.slice a n c, .int .i64 k.ep, .int .i64 k.sq, .int .i64 k.t0, .int .i64 k.t1, .int .i64 k.t2, .int .i64 k.t3] 33)).alloc (.cells #[.slice a' n c', .int .i64 k.ep, .int .i64 k.sq, .int .i64 k.t0, .int .i64 k.t1, .int .i64 k.t2, .int .i64 k.t3] 33)).drewN q = w1 at *)
  go_ret
  exact ⟨rfl, HB1.out⟩
end Q
end Go.Proofs.YtmcalgnpinolmaaGreat
namespace Go.Proofs.YtmcalgnpinolmaaGreat
open Go.RowKit Go.Maps
set_option linter.unusedVariables false
set_option linter.unusedSimpArgs false
set_option maxRecDepth 20000
namespace Q

def Lrg (e : En) (nT : Nat) (s : ByteArray) (nL : Nat) : Prop := 1000 < s.size ∨ 600 < nL ∨ 1000 < e.data.size ∨ 100 < nT
instance (e : En) (nT : Nat) (s : ByteArray) (nL : Nat) : Decidable (Lrg e nT s nL) := by unfold Lrg; infer_instance

set_option maxHeartbeats 4000000 in
theorem large_q (w : World) (kind n : Int) (e : En) (aT : Option Addr) (nT cT : Nat) (s : ByteArray) (aL : Option Addr) (nL cL : Nat) :
    Calls Tryz.prog 14 #[actV kind n e aT nT cT s aL nL cL] w fun r w' => r = .returned (.bool (decide (Lrg e nT s nL))) ∧ Below w.heap.size w w' := by
  obtain ⟨b, ep, sq, data, dirty, cl, en⟩ := e
  have HB := Lib.hid ((Below.refl w.heap.size w).alloc (Nat.le_refl _) (.cells #[.int .i64 kind, .int .i64 n, .int .i64 b, .int .i64 ep, .int .i64 sq, .string data, .bool dirty, .int .i64 cl, .int .i64 en, .slice aT nT cT, .string s, .slice aL nL cL] 41))
  unfold actV
  simp only
  by_cases h1 : 1000 < s.size
  · have e1 : decide (Lrg ⟨b, ep, sq, data, dirty, cl, en⟩ nT s nL) = true := decide_eq_true (.inl h1)
    rw [e1]
    have i1 : (1000 : Int) < (s.size : Int) := by omega
    clear e1
    go_enter Tryz.func14, Tryz.ntmps14
    go_wp2_with fail
    go_ret
    exact ⟨rfl, HB.out⟩
  have i1 : ¬ (1000 : Int) < (s.size : Int) := by omega
  by_cases h2 : 600 < nL
  · have e1 : decide (Lrg ⟨b, ep, sq, data, dirty, cl, en⟩ nT s nL) = true := decide_eq_true (.inr (.inl h2))
    rw [e1]
    have i2 : (600 : Int) < (nL : Int) := by omega
    clear e1
    go_enter Tryz.func14, Tryz.ntmps14
    go_wp2_with fail
    go_ret
    exact ⟨rfl, HB.out⟩
  have i2 : ¬ (600 : Int) < (nL : Int) := by omega
  by_cases h3 : 1000 < data.size
  · have e1 : decide (Lrg ⟨b, ep, sq, data, dirty, cl, en⟩ nT s nL) = true := decide_eq_true (.inr (.inr (.inl h3)))
    rw [e1]
    have i3 : (1000 : Int) < (data.size : Int) := by omega
    clear e1
    go_enter Tryz.func14, Tryz.ntmps14
    go_wp2_with fail
    go_ret
    exact ⟨rfl, HB.out⟩
  have i3 : ¬ (1000 : Int) < (data.size : Int) := by omega
  by_cases h4 : 100 < nT
  · have e1 : decide (Lrg ⟨b, ep, sq, data, dirty, cl, en⟩ nT s nL) = true := decide_eq_true (.inr (.inr (.inr h4)))
    rw [e1]
    have i4 : (100 : Int) < (nT : Int) := by omega
    clear e1
    go_enter Tryz.func14, Tryz.ntmps14
    go_wp2_with fail
    go_ret
    exact ⟨rfl, HB.out⟩
  · have e1 : decide (Lrg ⟨b, ep, sq, data, dirty, cl, en⟩ nT s nL) = false := decide_eq_false (fun h => by unfold Lrg at h; simp only at h; omega)
    rw [e1]
    have i4 : ¬ (100 : Int) < (nT : Int) := by omega
    clear e1
    go_enter Tryz.func14, Tryz.ntmps14
    go_wp2_with fail
    go_ret
    exact ⟨rfl, HB.out⟩
end Q
end Go.Proofs.YtmcalgnpinolmaaGreat
namespace Go.Proofs.YtmcalgnpinolmaaGreat
open Go.ChangeShapes Go.WideShapes Go.ChangeAt Go.RowKit Go.Joins Go.Deep
set_option linter.unusedVariables false
set_option linter.unusedSimpArgs false
set_option maxRecDepth 20000
namespace Q

/-- an act, with where its parts lie -/
structure Ac where
  kind : Int
  n : Int
  e : En
  aT : Option Addr
  nT : Nat
  cT : Nat
  t : List Int
  s : ByteArray
  aL : Option Addr
  nL : Nat
  cL : Nat
  l : List (Int × Int)

instance : Inhabited Ac := ⟨⟨0, 0, zeroE, none, 0, 0, [], ⟨#[]⟩, none, 0, 0, []⟩⟩
def Ac.val (x : Ac) : Value := actV x.kind x.n x.e x.aT x.nT x.cT x.s x.aL x.nL x.cL
def Ac.cells (x : Ac) : List Value := [.int .i64 x.kind, .int .i64 x.n, .int .i64 x.e.b, .int .i64 x.e.ep, .int .i64 x.e.sq, .string x.e.data, .bool x.e.dirty, .int .i64 x.e.cl, .int .i64 x.e.n, .slice x.aT x.nT x.cT, .string x.s, .slice x.aL x.nL x.cL]

structure Ac.Ok (w : World) (x : Ac) : Prop where
  tt : C.Row w x.aT x.nT x.cT (C.i64s x.t)
  ll : KRow w x.aL x.nL x.cL x.l
  b1 : -9223372036854775808 ≤ x.e.b
  b2 : x.e.b ≤ 9223372036854775807

section
variable {H : Type} {enc : TypeId × Value → H} {W : World}

theorem open_i64s {fuel : Nat} {v : Value} {x : DataW H × List MemPlace} (h : DataW.trod enc Tryz.prog W 0 (fun _ => true) true fuel 38 [v] = some x) :
    ∃ a n cap l, v = .slice a n cap ∧ C.Row W a n cap (C.i64s l) := by
  rcases open_ints Tryz.underlying38 Tryz.underlying2 (by kernel_rfl) h with ⟨hcs, _⟩ | ⟨a, l, c, zs, hcs, _, hl, hm, hz, _, hcell, hwz⟩
  · injection hcs with hcs
    exact ⟨none, 0, 0, [], hcs, ⟨rfl, by omega, by simp [maxLen], .inl rfl⟩⟩
  · injection hcs with hcs
    have hz' : zs.length = c := by simpa using hz
    have e : C.i64s (zs.take l) = (List.range l).map fun i => .int .i64 (zs.getD i 0) := by
      apply List.ext_getElem?
      intro i
      unfold C.i64s
      rw [List.getElem?_map, List.getElem?_map, List.getElem?_take]
      by_cases hi : i < l
      · rw [if_pos hi, List.getElem?_range hi]
        have hil : i < zs.length := by omega
        simp [List.getD_eq_getElem?_getD, hil]
      · rw [if_neg hi, List.getElem?_eq_none (by simp; omega)]
        rfl
    refine ⟨some a, l, c, zs.take l, hcs, ?_⟩
    rw [e]
    exact row_in hl hm (by omega) hcell

theorem open_keeps9 {fuel : Nat} {v : Value} {x : DataW H × List MemPlace} (h : DataW.trod enc Tryz.prog W 0 (fun _ => true) true fuel 39 [v] = some x) :
    ∃ a n cap l, v = .slice a n cap ∧ KRow W a n cap l := by
  rcases open_slice_pairs Tryz.underlying39 Tryz.underlying45 (by kernel_rfl) rfl rfl (by kernel_rfl) (by kernel_rfl) h with ⟨hcs, _⟩ | ⟨a, l, c, m, n, V0, V1, D0, D1, P0, P1, hcs, _, hl, hm, hmm, _, hi⟩
  · injection hcs with hcs
    exact ⟨none, 0, 0, [], hcs, krow_nil W⟩
  · injection hcs with hcs
    simp only [if_true] at hmm
    have each : ∀ i, i < l → ∃ q : Int × Int, W.cell? (a.add (i * 2)) = some (.int .i64 q.1) ∧ W.cell? (a.add (i * 2 + 1)) = some (.int .i64 q.2) := by
      intro i hil
      obtain ⟨h1, h2, h3, h4⟩ := hi i (by omega)
      obtain ⟨n0, e0, _, _⟩ := DataW.trod_int Tryz.underlying3 h3
      obtain ⟨n1, e1, _, _⟩ := DataW.trod_int Tryz.underlying3 h4
      injection e0 with e0
      injection e1 with e1
      exact ⟨(n0, n1), by rw [h1, e0], by rw [h2, e1]⟩
    obtain ⟨q, hq⟩ := choose_lt each
    refine ⟨some a, l, c, (List.range l).map q, hcs, by simp, hl, hm, ?_⟩
    by_cases h0 : l = 0
    · subst h0; exact .inl rfl
    · obtain ⟨b, off, spot⟩ := a
      have hc0 := (hq 0 (by omega)).1
      have hspot : spot = none := by simpa [Addr.add] using World.cell?_spot hc0
      subst hspot
      refine .inr ⟨b, off, rfl, by simpa [Addr.add] using World.block_lt_of_cell? W _ hc0, fun i x hx => ?_⟩
      have hil : i < l := by have := (List.getElem?_eq_some_iff.1 hx).1; simpa using this
      have hxq : x = q i := by simp [hil] at hx; exact hx.symm
      subst hxq
      have := hq i hil
      rw [addr_add, addr_add, ← Nat.add_assoc] at this
      exact this

theorem open_ent {fuel : Nat} {c0 c1 c2 c3 c4 c5 c6 : Value} {x : DataW H × List MemPlace} (h : DataW.trod enc Tryz.prog W 0 (fun _ => true) true fuel 37 [c0, c1, c2, c3, c4, c5, c6] = some x) :
    ∃ e : En, [c0, c1, c2, c3, c4, c5, c6] = [.int .i64 e.b, .int .i64 e.ep, .int .i64 e.sq, .string e.data, .bool e.dirty, .int .i64 e.cl, .int .i64 e.n] ∧ -9223372036854775808 ≤ e.b ∧ e.b ≤ 9223372036854775807 := by
  have k3 : Tryz.prog.cellsOf 3 = 1 := by kernel_rfl
  have k2 : Tryz.prog.cellsOf 2 = 1 := by kernel_rfl
  have k4 : Tryz.prog.cellsOf 4 = 1 := by kernel_rfl
  have k9 : Tryz.prog.cellsOf 9 = 1 := by kernel_rfl
  have kv : Tryz.prog.cellsOf 30 = 2 := by kernel_rfl
  obtain ⟨xs, k, _, _, _, hxl, hf⟩ := DataW.trod_struct Tryz.underlying37 h
  have g0 := hf 0 _ rfl
  have g1 := hf 1 _ rfl
  have g2 := hf 2 _ rfl
  have g3 := hf 3 _ rfl
  have g4 := hf 4 _ rfl
  have g5 := hf 5 _ rfl
  match xs, hxl with
  | [y0, y1, y2, y3, y4, y5], _ =>
    simp [k3] at g0 g4
    simp [kv] at g1
    simp [k9] at g2
    simp [k4] at g3
    simp [k2] at g5
    obtain ⟨xs', k', _, _, _, hxl', hf'⟩ := DataW.trod_struct Tryz.underlying30 g1
    have v0 := hf' 0 _ rfl
    have v1 := hf' 1 _ rfl
    match xs', hxl' with
    | [z0, z1], _ =>
      simp [k2] at v0 v1
      obtain ⟨n0, e0, _, w0⟩ := DataW.trod_int Tryz.underlying3 g0
      obtain ⟨n1, e1, _, w1⟩ := DataW.trod_int Tryz.underlying2 v0
      obtain ⟨n2, e2, _, w2⟩ := DataW.trod_int Tryz.underlying2 v1
      obtain ⟨zs, e3, _, w3⟩ := DataW.trod_string Tryz.underlying9 g2
      obtain ⟨bo, e4, _⟩ := DataW.trod_bool Tryz.underlying4 g3
      obtain ⟨n5, e5, _, w5⟩ := DataW.trod_int Tryz.underlying3 g4
      obtain ⟨n6, e6, _, w6⟩ := DataW.trod_int Tryz.underlying2 g5
      injection e0 with e0
      injection e1 with e1
      injection e2 with e2
      injection e3 with e3
      injection e4 with e4
      injection e5 with e5
      injection e6 with e6
      subst e0 e1 e2 e3 e4 e5 e6
      exact ⟨⟨n0, n1, n2, zs, bo, n5, n6⟩, rfl, (wf_i64 w0).1, (wf_i64 w0).2⟩

/-- acts that came in -/
def Acts9 (w : World) (a : Option Addr) (n c : Nat) (l : List Ac) : Prop :=
  l.length = n ∧ n ≤ c ∧ c ≤ maxLen ∧ (∀ x ∈ l, x.Ok w) ∧ (l = [] ∨ ∃ b off, a = some ⟨b, off, none⟩ ∧ b < w.heap.size ∧ ∀ k x, l[k]? = some x → ∀ i v, x.cells[i]? = some v → w.cell? ⟨b, off + (k * 12 + i), none⟩ = some v)

theorem open_acts9 {fuel : Nat} {v : Value} {x : DataW H × List MemPlace} (h : DataW.trod enc Tryz.prog W 0 (fun _ => true) true fuel 22 [v] = some x) :
    ∃ a n cap l, v = .slice a n cap ∧ Acts9 W a n cap l := by
  have c41 : Tryz.prog.cellsOf 41 = 12 := by kernel_rfl
  have k3 : Tryz.prog.cellsOf 3 = 1 := by kernel_rfl
  have k9 : Tryz.prog.cellsOf 9 = 1 := by kernel_rfl
  have ke : Tryz.prog.cellsOf 37 = 7 := by kernel_rfl
  have kt : Tryz.prog.cellsOf 38 = 1 := by kernel_rfl
  have kl : Tryz.prog.cellsOf 39 = 1 := by kernel_rfl
  rcases open_slice Tryz.underlying22 h with ⟨hcs, _⟩ | ⟨a, l, c, m, n, D, Pl, hcs, _, hl, hm, hmm, _, hi⟩
  · injection hcs with hcs
    exact ⟨none, 0, 0, [], hcs, rfl, Nat.le_refl _, by simp [maxLen], by simp, .inl rfl⟩
  · injection hcs with hcs
    simp only [if_true] at hmm
    have each : ∀ i, i < l → ∃ q : Ac, q.Ok W ∧ ∀ j v, q.cells[j]? = some v → W.cell? (a.add (i * 12 + j)) = some v := by
      intro i hil
      obtain ⟨cs', h1, h2⟩ := hi i (by omega)
      rw [c41] at h1
      obtain ⟨_, hlen, hcell⟩ := World.cells?_some h1
      obtain ⟨xs, k, _, _, _, hxl, hf⟩ := DataW.trod_struct Tryz.underlying41 h2
      match cs', hlen with
      | [v0, v1, v2, v3, v4, v5, v6, v7, v8, v9, v10, v11], _ =>
        have g0 := hf 0 _ rfl
        have g1 := hf 1 _ rfl
        have g2 := hf 2 _ rfl
        have g3 := hf 3 _ rfl
        have g4 := hf 4 _ rfl
        have g5 := hf 5 _ rfl
        match xs, hxl with
        | [y0, y1, y2, y3, y4, y5], _ =>
          simp [k3] at g0 g1
          simp [ke] at g2
          simp [kt] at g3
          simp [k9] at g4
          simp [kl] at g5
          obtain ⟨n0, e0, _, w0⟩ := DataW.trod_int Tryz.underlying3 g0
          obtain ⟨n1, e1, _, w1⟩ := DataW.trod_int Tryz.underlying3 g1
          obtain ⟨e, e2, hb1, hb2⟩ := open_ent g2
          obtain ⟨aT, nT, cT, lt, e3, hT⟩ := open_i64s g3
          obtain ⟨zs, e4, _, w4⟩ := DataW.trod_string Tryz.underlying9 g4
          obtain ⟨aL, nL, cL, ks, e5, hL⟩ := open_keeps9 g5
          injection e0 with e0
          injection e1 with e1
          injection e4 with e4
          simp at e2
          obtain ⟨rfl, rfl, rfl, rfl, rfl, rfl, rfl⟩ := e2
          subst e0 e1 e3 e4 e5
          refine ⟨⟨n0, n1, e, aT, nT, cT, lt, zs, aL, nL, cL, ks⟩, ⟨hT, hL, hb1, hb2⟩, fun j v hj => ?_⟩
          have hjl : j < 12 := by have := (List.getElem?_eq_some_iff.1 hj).1; simpa [Ac.cells] using this
          have := hcell j (by omega)
          rw [add_add] at this
          rw [this]
          exact hj
    obtain ⟨q, hq⟩ := choose_lt each
    refine ⟨some a, l, c, (List.range l).map q, hcs, by simp, hl, hm, ?_, ?_⟩
    · intro x hx
      obtain ⟨i, hi', rfl⟩ := List.mem_map.1 hx
      exact (hq i (List.mem_range.1 hi')).1
    · by_cases h0 : l = 0
      · subst h0; exact .inl rfl
      · obtain ⟨b, off, spot⟩ := a
        have hc0 := (hq 0 (by omega)).2 0 _ rfl
        have hspot : spot = none := by simpa [Addr.add] using World.cell?_spot hc0
        subst hspot
        refine .inr ⟨b, off, rfl, by simpa [Addr.add] using World.block_lt_of_cell? W _ hc0, fun i x hx j v hv => ?_⟩
        have hil : i < l := by have := (List.getElem?_eq_some_iff.1 hx).1; simpa using this
        have hxq : x = q i := by simp [hil] at hx; exact hx.symm
        subst hxq
        have := (hq i hil).2 j v hv
        rw [addr_add] at this
        exact this
end
end Q
end Go.Proofs.YtmcalgnpinolmaaGreat
namespace Go.Proofs.YtmcalgnpinolmaaGreat
open Go.RowKit Go.Maps
set_option linter.unusedVariables false
set_option linter.unusedSimpArgs false
set_option maxRecDepth 20000
namespace Q
variable {w0 : World} {B : Bk} {G : Gm} {V V' : Vi} {K K' : Int}

theorem Ac.Ok.below {w w' : World} {x : Ac} (h : x.Ok w) (hb : Below w.heap.size w w') : x.Ok w' :=
  ⟨C.row_below h.tt hb (Nat.le_refl _), krow_but h.ll (But.of_below hb) (krow_old h.ll (by simp)), h.b1, h.b2⟩

/-- an act's cells -/
structure XAt (w : World) (P o : Nat) (x : Ac) : Prop where
  c0 : w.cell? ⟨P, o, none⟩ = some (.int .i64 x.kind)
  c1 : w.cell? ⟨P, o + 1, none⟩ = some (.int .i64 x.n)
  c2 : w.cell? ⟨P, o + 2, none⟩ = some (.int .i64 x.e.b)
  c3 : w.cell? ⟨P, o + 3, none⟩ = some (.int .i64 x.e.ep)
  c4 : w.cell? ⟨P, o + 4, none⟩ = some (.int .i64 x.e.sq)
  c5 : w.cell? ⟨P, o + 5, none⟩ = some (.string x.e.data)
  c6 : w.cell? ⟨P, o + 6, none⟩ = some (.bool x.e.dirty)
  c7 : w.cell? ⟨P, o + 7, none⟩ = some (.int .i64 x.e.cl)
  c8 : w.cell? ⟨P, o + 8, none⟩ = some (.int .i64 x.e.n)
  c9 : w.cell? ⟨P, o + 9, none⟩ = some (.slice x.aT x.nT x.cT)
  c10 : w.cell? ⟨P, o + 10, none⟩ = some (.string x.s)
  c11 : w.cell? ⟨P, o + 11, none⟩ = some (.slice x.aL x.nL x.cL)
theorem XAt.but {w w' : World} {P o : Nat} {x : Ac} (h : XAt w P o x) {q : List Nat} (hb : But q w w') (hn : P ∉ q) : XAt w' P o x := by
  have hl := World.block_lt_of_cell? w _ h.c0
  refine ⟨?_, ?_, ?_, ?_, ?_, ?_, ?_, ?_, ?_, ?_, ?_, ?_⟩
  · rw [hb.cell hl hn]; exact h.c0
  · rw [hb.cell hl hn]; exact h.c1
  · rw [hb.cell hl hn]; exact h.c2
  · rw [hb.cell hl hn]; exact h.c3
  · rw [hb.cell hl hn]; exact h.c4
  · rw [hb.cell hl hn]; exact h.c5
  · rw [hb.cell hl hn]; exact h.c6
  · rw [hb.cell hl hn]; exact h.c7
  · rw [hb.cell hl hn]; exact h.c8
  · rw [hb.cell hl hn]; exact h.c9
  · rw [hb.cell hl hn]; exact h.c10
  · rw [hb.cell hl hn]; exact h.c11
theorem XAt.below {w w' : World} {P o : Nat} {x : Ac} (h : XAt w P o x) (hb : Below w.heap.size w w') : XAt w' P o x := h.but (But.of_below hb) (by simp)
theorem XAt.new (w : World) (x : Ac) : XAt (w.alloc (.cells #[.int .i64 x.kind, .int .i64 x.n, .int .i64 x.e.b, .int .i64 x.e.ep, .int .i64 x.e.sq, .string x.e.data, .bool x.e.dirty, .int .i64 x.e.cl, .int .i64 x.e.n, .slice x.aT x.nT x.cT, .string x.s, .slice x.aL x.nL x.cL] 41)) w.heap.size 0 x := by
  refine ⟨?_, ?_, ?_, ?_, ?_, ?_, ?_, ?_, ?_, ?_, ?_, ?_⟩ <;> (rw [World.cell?_alloc_mark]; rfl)

/-- the k-th of acts that came in, read later -/
theorem acts9_at {w w' : World} {a : Option Addr} {n c : Nat} {l : List Ac} (h : Acts9 w a n c l) (hb : Below w.heap.size w w') {k : Nat} (hk : k < n) :
    ∃ b off x, a = some ⟨b, off, none⟩ ∧ l[k]? = some x ∧ x.Ok w ∧ x.Ok w' ∧ XAt w' b (off + k * 12) x ∧ b < w.heap.size := by
  obtain ⟨h1, h2, h3, h4, h5⟩ := h
  rcases h5 with h5 | ⟨b, off, ha, hlt, hc⟩
  · subst h5; simp at h1; omega
  · obtain ⟨x, hx⟩ : ∃ x, l[k]? = some x := ⟨l[k]'(by omega), List.getElem?_eq_getElem _⟩
    have hok := h4 x (List.mem_of_getElem? hx)
    have g := hc k x hx
    have hX : XAt w b (off + k * 12) x := by
      refine ⟨?_, ?_, ?_, ?_, ?_, ?_, ?_, ?_, ?_, ?_, ?_, ?_⟩
      · exact g 0 _ rfl
      all_goals rw [Nat.add_assoc]
      · exact g 1 _ rfl
      · exact g 2 _ rfl
      · exact g 3 _ rfl
      · exact g 4 _ rfl
      · exact g 5 _ rfl
      · exact g 6 _ rfl
      · exact g 7 _ rfl
      · exact g 8 _ rfl
      · exact g 9 _ rfl
      · exact g 10 _ rfl
      · exact g 11 _ rfl
    exact ⟨b, off, x, ha, hx, hok, hok.below hb, hX.below hb, hlt⟩

/-! the methods, by the address of the cache -/
theorem Rq.told {w : World} (h : Rq w0 w B G V K) {q : Nat} (hq : B.qB = q) : Calls Tryz.prog 13 #[.pointer (some ⟨q, 0, none⟩)] w fun e w' => ∃ a cap, e = .returned (.agg #[.slice a (num G.nb V.e) cap, .int .i64 V.k.ep, .int .i64 V.k.sq, .int .i64 V.k.t0, .int .i64 V.k.t1, .int .i64 V.k.t2, .int .i64 V.k.t3]) ∧ OwnE w.heap.size w' a cap (allV G.nb V.e) ∧ Below w.heap.size w w' := by
  subst hq; exact told_cs w h.cs
theorem Rq.all {w : World} (h : Rq w0 w B G V K) {q : Nat} (hq : B.qB = q) : Calls Tryz.prog 20 #[.pointer (some ⟨q, 0, none⟩)] w fun e w' => ∃ a cap, e = .returned (.slice a (num G.nb V.e) cap) ∧ OwnE w.heap.size w' a cap (allV G.nb V.e) ∧ Below w.heap.size w w' := by
  subst hq; exact all_cs w h.cs
theorem Rq.room {w : World} (h : Rq w0 w B G V K) {q : Nat} (hq : B.qB = q) : Calls Tryz.prog 24 #[.pointer (some ⟨q, 0, none⟩)] w fun e w' => e = .returned (.int .i64 ((G.N - 6 : Nat) : Int)) ∧ w = w' := by
  subst hq; exact room_cs w h.cs
theorem Rq.get {w : World} (h : Rq w0 w B G V K) {q : Nat} (hq : B.qB = q) (b : Int) (hb0 : -9223372036854775808 ≤ b) (hb1 : b ≤ 9223372036854775807) : Calls Tryz.prog 25 #[.pointer (some ⟨q, 0, none⟩), .int .i64 b] w fun e w' => e = .returned (.tuple #[entV (V.e b), .bool (V.e b).isSome]) ∧ Below w.heap.size w w' := by
  subst hq; exact get_cs w h.cs b hb0 hb1
/-- an act is done -/
theorem Rq.act {w : World} (h : Rq w0 w B G V K) {q : Nat} (hq : B.qB = q) (hK : K ≤ 600000000) (x : Ac) (hx : x.Ok w) :
    Calls Tryz.prog 22 #[.pointer (some ⟨q, 0, none⟩), .agg #[.int .i64 x.kind, .int .i64 x.n, .int .i64 x.e.b, .int .i64 x.e.ep, .int .i64 x.e.sq, .string x.e.data, .bool x.e.dirty, .int .i64 x.e.cl, .int .i64 x.e.n, .slice x.aT x.nT x.cT, .string x.s, .slice x.aL x.nL x.cL]] w fun r w' => r = .returned (.int .i64 (doE G.nb G.N V x.kind x.e x.t)) ∧ ∃ r, Rq w0 w' (B.row r) G (doVi G.nb G.N V x.kind x.e x.t) (K + 2002) ∧ But B.l w w' ∧ (r = B.rb ∨ w.heap.size ≤ r) := by
  subst hq
  refine (do_cs w h.cs hK x.kind x.n x.e x.aT x.nT x.cT x.s x.aL x.nL x.cL x.t hx.tt hx.b1 hx.b2).mono ?_
  rintro e w' ⟨rfl, ha⟩
  obtain ⟨r, h1, h2, h3⟩ := h.after ha
  exact ⟨rfl, r, h1, h3, h2⟩
theorem Rq.but {w w' : World} (h : Rq w0 w B G V K) {q : List Nat} (hb : But q w w') (h1 : ∀ x ∈ B.l, x ∉ q) (h2 : ∀ x ∈ q, w0.heap.size ≤ x) : Rq w0 w' B G V K := ⟨h.cs.but hb h1, h.be.trans (hb.to_below h2 h.be.size), h.od⟩
/-- a block that is none of the cache's stays so -/
theorem row_out {w : World} {r P : Nat} (h : P ∉ B.l) (hr : r = B.rb ∨ w.heap.size ≤ r) (hP : P < w.heap.size) : P ∉ (B.row r).l := fun hm => by
  rcases row_l hr P hm with h1 | h1
  · exact h h1
  · omega
/-- what was told, in a block -/
def Told (w : World) (P : Nat) (a : Option Addr) (n c : Nat) (k : Kp) : Prop := w.heap[P]? = some (.cells #[.slice a n c, .int .i64 k.ep, .int .i64 k.sq, .int .i64 k.t0, .int .i64 k.t1, .int .i64 k.t2, .int .i64 k.t3] 33 (0, 0))
theorem Told.new (w : World) (a : Option Addr) (n c : Nat) (k : Kp) : Told (w.alloc (.cells #[.slice a n c, .int .i64 k.ep, .int .i64 k.sq, .int .i64 k.t0, .int .i64 k.t1, .int .i64 k.t2, .int .i64 k.t3] 33)) w.heap.size a n c k := heap_alloc_new w _
theorem Told.lt {w : World} {P : Nat} {a : Option Addr} {n c : Nat} {k : Kp} (h : Told w P a n c k) : P < w.heap.size := lt_of_heap h
theorem Told.but {w w' : World} {P : Nat} {a : Option Addr} {n c : Nat} {k : Kp} (h : Told w P a n c k) {q : List Nat} (hb : But q w w') (hn : P ∉ q) : Told w' P a n c k := by
  unfold Told; rw [hb.block P h.lt hn]; exact h
theorem Told.below {w w' : World} {P : Nat} {a : Option Addr} {n c : Nat} {k : Kp} (h : Told w P a n c k) (hb : Below w.heap.size w w') : Told w' P a n c k := h.but (But.of_below hb) (by simp)
theorem Told.at {w : World} {P : Nat} {a : Option Addr} {n c : Nat} {k : Kp} (h : Told w P a n c k) : TAt w P (.slice a n c) k.ep k.sq k.t0 k.t1 k.t2 k.t3 := TAt.of h
theorem set7 {w : World} {P : Nat} {T : TypeId} {m : Nat × Nat} {a0 a1 a2 a3 a4 a5 a6 : Value} (h : w.heap[P]? = some (.cells #[a0, a1, a2, a3, a4, a5, a6] T m)) (v0 v1 v2 v3 v4 v5 v6 : Value) : (w.setCells P 0 [v0, v1, v2, v3, v4, v5, v6]).heap[P]? = some (.cells #[v0, v1, v2, v3, v4, v5, v6] T m) := by
  simp [World.setCells, World.setCell, Array.getElem?_modify, h, Array.setIfInBounds]
theorem Told.set {w : World} {P : Nat} {a : Option Addr} {n c : Nat} {k : Kp} (h : Told w P a n c k) (a' : Option Addr) (n' c' : Nat) (k' : Kp) : Told (w.setCells P 0 [.slice a' n' c', .int .i64 k'.ep, .int .i64 k'.sq, .int .i64 k'.t0, .int .i64 k'.t1, .int .i64 k'.t2, .int .i64 k'.t3]) P a' n' c' k' := set7 h _ _ _ _ _ _ _
theorem Rq.out {w : World} (h : Rq w0 w B G V K) {P : Nat} (hP : w.heap.size ≤ P) : P ∉ B.l := fun hm => by have := h.cs.lt _ hm; omega

theorem Ac.large (w : World) (x : Ac) : Calls Tryz.prog 14 #[.agg #[.int .i64 x.kind, .int .i64 x.n, .int .i64 x.e.b, .int .i64 x.e.ep, .int .i64 x.e.sq, .string x.e.data, .bool x.e.dirty, .int .i64 x.e.cl, .int .i64 x.e.n, .slice x.aT x.nT x.cT, .string x.s, .slice x.aL x.nL x.cL]] w fun r w' => r = .returned (.bool (decide (Lrg x.e x.nT x.s x.nL))) ∧ Below w.heap.size w w' :=
  large_q w x.kind x.n x.e x.aT x.nT x.cT x.s x.aL x.nL x.cL

section
open Go.ChangeShapes Go.WideShapes Go.ChangeAt Go.Joins Go.Deep
theorem open_ver {H : Type} {enc : TypeId × Value → H} {W : World} {v : Value} {d : DataW H} {p : List MemPlace} {base : Nat} (hv : Value.okWide Tryz.prog W .any base 30 v) (h : DataW.Trod enc Tryz.prog W 0 (fun _ => true) true 30 v d p) :
    ∃ ep sq, v = .agg #[.int .i64 ep, .int .i64 sq] := by
  obtain ⟨v0, v1, y0, y1, n, rfl, _, _, h0, h1⟩ := open_agg2 Tryz.underlying30 (by kernel_rfl) (by kernel_rfl) hv h
  obtain ⟨n0, e0, _, _⟩ := DataW.trod_int Tryz.underlying2 h0
  obtain ⟨n1, e1, _, _⟩ := DataW.trod_int Tryz.underlying2 h1
  injection e0 with e0
  injection e1 with e1
  exact ⟨n0, n1, by rw [e0, e1]⟩
end

/-! what an act tells, and what it leaves as it is -/
theorem clean_none {b ep sq : Int} (h : cleanE V b ep sq ≠ 0) : cleanVi V b ep sq = V := by
  unfold cleanVi
  unfold cleanE at h
  cases hb : V.e b with
  | none => simp [stepV, hb]
  | some x =>
    rw [hb] at h
    simp only at h
    split at h
    · exact absurd rfl h
    · rename_i hn; simp [stepV, hb, hn]
theorem drop_none {b : Int} (h : dropE V b ≠ 0) : dropVi V b = V := by
  unfold dropVi
  unfold dropE at h
  cases hb : V.e b with
  | none => simp [stepV, updV_none hb]
  | some x => rw [hb] at h; exact absurd rfl h
theorem doE_no {nb N : Nat} {kind : Int} {e : En} {t : List Int} (h : doE nb N V kind e t ≠ 0) : doVi nb N V kind e t = V := by
  unfold doE at h
  unfold doVi
  by_cases k0 : kind = 0
  · rw [if_pos k0] at h ⊢; exact putVi_0 h
  rw [if_neg k0] at h ⊢
  by_cases k1 : kind = 1
  · rw [if_pos k1] at h ⊢; exact clean_none h
  rw [if_neg k1] at h ⊢
  by_cases k2 : kind = 2
  · rw [if_pos k2] at h ⊢; exact drop_none h
  rw [if_neg k2] at h ⊢
  by_cases k3 : kind = 3
  · rw [if_pos k3] at h ⊢
    unfold keepE at h
    split at h
    · exact absurd rfl h
    · rename_i hn; exact if_neg hn
  rw [if_neg k3] at h ⊢
  by_cases k8 : kind = 8
  · rw [if_pos k8] at h ⊢
    unfold keepE at h
    split at h
    · exact absurd rfl h
    · rename_i hn; exact if_neg hn
  rw [if_neg k8] at h
  exact absurd rfl h
theorem keepE_in (ep sq : Int) (l : List Int) : keepE ep sq l = 0 ∨ keepE ep sq l = 1 := by
  unfold keepE; split
  · exact .inl rfl
  · exact .inr rfl
theorem doE_in (nb N : Nat) (V : Vi) (kind : Int) (e : En) (t : List Int) : doE nb N V kind e t = 0 ∨ doE nb N V kind e t = 1 ∨ doE nb N V kind e t = 2 ∨ doE nb N V kind e t = 3 ∨ doE nb N V kind e t = 10 ∨ doE nb N V kind e t = 12 := by
  unfold doE
  split
  · unfold putE checkE
    repeat' split
    all_goals simp
  split
  · unfold cleanE
    repeat' split
    all_goals simp
  split
  · unfold dropE
    split <;> simp
  split
  · rcases keepE_in e.ep e.sq t with h | h <;> rw [h] <;> simp
  split
  · rcases keepE_in e.ep e.sq t with h | h <;> rw [h] <;> simp
  simp
end Q
end Go.Proofs.YtmcalgnpinolmaaGreat
