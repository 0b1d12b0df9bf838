/-
  Open: the log's records are taken up, one after another.
  A cache that is opened for the first time, and once more; Sync; a ring that is too small.
  What a law's call makes: its own device, its own cache; the literals that lay entries.
  awake: calls whose answers the document fixes.
  awake: the walk.
-/
import Derived.Test.YtmcalgnpinolmaaGreatQB
import Derived.Test.YtmcalgnpinolmaaGreatQC
import Derived.Test.YtmcalgnpinolmaaGreatCel7
import Derived.Test.YtmcalgnpinolmaaGreatQD
import Derived.Test.YtmcalgnpinolmaaGreatSDev2
namespace Go.Proofs.YtmcalgnpinolmaaGreat
open Go.RowKit Go.Maps
set_option linter.unusedVariables false
set_option linter.unusedSimpArgs false
set_option maxRecDepth 20000
namespace Q

theorem read_q {qB lB N nb mE : Nat} {k0 : Kp} (w : World) (q : CacheC w qB lB N nb mE k0) (d : Deed) (k : Kp) (hnb : nb ≤ 32) (hd : MayD nb d) (hk : MayK k) :
    Calls Tryz.prog 43 #[.pointer (some ⟨qB, 0, none⟩), .string (txQ d k)] w fun e w' => e = .returned (.tuple #[recV d k, .bool true]) ∧ Below w.heap.size w w' := by
  obtain ⟨p, s, t0, t1, t2, t3⟩ := k
  cases d with
  | lay x =>
    obtain ⟨b, ep, sq, data, dirty, cl, n⟩ := x
    cases dirty with
    | true => exact read_layT w q b ep sq data cl n p s t0 t1 t2 t3 hnb hd hk
    | false => exact read_layF w q b ep sq data cl n p s t0 t1 t2 t3 hnb hd hk
  | clean b ep sq => exact read_clean w q b ep sq p s t0 t1 t2 t3 hnb hd hk
  | drop b => exact read_drop w q b p s t0 t1 t2 t3 hnb hd hk
  | note => exact read_note w q p s t0 t1 t2 t3 hnb hd hk

def Drc := Deed × Kp
def tx1 (x : Deed × Kp) : ByteArray := txQ x.1 x.2

variable {D : M.Dv → Prop} {L : M.Lg} {K : Int} {dB sB mB : Nat} {G : Gm}

theorem take_snoc {α : Type} {l : List α} {k : Nat} {x : α} (h : l[k]? = some x) : l.take (k + 1) = l.take k ++ [x] := by
  rw [List.take_add_one, h]; rfl

theorem may_kp0 : MayK kp0 := ⟨by decide, by decide, by decide, by decide, by decide, by decide⟩

/-- the cells of a cache that is made anew -/
theorem cache_made (w : World) (lB mE : Nat) (N nb : Nat) : CacheC (w.alloc (.cells #[.pointer (some ⟨lB, 0, none⟩), .int .i64 (N : Int), .int .i64 (nb : Int), .map (some mE), .int .i64 0, .int .i64 0, .int .i64 0, .int .i64 0, .int .i64 0, .int .i64 0] 94)) w.heap.size lB N nb mE kp0 where
  p0 := by rw [World.cell?_alloc_mark]; rfl
  p1 := by rw [World.cell?_alloc_mark]; rfl
  p2 := by rw [World.cell?_alloc_mark]; rfl
  p3 := by rw [World.cell?_alloc_mark]; rfl
  p4 := by rw [World.cell?_alloc_mark]; rfl
  p5 := by rw [World.cell?_alloc_mark]; rfl
  p6 := by rw [World.cell?_alloc_mark]; rfl
  p7 := by rw [World.cell?_alloc_mark]; rfl
  p8 := by rw [World.cell?_alloc_mark]; rfl
  p9 := by rw [World.cell?_alloc_mark]; rfl
  fz := fun o => by
    have h := heap_alloc_new w (.cells #[.pointer (some ⟨lB, 0, none⟩), .int .i64 (N : Int), .int .i64 (nb : Int), .map (some mE), .int .i64 0, .int .i64 0, .int .i64 0, .int .i64 0, .int .i64 0, .int .i64 0] 94)
    unfold World.frozen?
    simp only [h]
    simp

set_option maxHeartbeats 4000000 in
theorem open_any (w : World) (ds : List (Deed × Kp)) (hK : K ≤ 1000000000) (hnb1 : 1 ≤ G.nb) (hnb : G.nb ≤ 32) (h8 : 8 ≤ G.N) (hN : G.N ≤ 512)
    (hs : L.rs.map (·.s) = ds.map tx1) (hm : ∀ x ∈ ds, MayD G.nb x.1 ∧ MayK x.2) (hcn : num G.nb (vis (run L.head none0 ds)) ≤ G.N - 6)
    (ho : Calls Tryz.prog 41 #[.pointer (some ⟨dB, 0, none⟩), .int .i64 (G.first : Int), .int .i64 (G.N : Int), .int .i64 (G.a : Int), .int .i64 (G.b : Int)] w fun e w' => ∃ lB cB rb d' c', e = .returned (.tuple #[.pointer (some ⟨lB, 0, none⟩), .int .i64 0]) ∧
      DevAt w' dB sB mB G.n d' ∧ Free d' ∧ LG w' dB sB mB G.n d' lB rb cB G.first G.N G.a G.b c' L K ∧ (w.heap.size ≤ lB ∧ w.heap.size ≤ cB ∧ w.heap.size ≤ rb) ∧ But [dB, sB, mB] w w' ∧ D d') :
    Calls Tryz.prog 17 #[.pointer (some ⟨dB, 0, none⟩), .int .i64 (G.first : Int), .int .i64 (G.N : Int), .int .i64 (G.a : Int), .int .i64 (G.b : Int), .int .i64 (G.nb : Int)] w fun e w' => ∃ (B : Bk) (d' : M.Dv) (c' : M.Cl), e = .returned (.tuple #[.pointer (some ⟨B.qB, 0, none⟩), .int .i64 0]) ∧ B.dB = dB ∧ B.sB = sB ∧ B.mB = mB ∧
      CG w' B G ⟨d', c', L, run L.head none0 ds, lastK kp0 ds, K⟩ ∧ (w.heap.size ≤ B.lB ∧ w.heap.size ≤ B.cB ∧ w.heap.size ≤ B.rb ∧ w.heap.size ≤ B.qB ∧ w.heap.size ≤ B.mE) ∧ But [dB, sB, mB] w w' ∧ D d' := by
  have HO := Lib.hid ho
  have i1 : (1 : Int) ≤ (G.nb : Int) := by omega
  have i2 : (G.nb : Int) ≤ 32 := by omega
  have i3 : (8 : Int) ≤ (G.N : Int) := by omega
  have Hs := Lib.hid hs
  have Hm := Lib.hid hm
  have Hcn := Lib.hid hcn
  have HK := Lib.hid hK
  have Hg := Lib.hid (And.intro hnb1 (And.intro hnb (And.intro h8 hN)))
  clear ho hs hm hcn hK hnb1 hnb h8 hN
  have hmm := @run_makeMap Tryz.prog
  go_enter Tryz.func17, Tryz.ntmps17
  go_wp2_with (go_at_call 41; with_reducible refine HO.out.mono ?_; rintro e w1 ⟨lB, cB, rb, d', c', rfl, hdv, hfr, hlg, hnew, hbut, hD⟩
               have H1 := Lib.hid (And.intro hdv (And.intro hfr (And.intro hlg (And.intro hnew (And.intro hbut hD)))))
               clear hdv hfr hlg hnew hbut hD)
  have HQ0 : Hid (CacheC ((w1.alloc (.map #[] 0)).alloc (.cells #[.pointer (some ⟨lB, 0, none⟩), .int .i64 (G.N : Int), .int .i64 (G.nb : Int), .map (some w1.heap.size), .int .i64 0, .int .i64 0, .int .i64 0, .int .i64 0, .int .i64 0, .int .i64 0] 94)) (w1.heap.size + 1) lB G.N G.nb w1.heap.size kp0) := Lib.hid (by have := cache_made (w1.alloc (.map #[] 0)) lB w1.heap.size G.N G.nb; simpa using this)
  have HM0 : Hid (MapQ ((w1.alloc (.map #[] 0)).alloc (.cells #[.pointer (some ⟨lB, 0, none⟩), .int .i64 (G.N : Int), .int .i64 (G.nb : Int), .map (some w1.heap.size), .int .i64 0, .int .i64 0, .int .i64 0, .int .i64 0, .int .i64 0, .int .i64 0] 94)) w1.heap.size none0) := Lib.hid ((mapq_made w1).but (But.of_below ((Below.refl _ _).alloc (Nat.le_refl _) _)) (by simp))
  have HB0 : Hid (Below w1.heap.size w1 ((w1.alloc (.map #[] 0)).alloc (.cells #[.pointer (some ⟨lB, 0, none⟩), .int .i64 (G.N : Int), .int .i64 (G.nb : Int), .map (some w1.heap.size), .int .i64 0, .int .i64 0, .int .i64 0, .int .i64 0, .int .i64 0, .int .i64 0] 94))) := Lib.hid (((Below.refl _ _).alloc (Nat.le_refl _) _).alloc (by simp) _)
  have hlen : L.rs.length = ds.length := by have := congrArg List.length Hs.out; simpa using this
  have HRc : Hid (∀ w', Below w1.heap.size w1 w' → Calls Tryz.prog 42 #[.pointer (some ⟨lB, 0, none⟩)] w' fun e w'' => ∃ a cap, e = .returned (.slice a ds.length cap) ∧ C.Own 9 w'' w'.heap.size a ds.length cap (C.strs (ds.map tx1)) ∧ Below w'.heap.size w' w'') := Lib.hid (fun w' hb => by
    have := records_any w' L (H1.out.2.2.1.below hb).la
    rw [Hs.out, hlen] at this
    exact this)
  clear hlen
  have HRd : Hid (∀ (w' : World) (k0 : Kp) (x : Deed × Kp), CacheC w' (w1.heap.size + 1) lB G.N G.nb w1.heap.size k0 → x ∈ ds → Calls Tryz.prog 43 #[.pointer (some ⟨w1.heap.size + 1, 0, none⟩), .string (tx1 x)] w' fun e w'' => e = .returned (.tuple #[recV x.1 x.2, .bool true]) ∧ Below w'.heap.size w' w'') := Lib.hid (fun w' k0 x q hx => read_q w' q x.1 x.2 Hg.out.2.1 (Hm.out x hx).1 (Hm.out x hx).2)
  have HE : Hid (∀ k, ∀ b y, run L.head none0 (ds.take k) b = some y → 0 ≤ b ∧ b < (G.nb : Int)) := Lib.hid (fun k b y hy => (run_ok (OkE.none G.nb L.head) (Int.le_refl _) (l := ds.take k) (fun x hx => (Hm.out x (List.mem_of_mem_take hx)).1)).range hy)
  have HDo : Hid (∀ (w' : World) (k0 : Kp) (k : Nat) (x : Deed × Kp), CacheC w' (w1.heap.size + 1) lB G.N G.nb w1.heap.size k0 → MapQ w' w1.heap.size (run L.head none0 (ds.take k)) → ds[k]? = some x → Calls Tryz.prog 44 #[.pointer (some ⟨w1.heap.size + 1, 0, none⟩), recV x.1 x.2, .int .i64 (L.head + (k : Int))] w' fun e w'' => e = .returned (.tuple #[]) ∧ CacheC w'' (w1.heap.size + 1) lB G.N G.nb w1.heap.size (lastK kp0 (ds.take (k + 1))) ∧ MapQ w'' w1.heap.size (run L.head none0 (ds.take (k + 1))) ∧ But [w1.heap.size + 1, w1.heap.size] w' w'') := Lib.hid (fun w' k0 k x q hmq hx => by
    have hxm := (List.getElem?_eq_some_iff.1 hx)
    have := do_any w' q hmq (by omega) (HE.out k) Hg.out.2.1 x.1 (Hm.out x (List.mem_of_getElem? hx)).1 x.2 (L.head + (k : Int))
    rw [take_snoc hx, lastK_snoc, run_snoc, List.length_take, Nat.min_eq_left (by have := hxm.1; omega)]
    exact this)
  have HLh : Hid (∀ w', But [w1.heap.size + 1, w1.heap.size] ((w1.alloc (.map #[] 0)).alloc (.cells #[.pointer (some ⟨lB, 0, none⟩), .int .i64 (G.N : Int), .int .i64 (G.nb : Int), .map (some w1.heap.size), .int .i64 0, .int .i64 0, .int .i64 0, .int .i64 0, .int .i64 0, .int .i64 0] 94)) w' → Calls Tryz.prog 45 #[.pointer (some ⟨lB, 0, none⟩)] w' fun e w'' => e = .returned (.int .i64 L.head) ∧ w' = w'') := Lib.hid (fun w' hb => by
    have h0 := (H1.out.2.2.1.below HB0.out)
    have l1 := H1.out.2.2.1.la.lt
    have l2 := H1.out.2.2.1.ca.lt
    exact head_lg w' (h0.but hb (by simp; omega) (by simp; omega) (by simp; omega)))
  have HH : Hid (1 ≤ L.head ∧ L.head + (ds.length : Int) ≤ 1000000000) := Lib.hid (by
    have h1 := H1.out.2.2.1.gd.ring.h1
    have h2 := H1.out.2.2.1.gd.tail
    have h3 := HK.out
    have h4 : L.rs.length = ds.length := by have := congrArg List.length Hs.out; simpa using this
    unfold M.Lg.tail at h2
    omega)
  go_wp2_with (go_at_call 42; with_reducible refine (HRc.out _ HB0.out).mono ?_; rintro e w2 ⟨a, cap, rfl, hown, hb2⟩
               have HOw := Lib.hid hown
               have HB2 := Lib.hid hb2
               clear hown hb2)
  have HW2 : Hid (CacheC w2 (w1.heap.size + 1) lB G.N G.nb w1.heap.size kp0 ∧ MapQ w2 w1.heap.size none0 ∧ But [] ((w1.alloc (.map #[] 0)).alloc (.cells #[.pointer (some ⟨lB, 0, none⟩), .int .i64 (G.N : Int), .int .i64 (G.nb : Int), .map (some w1.heap.size), .int .i64 0, .int .i64 0, .int .i64 0, .int .i64 0, .int .i64 0, .int .i64 0] 94)) w2) := Lib.hid ⟨HQ0.out.below HB2.out HQ0.out.lt, HM0.out.but (But.of_below HB2.out) (by simp), But.of_below HB2.out⟩
  have HRow : Hid (∀ wr (k : Nat) x, ds[k]? = some x → But [w1.heap.size + 1, w1.heap.size] w2 wr → ∃ g, a = some ⟨g, 0, none⟩ ∧ wr.cell? ⟨g, k, none⟩ = some (.string (tx1 x))) := Lib.hid (fun wr k x hx hb => by
    have hk : k < ds.length := (List.getElem?_eq_some_iff.1 hx).1
    obtain ⟨hr, ho⟩ := C.own_row HOw.out
    obtain ⟨g, o, t, ha, hg, ht, hcell⟩ := C.row_str hr k hk
    obtain ⟨hge, rfl⟩ := ho g o ha
    rw [List.getElem?_map, hx] at ht
    injection ht with ht
    subst ht
    rw [Nat.zero_add] at hcell
    refine ⟨g, ha, ?_⟩
    rw [hb.cell hg (by simp at hge; simp; omega)]
    exact hcell)
  have hcapI : (ds.length : Int) ≤ (ds.length : Int) := Int.le_refl _
  clear HRc HQ0 HM0 hcapI
  go_loopw [52] (fun i wr => ∃ (k : Nat), k ≤ ds.length ∧ i = .int .i64 k ∧ CacheC wr (w1.heap.size + 1) lB G.N G.nb w1.heap.size (lastK kp0 (ds.take k)) ∧ MapQ wr w1.heap.size (run L.head none0 (ds.take k)) ∧ But [w1.heap.size + 1, w1.heap.size] w2 wr) (fun i _ => ds.length - (RowKit.intOf i).toNat)
  case atStart => exact ⟨0, Nat.zero_le _, rfl, HW2.out.1, HW2.out.2.1, But.refl _ _⟩
  case round =>
    obtain ⟨k, hk, rfl, hc, hmq, hb⟩ := hrel
    have HC := Lib.hid hc
    have HMq := Lib.hid hmq
    have HB := Lib.hid hb
    clear hc hmq hb
    by_cases hkl : k < ds.length
    · obtain ⟨x, hx⟩ : ∃ x, ds[k]? = some x := ⟨_, List.getElem?_eq_getElem hkl⟩
      obtain ⟨g, rfl, hcell⟩ := HRow.out wr k x hx HB.out
      have hkI : (k : Int) < (ds.length : Int) := by omega
      have hkC : (k : Int) < 9223372036854775807 := by have := HH.out; omega
      have hadd : IntKind.i64.wrap (L.head + (k : Int)) = L.head + (k : Int) := by have := HH.out; simp [IntKind.wrap, IntKind.bits, IntKind.signed]; omega
      have hadd1 : IntKind.i64.wrap ((k : Int) + 1) = (k : Int) + 1 := by have := HH.out; simp [IntKind.wrap, IntKind.bits, IntKind.signed]; omega
      have HX := Lib.hid hx
      have HRd1 := Lib.hid (HRd.out wr _ x HC.out (List.mem_of_getElem? hx))
      obtain ⟨td, vd, hv⟩ := x.1.val_iface
      have hrv : recV x.1 x.2 = .agg #[.iface td vd, .int .i64 x.2.ep, .int .i64 x.2.sq, .int .i64 x.2.t0, .int .i64 x.2.t1, .int .i64 x.2.t2, .int .i64 x.2.t3] := by unfold recV; rw [hv]
      rw [hrv] at HRd1
      have HDo1 : Hid (∀ (w' : World) (at' : Int), at' = L.head + (k : Int) → But [] wr w' → Calls Tryz.prog 44 #[.pointer (some ⟨w1.heap.size + 1, 0, none⟩), .agg #[.iface td vd, .int .i64 x.2.ep, .int .i64 x.2.sq, .int .i64 x.2.t0, .int .i64 x.2.t1, .int .i64 x.2.t2, .int .i64 x.2.t3], .int .i64 at'] w' fun e w'' => e = .returned (.tuple #[]) ∧ CacheC w'' (w1.heap.size + 1) lB G.N G.nb w1.heap.size (lastK kp0 (ds.take (k + 1))) ∧ MapQ w'' w1.heap.size (run L.head none0 (ds.take (k + 1))) ∧ But [w1.heap.size + 1, w1.heap.size] w' w'') := Lib.hid (fun w' at' ha hb => by
        subst ha
        have := HDo.out w' _ k x (HC.out.but hb (by simp)) (HMq.out.but hb (by simp)) HX.out
        rwa [hrv] at this)
      have HLh1 : Hid (∀ w', But [] wr w' → Calls Tryz.prog 45 #[.pointer (some ⟨lB, 0, none⟩)] w' fun e w'' => e = .returned (.int .i64 L.head) ∧ w' = w'') := Lib.hid (fun w' hb => HLh.out w' (((HW2.out.2.2.mono (by simp)).trans HB.out).trans (hb.mono (by simp))))
      clear hx hv hrv hkl hk
      go_wp2_with (go_at_call 43; with_reducible refine HRd1.out.mono ?_; rintro e w3 ⟨rfl, hb3⟩
                   have HB3 := Lib.hid hb3
                   clear hb3)
      have HX0 : Hid (∀ w', (∃ q, But q (w3.alloc (.cells #[.iface td vd, .int .i64 x.2.ep, .int .i64 x.2.sq, .int .i64 x.2.t0, .int .i64 x.2.t1, .int .i64 x.2.t2, .int .i64 x.2.t3] 98)) w' ∧ w3.heap.size ∉ q) → w'.cell? ⟨w3.heap.size, 0, none⟩ = some (.iface td vd) ∧ w'.cell? ⟨w3.heap.size, 1, none⟩ = some (.int .i64 x.2.ep) ∧ w'.cell? ⟨w3.heap.size, 2, none⟩ = some (.int .i64 x.2.sq) ∧ w'.cell? ⟨w3.heap.size, 3, none⟩ = some (.int .i64 x.2.t0) ∧ w'.cell? ⟨w3.heap.size, 4, none⟩ = some (.int .i64 x.2.t1) ∧ w'.cell? ⟨w3.heap.size, 5, none⟩ = some (.int .i64 x.2.t2) ∧ w'.cell? ⟨w3.heap.size, 6, none⟩ = some (.int .i64 x.2.t3)) := Lib.hid (fun w' hq => by
        obtain ⟨q, hb, hn⟩ := hq
        refine ⟨?_, ?_, ?_, ?_, ?_, ?_, ?_⟩
        all_goals (rw [hb.cell (by simp) hn, World.cell?_alloc_mark]; rfl))
      have HS0 := Lib.hid (HX0.out (w3.alloc (.cells #[.iface td vd, .int .i64 x.2.ep, .int .i64 x.2.sq, .int .i64 x.2.t0, .int .i64 x.2.t1, .int .i64 x.2.t2, .int .i64 x.2.t3] 98)).drew ⟨[], (But.refl _ _).drew, by simp⟩)
      have HB4 : Hid (But [] wr (w3.alloc (.cells #[.iface td vd, .int .i64 x.2.ep, .int .i64 x.2.sq, .int .i64 x.2.t0, .int .i64 x.2.t1, .int .i64 x.2.t2, .int .i64 x.2.t3] 98)).drew) := Lib.hid (But.of_below (HB3.out.alloc HB3.out.size _).drew)
      have HN : Hid (w3.heap.size ∉ [w1.heap.size + 1, w1.heap.size]) := Lib.hid (by
        have h1 := HB3.out.size
        have h2 := HB.out.size
        have h3 := HB2.out.size
        simp at h3; simp; omega)
      go_region_held3 (fun w' => w'.cell? ⟨w3.heap.size, 0, none⟩ = some (.iface td vd) ∧ w'.cell? ⟨w3.heap.size, 1, none⟩ = some (.int .i64 x.2.ep) ∧ w'.cell? ⟨w3.heap.size, 2, none⟩ = some (.int .i64 x.2.sq) ∧ w'.cell? ⟨w3.heap.size, 3, none⟩ = some (.int .i64 x.2.t0) ∧ w'.cell? ⟨w3.heap.size, 4, none⟩ = some (.int .i64 x.2.t1) ∧ w'.cell? ⟨w3.heap.size, 5, none⟩ = some (.int .i64 x.2.t2) ∧ w'.cell? ⟨w3.heap.size, 6, none⟩ = some (.int .i64 x.2.t3))
        (first
          | with_reducible exact HS0.out
          | with_reducible exact HS1.out)
        (first
          | (go_at_call 45; with_reducible refine (HLh1.out _ HB4.out).mono ?_; rintro e w4 ⟨rfl, rfl⟩)
          | (go_at_call 44; with_reducible refine (HDo1.out _ _ (by first | rfl | exact hadd) HB4.out).mono ?_; rintro e w5 ⟨rfl, hc5, hm5, hb5⟩
             have H5 := Lib.hid (And.intro hc5 (And.intro hm5 hb5))
             have HS1 := Lib.hid (HX0.out w5 ⟨[w1.heap.size + 1, w1.heap.size], ((But.refl [w1.heap.size + 1, w1.heap.size] (w3.alloc (.cells #[.iface td vd, .int .i64 x.2.ep, .int .i64 x.2.sq, .int .i64 x.2.t0, .int .i64 x.2.t1, .int .i64 x.2.t2, .int .i64 x.2.t3] 98))).drew).trans hb5, HN.out⟩)
             clear hc5 hm5 hb5))
      all_goals
        go_wp2_with fail
        go_roundw
        case rel => exact ⟨k + 1, by have := (List.getElem?_eq_some_iff.1 HX.out).1; omega, by go_num, H5.out.1, H5.out.2.1, (HB.out.trans (HB4.out.mono (by simp))).trans H5.out.2.2⟩
        case measure => have := (List.getElem?_eq_some_iff.1 HX.out).1; simp [RowKit.intOf]; omega
    · obtain rfl : k = ds.length := by omega
      have hltI : ¬ (ds.length : Int) < (ds.length : Int) := by omega
      have HF : Hid (CG wr ⟨dB, sB, mB, lB, rb, cB, w1.heap.size + 1, w1.heap.size⟩ G ⟨d', c', L, run L.head none0 ds, lastK kp0 ds, K⟩ ∧ But [dB, sB, mB] w wr) := Lib.hid (by
        obtain ⟨hdv, hfr, hlg, hnew, hbut, hD⟩ := H1.out
        have q1 := hdv.ltD
        have q2 := hdv.lt
        have q3 := hdv.pend.lt
        have q4 := hlg.la.lt
        have q5 := hlg.ca.lt
        have hb1 : But [w1.heap.size + 1, w1.heap.size] w1 wr := (((But.of_below HB0.out).mono (by simp)).trans (HW2.out.2.2.mono (by simp))).trans HB.out
        have hc := HC.out
        have hm := HMq.out
        rw [List.take_length] at hc hm
        refine ⟨⟨hdv.but hb1 (by simp; omega) (by simp; omega) (by simp; omega), hfr, hlg.but hb1 (by simp; omega) (by simp; omega) (by simp; omega), hc, hm, ⟨by simp only; omega, by simp only; omega⟩, ⟨⟨ds, Hs.out, Hm.out, rfl, rfl⟩, Hcn.out, Hg.out.2.2.1, Hg.out.2.1, ?_⟩⟩, ?_⟩
        · unfold lastK
          cases hl : ds.getLast? with
          | none => exact may_kp0
          | some y => exact (Hm.out y (List.mem_of_getLast? hl)).2
        · exact but_new hbut hb1 (by have := hbut.size; simp; omega))
      clear hkl hk
      go_wp2_with fail
      obtain ⟨hdv, hfr, hlg, hnew, hbut, hD⟩ := H1.out
      have hs1 := hbut.size
      have hs2 : w.heap.size ≤ w1.heap.size + 1 := by omega
      refine bodyPost_ret_by ?_ rfl ⟨⟨dB, sB, mB, lB, rb, cB, w1.heap.size + 1, w1.heap.size⟩, rfl, rfl, rfl, rfl, d', ⟨c', HF.out.1⟩, ⟨hnew.1, hnew.2.1, hnew.2.2, hs2, hs1⟩, HF.out.2, hD⟩
      simp [results, Tryz.results17, go_sem]
end Q
end Go.Proofs.YtmcalgnpinolmaaGreat
namespace Go.Proofs.YtmcalgnpinolmaaGreat
open Go.RowKit Go.Maps
set_option linter.unusedVariables false
set_option linter.unusedSimpArgs false
set_option maxRecDepth 20000
namespace Q
variable {B : Bk} {G : Gm} {s : St} {dB sB mB : Nat} {d : M.Dv}

theorem sync_cg (w : World) (h : CG w B G s) : Calls Tryz.prog 36 #[.pointer (some ⟨B.qB, 0, none⟩)] w fun e w' => e = .returned (.int .i64 0) ∧ ∃ d', CG w' B G ⟨d', s.c, s.L, s.E, s.k, s.K⟩ ∧ (∀ j : Nat, M.seen d' j = M.seen s.d j) ∧ (∀ k, d'.P k = none) ∧ But [B.dB, B.sB, B.mB] w w' := by
  have p0 := h.qc.p0
  have HS := Lib.hid (sync_lg w h.dv h.fr h.lg)
  have H := Lib.hid h
  clear h
  go_enter Tryz.func36, Tryz.ntmps36
  go_wp2_with (go_at_call 54; with_reducible refine HS.out.mono ?_; rintro e w1 ⟨rfl, d', hd', hf', hl', hb, hsn, hP⟩
               have H1 := Lib.hid (And.intro hd' (And.intro hf' (And.intro hl' (And.intro hb (And.intro hsn hP)))))
               clear hd' hf' hl' hb hsn hP)
  go_ret
  obtain ⟨hd', hf', hl', hb, hsn, hP⟩ := H1.out
  have s1 := H.out.sp.q
  have s2 := H.out.sp.m
  exact ⟨rfl, d', ⟨hd', hf', hl', H.out.qc.but hb (by simp; omega), H.out.mp.but hb (by simp; omega), H.out.sp, H.out.hd⟩, hsn, hP, hb⟩

theorem num_none (nb : Nat) : num nb (vis none0) = 0 := by
  unfold num
  induction nb with
  | zero => rfl
  | succ n ih => show cnt n _ + _ = 0; rw [ih]; rfl

theorem open_first (w : World) (hd : DevAt w dB sB mB G.n d) (hf : Free d) (hgeo : Geo G.n G.first G.N G.a G.b) (hz : ∀ j : Nat, (G.first ≤ j ∧ j < G.first + G.N) ∨ j = G.a ∨ j = G.b → M.seen d j = M.zero) (hnb1 : 1 ≤ G.nb) (hnb : G.nb ≤ 32) (h8 : 8 ≤ G.N) :
    Calls Tryz.prog 17 #[.pointer (some ⟨dB, 0, none⟩), .int .i64 (G.first : Int), .int .i64 (G.N : Int), .int .i64 (G.a : Int), .int .i64 (G.b : Int), .int .i64 (G.nb : Int)] w fun e w' => ∃ (B : Bk) (d' : M.Dv) (c' : M.Cl), e = .returned (.tuple #[.pointer (some ⟨B.qB, 0, none⟩), .int .i64 0]) ∧ B.dB = dB ∧ B.sB = sB ∧ B.mB = mB ∧
      CG w' B G ⟨d', c', ⟨1, 1, 0, []⟩, none0, kp0, 2⟩ ∧ (w.heap.size ≤ B.lB ∧ w.heap.size ≤ B.cB ∧ w.heap.size ≤ B.rb ∧ w.heap.size ≤ B.qB ∧ w.heap.size ≤ B.mE) ∧ But [dB, sB, mB] w w' ∧ ((∀ j : Nat, j ≠ G.a → j ≠ G.b → M.seen d' j = M.seen d j) ∧ ∀ k, d'.P k = none) :=
  open_any (D := fun d' => (∀ j : Nat, j ≠ G.a → j ≠ G.b → M.seen d' j = M.seen d j) ∧ ∀ k, d'.P k = none) (L := ⟨1, 1, 0, []⟩) (K := 2) w [] (by decide) hnb1 hnb h8 (by have := hgeo.fn; have := hgeo.n5; omega) rfl (by simp) (by show num G.nb (vis none0) ≤ _; rw [num_none]; omega) (open_new w hd hf hgeo hz)

theorem open_over (w : World) (hd : DevAt w dB sB mB G.n s.d) (hf : Free s.d) (hg : M.Good (M.seen s.d) s.K G.first G.N G.a G.b s.c s.L) (hgeo : Geo G.n G.first G.N G.a G.b) (hh : Hold G.nb G.N s.L s.E s.k) (hK : s.K + 1 ≤ 1000000000) (hnb1 : 1 ≤ G.nb) :
    Calls Tryz.prog 17 #[.pointer (some ⟨dB, 0, none⟩), .int .i64 (G.first : Int), .int .i64 (G.N : Int), .int .i64 (G.a : Int), .int .i64 (G.b : Int), .int .i64 (G.nb : Int)] w fun e w' => ∃ (B : Bk) (d' : M.Dv) (c' : M.Cl), e = .returned (.tuple #[.pointer (some ⟨B.qB, 0, none⟩), .int .i64 0]) ∧ B.dB = dB ∧ B.sB = sB ∧ B.mB = mB ∧
      CG w' B G ⟨d', c', s.L.anew, s.E, s.k, s.K + 1⟩ ∧ (w.heap.size ≤ B.lB ∧ w.heap.size ≤ B.cB ∧ w.heap.size ≤ B.rb ∧ w.heap.size ≤ B.qB ∧ w.heap.size ≤ B.mE) ∧ But [dB, sB, mB] w w' ∧ ((∀ j : Nat, j ≠ G.a → j ≠ G.b → M.seen d' j = M.seen s.d j) ∧ ∀ k, d'.P k = none) := by
  obtain ⟨ds, h1, h2, h3, h4⟩ := hh.says
  have hcn := hh.cn
  rw [h3] at hcn
  have := open_any (D := fun d' => (∀ j : Nat, j ≠ G.a → j ≠ G.b → M.seen d' j = M.seen s.d j) ∧ ∀ k, d'.P k = none) (L := s.L.anew) (K := s.K + 1) w ds hK hnb1 hh.nb hh.n8 (by have := hgeo.fn; have := hgeo.n5; omega) h1 h2 hcn (open_again w hd hf hgeo (by omega) hg)
  rw [h3, h4]
  exact this

/-- a ring that is too small -/
theorem open_few (w : World) (a1 a2 a3 a4 a5 a6 : Int) (h : a3 < 8) (hn : 1 ≤ a6 ∧ a6 ≤ 32) (v : Value) : Calls Tryz.prog 17 #[v, .int .i64 a2, .int .i64 a3, .int .i64 a4, .int .i64 a5, .int .i64 a6] w fun e w' => e = .returned (.tuple #[.pointer none, .int .i64 1]) ∧ w = w' := by
  obtain ⟨h1, h2⟩ := hn
  go_enter Tryz.func17, Tryz.ntmps17
  go_wp2_with fail
  go_ret2
  exact ⟨rfl, rfl⟩
end Q
end Go.Proofs.YtmcalgnpinolmaaGreat
namespace Go.Proofs.YtmcalgnpinolmaaGreat
open Go.RowKit Go.Maps
set_option linter.unusedVariables false
set_option linter.unusedSimpArgs false
set_option maxRecDepth 20000
namespace Q
variable {w0 : World} {B : Bk} {G : Gm} {V V' : Vi} {K K' : Int}

/-- a cache of the call's own -/
structure Rq (w0 w : World) (B : Bk) (G : Gm) (V : Vi) (K : Int) : Prop where
  cs : Cs w B G V K
  be : Below w0.heap.size w0 w
  od : ∀ x ∈ B.l, w0.heap.size ≤ x

theorem Rq.below {w w' : World} (h : Rq w0 w B G V K) (hb : Below w.heap.size w w') : Rq w0 w' B G V K := ⟨h.cs.below hb, h.be.trans (hb.mono h.be.size), h.od⟩
theorem Rq.mono {w : World} (h : Rq w0 w B G V K) (hk : K ≤ K') : Rq w0 w B G V K' := ⟨h.cs.mono hk, h.be, h.od⟩
theorem Rq.after {w w' : World} (h : Rq w0 w B G V K) (a : After w B G V' K' w') : ∃ r, Rq w0 w' (B.row r) G V' K' ∧ (r = B.rb ∨ w.heap.size ≤ r) ∧ But B.l w w' := by
  obtain ⟨r, h1, h2, h3⟩ := a
  refine ⟨r, ⟨h1, h.be.trans (h3.to_below h.od h.be.size), fun x hx => ?_⟩, h2, h3⟩
  rcases row_l h2 x hx with g | g
  · exact h.od x g
  · exact Nat.le_trans h.be.size g

theorem u8_mod (x : Int) (k : Nat) (hk : 0 < k) (h : (Lit.int .u8 x).wf = true) {kI : Int} (hkI : kI = (k : Int)) : ∃ r : Nat, r < k ∧ x.tmod kI = (r : Int) := by
  subst hkI
  have hx : 0 ≤ x := by
    simp [Lit.wf, IntKind.min, IntKind.max, IntKind.signed, IntKind.bits] at h
    omega
  have h1 : 0 ≤ x.tmod k := Int.tmod_nonneg _ hx
  have h2 : x.tmod k < k := Int.tmod_lt_of_pos _ (by omega)
  exact ⟨(x.tmod k).toNat, by omega, by omega⟩

/-- a new device, and a cache that is opened on it -/
theorem fresh_open (w w1 : World) (hb : Below w.heap.size w w1) {dB sB mB : Nat} (hd : DevAt w1 dB sB mB G.n M.fresh) (ho : w.heap.size ≤ dB ∧ w.heap.size ≤ sB ∧ w.heap.size ≤ mB) (hgeo : Geo G.n G.first G.N G.a G.b) (hnb1 : 1 ≤ G.nb) (hnb : G.nb ≤ 32) (h8 : 8 ≤ G.N)
    {x1 x2 x3 x4 x5 : Int} (e1 : x1 = (G.first : Int)) (e2 : x2 = (G.N : Int)) (e3 : x3 = (G.a : Int)) (e4 : x4 = (G.b : Int)) (e5 : x5 = (G.nb : Int)) :
    Calls Tryz.prog 17 #[.pointer (some ⟨dB, 0, none⟩), .int .i64 x1, .int .i64 x2, .int .i64 x3, .int .i64 x4, .int .i64 x5] w1 fun e w' => ∃ (B : Bk) (d' : M.Dv) (c' : M.Cl), e = .returned (.tuple #[.pointer (some ⟨B.qB, 0, none⟩), .int .i64 0]) ∧ B.dB = dB ∧ B.sB = sB ∧ B.mB = mB ∧
      CG w' B G ⟨d', c', ⟨1, 1, 0, []⟩, none0, kp0, 2⟩ ∧ (∀ k, d'.P k = none) ∧ (∀ x ∈ B.l, w.heap.size ≤ x) ∧ Below w.heap.size w w' := by
  subst e1 e2 e3 e4 e5
  refine (open_first w1 hd Free.fresh hgeo (fun j _ => rfl) hnb1 hnb h8).mono ?_
  rintro e w' ⟨B, d', c', rfl, rfl, rfl, rfl, hc, hn, hbu, hs, hP⟩
  have hsz := hb.size
  refine ⟨B, d', c', rfl, rfl, rfl, rfl, hc, hP, ?_, hb.trans (hbu.to_below (by simp; omega) hb.size)⟩
  simp [Bk.l]
  omega

theorem CG.run {w : World} {d' : M.Dv} {c' : M.Cl} (h : CG w B G ⟨d', c', ⟨1, 1, 0, []⟩, none0, kp0, 2⟩) : Cs w B G ⟨vis none0, kp0⟩ 2 := ⟨_, h, rfl, rfl, Int.le_refl _, by simp⟩

/-- the law's own Open -/
theorem law_open (w0 w : World) (hb : Below w0.heap.size w0 w) (x : Int) (wf : (Lit.int .u8 x).wf = true) :
    Calls Tryz.prog 12 #[.int .u8 x] w fun e w' => ∃ (B : Bk) (N : Nat), 8 ≤ N ∧ N ≤ 37 ∧ x.tmod 30 + 8 = (N : Int) ∧ e = .returned (.tuple #[.pointer (some ⟨B.dB, 0, none⟩), .pointer (some ⟨B.qB, 0, none⟩), .int .i64 (N : Int)]) ∧ Rq w0 w' B ⟨N + 2, 2, N, 0, 1, 32⟩ ⟨vis none0, kp0⟩ 2 ∧ (∀ y ∈ B.l, w.heap.size ≤ y) ∧ Below w.heap.size w w' := by
  obtain ⟨r, hr, hrm⟩ := u8_mod x 30 (by decide) wf (kI := 30) rfl
  have hrI : (r : Int) < 30 := by omega
  have hr0 : (0 : Int) ≤ (r : Int) := by omega
  have Hr := Lib.hid hr
  have HB := Lib.hid hb
  have HN := Lib.hid (new_yes (r + 10) (by omega) w)
  have hx : (((r + 10 : Nat) : Int)) = (r : Int) + 8 + 2 := by omega
  rw [hx] at HN
  clear wf hr hb hx
  go_enter Tryz.func12, Tryz.ntmps12
  go_wp2_with (first
    | (go_at_call 34; with_reducible refine HN.out.mono ?_; rintro e w1 ⟨dB, sB, mB, rfl, hD, hb1, l1, l2, l3⟩
       have HO := Lib.hid (fresh_open (G := ⟨r + 10, 2, r + 8, 0, 1, 32⟩) w w1 hb1 hD ⟨l1, l2, l3⟩ ⟨by simp, by simp, by simp, by simp; omega, by simp, by simp, by simp, by have := Hr.out; simp; omega⟩ (by simp) (by simp) (by simp) (x1 := 2) (x2 := (r : Int) + 8) (x3 := 0) (x4 := 1) (x5 := 32) rfl (by simp) rfl rfl rfl)
       clear hD hb1 l1 l2 l3)
    | (go_at_call 17; with_reducible refine HO.out.mono ?_; rintro e w2 ⟨B, d', c', rfl, h1, h2, h3, hc, hP, ho, hb2⟩
       have HC := Lib.hid (And.intro h1 (And.intro hc (And.intro ho hb2)))
       clear h1 h2 h3 hc hP ho hb2))
  obtain ⟨rfl, hc, ho, hb2⟩ := HC.out
  have hs0 := HB.out.size
  refine bodyPost_ret_by ?_ rfl ⟨B, r + 8, by omega, by have := Hr.out; omega, by rw [hrm]; simp, rfl, ⟨hc.run, HB.out.trans (hb2.mono hs0), fun y hy => Nat.le_trans hs0 (ho y hy)⟩, ho, hb2⟩
  simp [results, Tryz.results12, go_sem]
end Q
end Go.Proofs.YtmcalgnpinolmaaGreat
namespace Go.Proofs.YtmcalgnpinolmaaGreat
open Go.RowKit Go.Maps
set_option linter.unusedVariables false
set_option linter.unusedSimpArgs false
set_option maxRecDepth 20000
namespace Q
variable {w0 : World} {B : Bk} {G : Gm} {V V' : Vi} {K K' : Int}

theorem put_yes {nb N : Nat} {x : En} (hc : checkE nb x = 0) (ho : 0 < ord x.ep x.sq V.k.ep V.k.sq) (hf : ¬ fullV nb N V x.b) : putE nb N V x = 0 ∧ putVi nb N V x = layV V x := by
  have h : putE nb N V x = 0 := by
    unfold putE
    rw [if_neg (by rw [hc]; simp), if_neg (by omega), if_neg (fun h => hf h.1)]
  exact ⟨h, by rw [putVi_1 h hf]; rfl⟩
theorem put_low {nb N : Nat} {x y : En} (hc : checkE nb x = 0) (ho : 0 < ord x.ep x.sq V.k.ep V.k.sq) (hf : fullV nb N V x.b) (hl : lowest nb V.e = some y) : putE nb N V x = 0 ∧ putVi nb N V x = layV (dropV V y.b) x := by
  have h : putE nb N V x = 0 := by
    unfold putE
    rw [if_neg (by rw [hc]; simp), if_neg (by omega), if_neg (fun h => by rw [hl] at h; cases h.2)]
  exact ⟨h, by rw [putVi_2 h hf]; unfold lowI; rw [hl]; rfl⟩
theorem put_full {nb N : Nat} {x : En} (hc : checkE nb x = 0) (ho : 0 < ord x.ep x.sq V.k.ep V.k.sq) (hf : fullV nb N V x.b) (hl : lowest nb V.e = none) : putE nb N V x = 12 ∧ putVi nb N V x = V := by
  have h : putE nb N V x = 12 := by
    unfold putE
    rw [if_neg (by rw [hc]; simp), if_neg (by omega), if_pos ⟨hf, hl⟩]
  exact ⟨h, putVi_0 (by rw [h]; simp)⟩
theorem put_old {nb N : Nat} {x : En} (hc : checkE nb x = 0) (ho : ord x.ep x.sq V.k.ep V.k.sq ≤ 0) : putE nb N V x = 1 ∧ putVi nb N V x = V := by
  have h : putE nb N V x = 1 := by
    unfold putE
    rw [if_neg (by rw [hc]; simp), if_pos ho]
  exact ⟨h, putVi_0 (by rw [h]; simp)⟩

def dataA : ByteArray := ⟨#[97, 98, 99, 100, 101, 102, 103, 104]⟩
def entA (b s : Int) (y : Bool) : En := ⟨b, 1, s, dataA, y, 1, s⟩

/-- the literal of 'awake' -/
theorem putA (w : World) (h : Cs w B G V K) (hK : K ≤ 600000000) (b s : Int) (y : Bool) (hb0 : -9223372036854775808 ≤ b) (hb1 : b ≤ 9223372036854775807) (cB : Nat) (hc : w.cell? ⟨cB, 0, none⟩ = some (.pointer (some ⟨B.qB, 0, none⟩))) :
    Calls Tryz.prog 35 #[.int .i64 b, .int .i64 s, .bool y, .pointer (some ⟨cB, 0, none⟩)] w fun e w' => e = .returned (.int .i64 (putE G.nb G.N V (entA b s y))) ∧ After w B G (putVi G.nb G.N V (entA b s y)) (K + 2002) w' := by
  have HP : Hid (Calls Tryz.prog 23 #[.pointer (some ⟨B.qB, 0, none⟩), .agg #[.int .i64 b, .int .i64 1, .int .i64 s, .string ⟨#[97, 98, 99, 100, 101, 102, 103, 104]⟩, .bool y, .int .i64 1, .int .i64 s]] w fun e w' => e = .returned (.int .i64 (putE G.nb G.N V (entA b s y))) ∧ After w B G (putVi G.nb G.N V (entA b s y)) (K + 2002) w') := Lib.hid (put_cs w h hK (entA b s y) hb0 hb1)
  clear h
  go_enter Tryz.func35, Tryz.ntmps35
  go_wp2_with (go_at_call 23; with_reducible refine HP.out.mono ?_; rintro e w1 ⟨rfl, h1⟩; have H1 := Lib.hid h1; clear h1)
  go_ret
  exact ⟨rfl, H1.out⟩

/-- a cache of the call's own, and a variable that points to it -/
structure Pt (w0 w : World) (B : Bk) (G : Gm) (V : Vi) (K : Int) (qB cB dB : Nat) : Prop where
  rq : Rq w0 w B G V K
  eq : B.qB = qB
  dq : B.dB = dB
  cl : w.cell? ⟨cB, 0, none⟩ = some (.pointer (some ⟨qB, 0, none⟩))
  nm : cB ∉ B.l
theorem Pt.below {w w' : World} {qB cB dB : Nat} (h : Pt w0 w B G V K qB cB dB) (hb : Below w.heap.size w w') : Pt w0 w' B G V K qB cB dB :=
  ⟨h.rq.below hb, h.eq, h.dq, by rw [hb.cell (World.block_lt_of_cell? w _ h.cl)]; exact h.cl, h.nm⟩
theorem Pt.after {w w' : World} {qB cB dB : Nat} (h : Pt w0 w B G V K qB cB dB) (a : After w B G V' K' w') : ∃ B', Pt w0 w' B' G V' K' qB cB dB ∧ But B.l w w' := by
  obtain ⟨r, h1, h2, h3⟩ := h.rq.after a
  have hl := World.block_lt_of_cell? w _ h.cl
  refine ⟨B.row r, ⟨h1, h.eq, h.dq, by rw [h3.cell hl h.nm]; exact h.cl, fun hm => ?_⟩, h3⟩
  rcases row_l h2 _ hm with g | g
  · exact h.nm g
  · simp at hl; omega
theorem Pt.putA {w : World} {qB cB dB : Nat} (h : Pt w0 w B G V K qB cB dB) (hK : K ≤ 600000000) (b s : Int) (y : Bool) {x : Int} (hb0 : -9223372036854775808 ≤ b) (hb1 : b ≤ 9223372036854775807) (hx : putE G.nb G.N V (entA b s y) = x ∧ putVi G.nb G.N V (entA b s y) = V') :
    Calls Tryz.prog 35 #[.int .i64 b, .int .i64 s, .bool y, .pointer (some ⟨cB, 0, none⟩)] w fun e w' => e = .returned (.int .i64 x) ∧ ∃ B', Pt w0 w' B' G V' (K + 2002) qB cB dB := by
  have hc := h.cl
  rw [← h.eq] at hc
  refine (Q.putA w h.rq.cs hK b s y hb0 hb1 cB hc).mono ?_
  rintro e w' ⟨rfl, ha⟩
  rw [hx.1, hx.2] at *
  obtain ⟨B', h1, _⟩ := h.after ha
  exact ⟨rfl, B', h1⟩

/-! the states -/
def A0 : Vi := ⟨vis none0, kp0⟩
def A1 : Vi := layV A0 (entA 0 1 true)
def A2 : Vi := layV A1 (entA 1 2 true)
def A3 : Vi := cleanVi A2 0 1 1
def A4 : Vi := layV (dropV A3 0) (entA 2 3 true)
theorem chkA (b s : Int) (y : Bool) (hb : 0 ≤ b ∧ b < 4) (hs : 1 ≤ s ∧ s ≤ 100) : checkE 4 (entA b s y) = 0 := by
  unfold checkE In1 In0 entA
  have e : dataA.size = 8 := rfl
  simp only [e]
  rw [if_neg (by simp; omega), if_neg (by simp), if_neg (by omega)]
theorem a01 : putE 4 8 A0 (entA 0 1 true) = 0 ∧ putVi 4 8 A0 (entA 0 1 true) = A1 := put_yes (chkA _ _ _ (by omega) (by omega)) (by decide) (by unfold fullV; rw [show num 4 A0.e = 0 from rfl]; omega)
theorem a12 : putE 4 8 A1 (entA 1 2 true) = 0 ∧ putVi 4 8 A1 (entA 1 2 true) = A2 := put_yes (chkA _ _ _ (by omega) (by omega)) (by decide) (by unfold fullV; rw [show num 4 A1.e = 1 from rfl]; omega)
theorem a22 : putE 4 8 A2 (entA 2 3 true) = 12 ∧ putVi 4 8 A2 (entA 2 3 true) = A2 := put_full (chkA _ _ _ (by omega) (by omega)) (by decide) ⟨rfl, by rw [show num 4 A2.e = 2 from rfl]; omega⟩ rfl
theorem a23 : cleanE A2 0 1 1 = 0 := rfl
theorem a34 : putE 4 8 A3 (entA 2 3 true) = 0 ∧ putVi 4 8 A3 (entA 2 3 true) = A4 := put_low (y := entA 0 1 false) (chkA _ _ _ (by omega) (by omega)) (by decide) ⟨rfl, by rw [show num 4 A3.e = 2 from rfl]; omega⟩ rfl
theorem a44 : putE 4 8 A4 (entA 1 3 true) = 1 ∧ putVi 4 8 A4 (entA 1 3 true) = A4 := put_old (chkA _ _ _ (by omega) (by omega)) (by decide)
theorem a5 : A4.e 0 = none ∧ A4.e 2 = some (entA 2 3 true) ∧ num 4 A4.e = 2 ∧ A4.k.ep = 1 ∧ A4.k.sq = 3 ∧ A4.k.get 1 = 3 ∧ dropE A4 0 = 10 := ⟨rfl, rfl, rfl, rfl, rfl, rfl, rfl⟩
theorem a6 : keepE 0 0 [] = 1 := by
  unfold keepE
  rw [if_neg (fun h => by have := h.2.2.1; simp at this)]

end Q
end Go.Proofs.YtmcalgnpinolmaaGreat
namespace Go.Proofs.YtmcalgnpinolmaaGreat
open Go.RowKit Go.Maps
set_option linter.unusedVariables false
set_option linter.unusedSimpArgs false
set_option maxRecDepth 20000
namespace Q
variable {w0 : World} {B : Bk} {G : Gm} {V V' : Vi} {K K' : Int}

theorem Cs.sync (w : World) (h : Cs w B G V K) : Calls Tryz.prog 36 #[.pointer (some ⟨B.qB, 0, none⟩)] w fun e w' => e = .returned (.int .i64 0) ∧ (∃ s : St, CG w' B G s ∧ vis s.E = V.e ∧ s.k = V.k ∧ s.K ≤ K ∧ s.L.rs.length ≤ G.N - 2 ∧ ∀ k, s.d.P k = none) ∧ But [B.dB, B.sB, B.mB] w w' := by
  obtain ⟨s, h1, h2, h3, h4, h5⟩ := h
  refine (sync_cg w h1).mono ?_
  rintro e w' ⟨rfl, d', g1, g2, g3, g4⟩
  exact ⟨rfl, ⟨_, g1, h2, h3, h4, h5, g3⟩, g4⟩

/-- a crash with nothing pending, and it is opened anew -/
theorem crash_cs (w : World) {s : St} (h : CG w B G s) (hP : ∀ k, s.d.P k = none) : Calls Tryz.prog 16 #[.pointer (some ⟨B.dB, 0, none⟩), .slice none 0 0] w fun e w' => e = .returned (.tuple #[]) ∧ (∃ d', DevAt w' B.dB B.sB B.mB G.n d' ∧ Free d' ∧ M.Good (M.seen d') s.K G.first G.N G.a G.b s.c s.L) ∧ But [B.dB, B.sB, B.mB] w w' := by
  refine (crash_nil w h.dv hP).mono ?_
  rintro e w' ⟨rfl, d', h1, h2, h3, h4⟩
  exact ⟨rfl, ⟨d', h1, h2, Good_congr h.lg.gd (fun p _ => h3 _) (h3 _) (h3 _)⟩, h4⟩

theorem open_cs (w : World) {s : St} {d' : M.Dv} {dB sB mB : Nat} (hd : DevAt w dB sB mB G.n d') (hf : Free d') (hg : M.Good (M.seen d') s.K G.first G.N G.a G.b s.c s.L) (hgeo : Geo G.n G.first G.N G.a G.b) (hh : Hold G.nb G.N s.L s.E s.k) (hK : s.K + 1 ≤ K') (hK2 : K' ≤ 1000000000) (hnb1 : 1 ≤ G.nb) (he : vis s.E = V.e) (hk : s.k = V.k) (hl : s.L.rs.length ≤ G.N - 2)
    {x1 x2 x3 x4 x5 : Int} (e1 : x1 = (G.first : Int)) (e2 : x2 = (G.N : Int)) (e3 : x3 = (G.a : Int)) (e4 : x4 = (G.b : Int)) (e5 : x5 = (G.nb : Int)) :
    Calls Tryz.prog 17 #[.pointer (some ⟨dB, 0, none⟩), .int .i64 x1, .int .i64 x2, .int .i64 x3, .int .i64 x4, .int .i64 x5] w fun e w' => ∃ B : Bk, e = .returned (.tuple #[.pointer (some ⟨B.qB, 0, none⟩), .int .i64 0]) ∧ B.dB = dB ∧ B.sB = sB ∧ B.mB = mB ∧ Cs w' B G V K' ∧ (w.heap.size ≤ B.lB ∧ w.heap.size ≤ B.cB ∧ w.heap.size ≤ B.rb ∧ w.heap.size ≤ B.qB ∧ w.heap.size ≤ B.mE) ∧ But [dB, sB, mB] w w' := by
  subst e1 e2 e3 e4 e5
  refine (open_over (s := ⟨d', s.c, s.L, s.E, s.k, s.K⟩) w hd hf hg hgeo hh (by show s.K + 1 ≤ _; omega) hnb1).mono ?_
  rintro e w' ⟨B, d2, c2, rfl, h1, h2, h3, h4, h5, h6, h7⟩
  exact ⟨B, rfl, h1, h2, h3, ⟨_, h4, he, hk, hK, hl⟩, h5, h6⟩

set_option maxHeartbeats 4000000 in
theorem awake_any (w : World) : Calls Tryz.prog 11 #[] w fun e w' => e = .returned (.bool true) ∧ Below w.heap.size w w' := by
  have hn := new_yes 10 (by omega) w
  rw [show ((10 : Nat) : Int) = 10 from rfl] at hn
  have HN := Lib.hid hn
  clear hn
  have HFw := Lib.hid (fun w' v => open_few w' 0 2 7 0 1 4 (by omega) (by omega) v)
  have hmf : ∀ (fn : Fn) (first cap : Array Value) (w : World), (Instr.makeFunc fn first cap).run Tryz.prog w = .ok (.func fn first cap) w := fun _ _ _ _ => rfl
  go_enter Tryz.func11, Tryz.ntmps11
  go_wp2_with (first
    | (go_at_call 34; with_reducible refine HN.out.mono ?_; rintro e w1 ⟨dB, sB, mB, rfl, hD, hb1, l1, l2, l3⟩
       have HO := Lib.hid (fresh_open (G := ⟨10, 2, 8, 0, 1, 4⟩) w w1 hb1 hD ⟨l1, l2, l3⟩ ⟨by simp, by simp, by simp, by simp, by simp, by simp, by simp, by simp⟩ (by simp) (by simp) (by simp) (x1 := 2) (x2 := 8) (x3 := 0) (x4 := 1) (x5 := 4) rfl rfl rfl rfl rfl)
       clear hD hb1 l1 l2 l3)
    | (go_at_call 17; with_reducible refine HO.out.mono ?_; rintro e w2 ⟨B, d', c', rfl, h1, h2, h3, hc, hP, ho, hb2⟩
       have hbc := hb2.trans ((Below.refl w2.heap.size w2).alloc (Nat.le_refl _) (.cells #[.pointer (some ⟨B.qB, 0, none⟩)] 25) |>.mono hb2.size)
       have HC : Hid (Pt w (w2.alloc (.cells #[.pointer (some ⟨B.qB, 0, none⟩)] 25)) B ⟨10, 2, 8, 0, 1, 4⟩ A0 2 B.qB w2.heap.size dB) := Lib.hid ⟨⟨hc.run.below ((Below.refl w2.heap.size w2).alloc (Nat.le_refl _) _), hbc, ho⟩, rfl, h1, by rw [World.cell?_alloc_mark]; rfl, fun hm => Nat.lt_irrefl _ (hc.run.lt _ hm)⟩
       have HD0 := Lib.hid h1
       have hRm := room_cs _ HC.out.rq.cs
       rw [show (((8 - 6 : Nat) : Int)) = 2 from rfl] at hRm
       have HRm := Lib.hid hRm
       have pc := HC.out.cl
       have HP1 := Lib.hid (HC.out.putA (V' := A1) (x := 0) (by omega) 0 1 true (by omega) (by omega) a01)
       clear h1 h2 h3 hc hP ho hb2 hbc hRm)
    | (go_at_call 17; with_reducible refine (HFw.out _ _).mono ?_; rintro e w3 ⟨rfl, rfl⟩)
    | (go_at_call 24; with_reducible refine HRm.out.mono ?_; rintro e w3 ⟨rfl, rfl⟩)
    | (go_at_call 35; with_reducible refine HP1.out.mono ?_; rintro e w3 ⟨rfl, B1, hp1⟩
       have HP2 := Lib.hid (hp1.putA (V' := A2) (x := 0) (by omega) 1 2 true (by omega) (by omega) a12)
       clear hp1)
    | (go_at_call 35; with_reducible refine HP2.out.mono ?_; rintro e w4 ⟨rfl, B2, hp2⟩
       have HP3 := Lib.hid (hp2.putA (V' := A2) (x := 12) (by omega) 2 3 true (by omega) (by omega) a22)
       clear hp2)
    | (go_at_call 35; with_reducible refine HP3.out.mono ?_; rintro e w5 ⟨rfl, B3, hp3⟩
       have pc5 := hp3.cl
       have hcl := clean_cs w5 hp3.rq.cs (by omega) 0 1 1 (by omega) (by omega)
       rw [hp3.eq, a23] at hcl
       have HCl := Lib.hid hcl
       have HQ3 := Lib.hid hp3
       clear hp3 hcl)
    | (go_at_call 26; with_reducible refine HCl.out.mono ?_; rintro e w6 ⟨rfl, ha6⟩
       obtain ⟨B4, hp4, _⟩ := HQ3.out.after ha6
       have HP4 := Lib.hid (hp4.putA (V' := A4) (x := 0) (by omega) 2 3 true (by omega) (by omega) a34)
       clear hp4 ha6)
    | (go_at_call 35; with_reducible refine HP4.out.mono ?_; rintro e w7 ⟨rfl, B5, hp5⟩
       have HP5 := Lib.hid (hp5.putA (V' := A4) (x := 1) (by omega) 1 3 true (by omega) (by omega) a44)
       clear hp5)
    | (go_at_call 35; with_reducible refine HP5.out.mono ?_; rintro e w8 ⟨rfl, B6, hp6⟩
       have pc8 := hp6.cl
       have hsy := Cs.sync w8 hp6.rq.cs
       rw [hp6.eq] at hsy
       have HSy := Lib.hid hsy
       have HQ6 := Lib.hid hp6
       clear hp6 hsy)
    | (go_at_call 36; with_reducible refine HSy.out.mono ?_; rintro e w9 ⟨rfl, ⟨s, hg, he, hk, hK, hl, hP⟩, hbu9⟩
       have hcr := crash_cs w9 hg hP
       rw [HQ6.out.dq] at hcr
       have HCr := Lib.hid hcr
       have HG := Lib.hid (And.intro hg (And.intro he (And.intro hk (And.intro hK (And.intro hl hbu9)))))
       clear hg he hk hK hl hP hbu9 hcr)
    | (go_at_call 16; with_reducible refine HCr.out.mono ?_; rintro e w10 ⟨rfl, ⟨d2, hd2, hf2, hg2⟩, hbu10⟩
       have HO2 := Lib.hid (open_cs (V := A4) (K' := 20000) w10 hd2 hf2 hg2 HG.out.1.lg.geo HG.out.1.hd (by have := HG.out.2.2.2.1; omega) (by omega) (by simp) HG.out.2.1 HG.out.2.2.1 HG.out.2.2.2.2.1 (x1 := 2) (x2 := 8) (x3 := 0) (x4 := 1) (x5 := 4) rfl rfl rfl rfl rfl)
       have HB10 := Lib.hid hbu10
       clear hd2 hf2 hg2 hbu10)
    | (go_at_call 17; with_reducible refine HO2.out.mono ?_; rintro e w11 ⟨C, rfl, hCd, hCs, hCm, hcs, hnew, hbu11⟩
       have HRq : Hid (Rq w w11 C ⟨10, 2, 8, 0, 1, 4⟩ A4 20000) := Lib.hid (by
         have o6 := HQ6.out.rq.od
         have b6 := HQ6.out.rq.be
         have d6 := HQ6.out.dq
         have hbu9 := HG.out.2.2.2.2.2
         have hbu10 := HB10.out
         simp only [Bk.l, List.mem_cons, List.not_mem_nil, or_false, forall_eq_or_imp, forall_eq] at o6
         obtain ⟨o1, o2, o3, o4, o5, o6, o7, o8⟩ := o6
         have b9 := b6.trans (hbu9.to_below (by simp; omega) b6.size)
         have b10 := b9.trans (hbu10.to_below (by simp; omega) b9.size)
         have b11 := b10.trans (hbu11.to_below (by simp; omega) b10.size)
         have z10 := b10.size
         refine ⟨hcs, b11, ?_⟩
         simp only [Bk.l, List.mem_cons, List.not_mem_nil, or_false, forall_eq_or_imp, forall_eq]
         omega)
       have HGe : Hid (Calls Tryz.prog 25 #[.pointer (some ⟨C.qB, 0, none⟩), .int .i64 0] w11 fun e w' => e = .returned (.tuple #[.agg #[.int .i64 0, .int .i64 0, .int .i64 0, .string ⟨#[]⟩, .bool false, .int .i64 0, .int .i64 0], .bool false]) ∧ Below w11.heap.size w11 w') := Lib.hid (by
         have hge := get_cs w11 HRq.out.cs 0 (by omega) (by omega)
         rw [a5.1] at hge
         exact hge)
       clear hCd hCs hCm hcs hnew hbu11)
    | (go_at_call 25; with_reducible refine HGe.out.mono ?_; rintro e w12 ⟨rfl, hb12⟩
       have HR12 := Lib.hid ((HRq.out.below hb12).below ((Below.refl w12.heap.size w12).alloc (Nat.le_refl _) (.cells #[.int .i64 0, .int .i64 0, .int .i64 0, .string ⟨#[]⟩, .bool false, .int .i64 0, .int .i64 0] 37)))
       have HGe2 : Hid (Calls Tryz.prog 25 #[.pointer (some ⟨C.qB, 0, none⟩), .int .i64 2] (w12.alloc (.cells #[.int .i64 0, .int .i64 0, .int .i64 0, .string ⟨#[]⟩, .bool false, .int .i64 0, .int .i64 0] 37)) fun e w' => e = .returned (.tuple #[.agg #[.int .i64 2, .int .i64 1, .int .i64 3, .string ⟨#[97, 98, 99, 100, 101, 102, 103, 104]⟩, .bool true, .int .i64 1, .int .i64 3], .bool true]) ∧ Below (w12.alloc (.cells #[.int .i64 0, .int .i64 0, .int .i64 0, .string ⟨#[]⟩, .bool false, .int .i64 0, .int .i64 0] 37)).heap.size (w12.alloc (.cells #[.int .i64 0, .int .i64 0, .int .i64 0, .string ⟨#[]⟩, .bool false, .int .i64 0, .int .i64 0] 37)) w') := Lib.hid (by
         have hge := get_cs (w12.alloc (.cells #[.int .i64 0, .int .i64 0, .int .i64 0, .string ⟨#[]⟩, .bool false, .int .i64 0, .int .i64 0] 37)) HR12.out.cs 2 (by omega) (by omega)
         rw [a5.2.1] at hge
         exact hge)
       clear hb12)
    | (go_at_call 25; with_reducible refine HGe2.out.mono ?_; rintro e w13 ⟨rfl, hb13⟩
       have HR13 := Lib.hid ((HR12.out.below hb13).below ((Below.refl w13.heap.size w13).alloc (Nat.le_refl _) (.cells #[.int .i64 2, .int .i64 1, .int .i64 3, .string ⟨#[97, 98, 99, 100, 101, 102, 103, 104]⟩, .bool true, .int .i64 1, .int .i64 3] 37)))
       have hall := all_cs (w13.alloc (.cells #[.int .i64 2, .int .i64 1, .int .i64 3, .string ⟨#[97, 98, 99, 100, 101, 102, 103, 104]⟩, .bool true, .int .i64 1, .int .i64 3] 37)) HR13.out.cs
       rw [show num (4 : Nat) A4.e = 2 from a5.2.2.1] at hall
       have HAll := Lib.hid hall
       clear hb13 hall)
    | (go_at_call 20; with_reducible refine HAll.out.mono ?_; rintro e w14 ⟨aA, capA, rfl, _, hb14⟩
       have HR14 := Lib.hid (HR13.out.below hb14)
       have hla := last_cs w14 HR14.out.cs
       rw [a5.2.2.2.1, a5.2.2.2.2.1] at hla
       have HLa := Lib.hid hla
       clear hb14 hla)
    | (go_at_call 28; with_reducible refine HLa.out.mono ?_; rintro e w15 ⟨rfl, hb15⟩
       have HR15 := Lib.hid (HR14.out.below hb15)
       have hnu := number_cs w15 HR15.out.cs 1
       rw [a5.2.2.2.2.2.1] at hnu
       have HNu := Lib.hid hnu
       have hdr := drop_cs w15 HR15.out.cs (by omega) 0 (by omega) (by omega)
       rw [a5.2.2.2.2.2.2] at hdr
       have HDr := Lib.hid hdr
       clear hb15 hnu hdr)
    | (go_at_call 27; with_reducible refine HNu.out.mono ?_; rintro e w16 ⟨rfl, rfl⟩)
    | (go_at_call 37; with_reducible refine HDr.out.mono ?_; rintro e w17 ⟨rfl, ha17⟩
       obtain ⟨r17, hr17, _, _⟩ := HR15.out.after ha17
       have hno := note_cs w17 hr17.cs (by omega) 0 0 none 0 0 [] ⟨rfl, by omega, by simp [maxLen], .inl rfl⟩
       rw [a6, show (C.row r17).qB = C.qB from rfl] at hno
       have HNo := Lib.hid hno
       have HR17 := Lib.hid hr17
       clear ha17 hr17 hno)
    | (go_at_call 32; with_reducible refine HNo.out.mono ?_; rintro e w18 ⟨rfl, ha18⟩
       obtain ⟨r18, hr18, _, _⟩ := HR17.out.after ha18
       have HR18 := Lib.hid hr18.be
       clear ha18 hr18))
  go_ret
  exact ⟨rfl, HR18.out⟩
end Q
end Go.Proofs.YtmcalgnpinolmaaGreat
