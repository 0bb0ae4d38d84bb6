/- copyholdlaw10.NodeApart, walked. -/
import Derived.Test.YtijphembfohfnaaAwake
import Derived.Laws.BitsAllLaws
namespace Go.Proofs.Ytijphembfohfnaa.nodeApart
open Go.RowKit
set_option linter.unusedVariables false
/-- One byte of a slice of the call's own is stored. -/
theorem own_set {w : World} {base g cap m : Nat} {l : List UInt8} (h : w.ownsRow base 5 1 (.slice (some ⟨g, 0, none⟩) m cap) l.length (l.map F.bv)) (j : Nat) (y : UInt8) :
    (w.setCell ⟨g, j, none⟩ (F.bv y)).ownsRow base 5 1 (.slice (some ⟨g, 0, none⟩) m cap) (l.set j y).length ((l.set j y).map F.bv) := by
  refine ⟨by simp, ?_⟩
  rcases h.2 with ⟨e, _⟩ | ⟨g', cap', cur, e, hg, hh, hn, hm, hs, ht⟩
  · cases e
  · injection e with e1 e2 e3
    injection e1 with e1
    injection e1 with e1
    subst e1 e2 e3
    refine .inr ⟨g, cap, cur.setIfInBounds j (F.bv y), by rw [List.length_set], hg, F.heap_set hh j _, by rw [List.length_set]; exact hn, hm, by rw [Array.size_setIfInBounds]; exact hs, ?_⟩
    rw [List.length_set, Array.toList_setIfInBounds, List.take_set, ht, List.map_set]
theorem own_cell {w : World} {base g cap N j : Nat} {l : List UInt8} (h : w.ownsRow base 5 1 (.slice (some ⟨g, 0, none⟩) N cap) l.length (l.map F.bv)) (hl : l.length = N) (hj : j < N) :
    w.cell? ⟨g, j, none⟩ = some (.int .u8 ((l[j]?.getD 0).toNat : Int)) ∧ w.frozen? ⟨g, j, none⟩ = false := by
  constructor
  · obtain ⟨A, n, c, e, hB⟩ := F.own_holds h
    cases e
    obtain ⟨b, off, e, _, hc⟩ := hB.cell hj
    cases e
    rw [Nat.zero_add] at hc
    exact hc
  · rcases h.2 with ⟨e, _⟩ | ⟨g', cap', cur, e, hg, hh, _⟩
    · cases e
    · injection e with e1 e2 e3
      injection e1 with e1
      injection e1 with e1
      subst e1
      exact F.free_in hh j
/-- Put of any node: what it tells, and no more. -/
theorem put_some {w : World} {B c i : Nat} {A : Option Addr} {b : List UInt8} (x : Nd) (h : F.Bts w B A 128 c b) (hB : B ≤ w.heap.size) (hi : i < 4) : Calls Try.prog 7 #[.slice A 128 c, .int .i64 i, .agg (nc x).toArray] w fun e w' => ∃ v f, e = .returned (.tuple #[v, .int .i64 f]) ∧ Below w.heap.size w w' := by
  cases hx : x.ok with
  | false =>
    refine (put_no A c i x w hi hx).mono ?_
    rintro e w' ⟨rfl, hb⟩
    exact ⟨_, _, rfl, hb⟩
  | true =>
    obtain ⟨y, rfl, _⟩ := Nd.ok_nat hx
    refine (put_yes y h hB hi hx).mono ?_
    rintro e w' ⟨v, rfl, hm⟩
    exact ⟨_, _, rfl, hm.bel⟩
set_option maxRecDepth 20000 in
set_option maxHeartbeats 4000000 in
theorem bad (a b : Nd) (i at_ x : UInt8) (W : World) (ha : a.ok = false) : Calls Try.prog 6 #[.agg (nc a).toArray, .agg (nc b).toArray, .int .u8 (i.toNat : Int), .int .u8 (at_.toNat : Int), .int .u8 (x.toNat : Int)] W fun e w' => e = .returned (.bool true) ∧ Below W.heap.size W w' := by
  have HA := Lib.hid ha
  clear ha
  have hil := i.toNat_lt
  have hp4 : i.toNat % 4 < 4 := by omega
  go_enter Try.func6, Try.ntmps6
  go_upto_region 2 with fail
  have hp : ((i.toNat : Int) % 4) = ((i.toNat % 4 : Nat) : Int) := by omega
  rw [hp]
  clear hp hil
  generalize i.toNat % 4 = k at *
  obtain ⟨a0, a1, ab, az⟩ := box2 W (Obj.cells (nc a).toArray 25) (Obj.cells (nc b).toArray 25)
  generalize (W.alloc (Obj.cells (nc a).toArray 25)).alloc (Obj.cells (nc b).toArray 25) = W1 at *
  have A0 := Lib.hid a0
  have A1 := Lib.hid a1
  have AB := Lib.hid ab
  have hlt : W.heap.size + 1 < W1.heap.size := by omega
  have hmk := make_run
  clear a0 a1 ab az
  have KS : ∀ V, Hid (Below W1.heap.size W1 V → V.cell? ⟨W.heap.size, 0, none⟩ = some (.int .i64 a.k) ∧ V.cell? ⟨W.heap.size, 1, none⟩ = some (.int .i64 a.l) ∧ V.cell? ⟨W.heap.size, 2, none⟩ = some (.int .i64 a.g) ∧ V.cell? ⟨W.heap.size, 3, none⟩ = some (.int .i64 a.s) ∧ V.cell? ⟨W.heap.size, 4, none⟩ = some (.int .i64 a.c) ∧ V.cell? ⟨W.heap.size, 5, none⟩ = some (.int .i64 a.d0) ∧ V.cell? ⟨W.heap.size, 6, none⟩ = some (.int .i64 a.d1) ∧ V.cell? ⟨W.heap.size, 7, none⟩ = some (.int .i64 a.d2) ∧ V.cell? ⟨W.heap.size, 8, none⟩ = some (.int .i64 a.d3) ∧ V.cell? ⟨W.heap.size, 9, none⟩ = some (.int .i64 a.o) ∧ V.cell? ⟨W.heap.size, 10, none⟩ = some (.int .i64 a.t)) := fun V hV => nd11 ((hV.block _ (by omega)).trans A0.out)
  have HB0 : Hid (Below W1.heap.size W1 W1.drew) := (Below.refl _ _).drew
  have HB1 : Hid (Below W1.heap.size W1 (W1.alloc (.cells zeros 5)).drew) := (box_below W1 _).drew
  have HZ : Hid (F.Bts (W1.alloc (.cells zeros 5)).drew (W1.heap.size + 1) (some ⟨W1.heap.size, 0, none⟩) 128 128 z128) := (zeros_bts W1).below (Below.refl _ _).drew
  go_region_held3 (fun V => V.cell? ⟨W.heap.size, 0, none⟩ = some (.int .i64 a.k) ∧ V.cell? ⟨W.heap.size, 1, none⟩ = some (.int .i64 a.l) ∧ V.cell? ⟨W.heap.size, 2, none⟩ = some (.int .i64 a.g) ∧ V.cell? ⟨W.heap.size, 3, none⟩ = some (.int .i64 a.s) ∧ V.cell? ⟨W.heap.size, 4, none⟩ = some (.int .i64 a.c) ∧ V.cell? ⟨W.heap.size, 5, none⟩ = some (.int .i64 a.d0) ∧ V.cell? ⟨W.heap.size, 6, none⟩ = some (.int .i64 a.d1) ∧ V.cell? ⟨W.heap.size, 7, none⟩ = some (.int .i64 a.d2) ∧ V.cell? ⟨W.heap.size, 8, none⟩ = some (.int .i64 a.d3) ∧ V.cell? ⟨W.heap.size, 9, none⟩ = some (.int .i64 a.o) ∧ V.cell? ⟨W.heap.size, 10, none⟩ = some (.int .i64 a.t)) (first | (with_reducible exact (KS _).out HB0.out) | (with_reducible exact (KS _).out HB1.out) | (with_reducible exact (KS _).out HB2.out)) (first
    | (go_at_call 7; refine (put_no _ 128 k a _ hp4 HA.out).mono ?_; rintro e w2 ⟨rfl, hb2⟩; have HB2 := Lib.hid (HB1.out.trans (hb2.mono HB1.out.size)); clear hb2))
  clear KS HB0 HB1 HZ
  have hz2 := HB2.out.size
  have B1 : Hid (w2.heap[W.heap.size + 1]? = some (.cells (nc b).toArray 25 (0, 0))) := (HB2.out.block _ hlt).trans A1.out
  have KS : ∀ V, Hid (Below w2.heap.size w2 V → V.cell? ⟨(W.heap.size + 1), 0, none⟩ = some (.int .i64 b.k) ∧ V.cell? ⟨(W.heap.size + 1), 1, none⟩ = some (.int .i64 b.l) ∧ V.cell? ⟨(W.heap.size + 1), 2, none⟩ = some (.int .i64 b.g) ∧ V.cell? ⟨(W.heap.size + 1), 3, none⟩ = some (.int .i64 b.s) ∧ V.cell? ⟨(W.heap.size + 1), 4, none⟩ = some (.int .i64 b.c) ∧ V.cell? ⟨(W.heap.size + 1), 5, none⟩ = some (.int .i64 b.d0) ∧ V.cell? ⟨(W.heap.size + 1), 6, none⟩ = some (.int .i64 b.d1) ∧ V.cell? ⟨(W.heap.size + 1), 7, none⟩ = some (.int .i64 b.d2) ∧ V.cell? ⟨(W.heap.size + 1), 8, none⟩ = some (.int .i64 b.d3) ∧ V.cell? ⟨(W.heap.size + 1), 9, none⟩ = some (.int .i64 b.o) ∧ V.cell? ⟨(W.heap.size + 1), 10, none⟩ = some (.int .i64 b.t)) := fun V hV => nd11 ((hV.block _ (by omega)).trans B1.out)
  have HC0 : Hid (Below w2.heap.size w2 w2.drew) := (Below.refl _ _).drew
  have HC1 : Hid (Below w2.heap.size w2 (w2.alloc (.cells zeros 5)).drew) := (box_below w2 _).drew
  have HZ : Hid (F.Bts (w2.alloc (.cells zeros 5)).drew (w2.heap.size + 1) (some ⟨w2.heap.size, 0, none⟩) 128 128 z128) := (zeros_bts w2).below (Below.refl _ _).drew
  go_upto_region 3 with fail
  go_region_held3 (fun V => V.cell? ⟨(W.heap.size + 1), 0, none⟩ = some (.int .i64 b.k) ∧ V.cell? ⟨(W.heap.size + 1), 1, none⟩ = some (.int .i64 b.l) ∧ V.cell? ⟨(W.heap.size + 1), 2, none⟩ = some (.int .i64 b.g) ∧ V.cell? ⟨(W.heap.size + 1), 3, none⟩ = some (.int .i64 b.s) ∧ V.cell? ⟨(W.heap.size + 1), 4, none⟩ = some (.int .i64 b.c) ∧ V.cell? ⟨(W.heap.size + 1), 5, none⟩ = some (.int .i64 b.d0) ∧ V.cell? ⟨(W.heap.size + 1), 6, none⟩ = some (.int .i64 b.d1) ∧ V.cell? ⟨(W.heap.size + 1), 7, none⟩ = some (.int .i64 b.d2) ∧ V.cell? ⟨(W.heap.size + 1), 8, none⟩ = some (.int .i64 b.d3) ∧ V.cell? ⟨(W.heap.size + 1), 9, none⟩ = some (.int .i64 b.o) ∧ V.cell? ⟨(W.heap.size + 1), 10, none⟩ = some (.int .i64 b.t)) (first | (with_reducible exact (KS _).out HC0.out) | (with_reducible exact (KS _).out HC1.out) | (with_reducible exact (KS _).out HC2.out)) (first
    | (go_at_call 7; refine (put_some (i := k) b HZ.out (by simp) hp4).mono ?_; rintro e w3 ⟨v3, f3, rfl, hb3⟩; have HC2 := Lib.hid (HC1.out.trans (hb3.mono HC1.out.size)); clear hb3))
  clear hmk KS HC0 HC1 HZ B1
  go_wp2_with fail
  refine (awake_any _).mono ?_
  rintro e w4 ⟨rfl, hb4⟩
  have HC4 := Lib.hid (HC2.out.trans (hb4.mono HC2.out.size))
  clear hb4
  go_wp2_with fail
  refine (awake_any _).mono ?_
  rintro e w5 ⟨rfl, hb5⟩
  have HC5 := Lib.hid (HC4.out.trans (hb5.mono HC4.out.size))
  clear hb5
  go_wp2_with fail
  go_ret
  exact ⟨rfl, AB.out.trans ((HB2.out.trans (HC5.out.mono hz2)).mono (by omega))⟩
set_option maxRecDepth 20000 in
set_option maxHeartbeats 4000000 in
theorem half (ya : Nn) (b : Nd) (i at_ x : UInt8) (W : World) (ha : ya.up.ok = true) (hc : b.ok = false) : Calls Try.prog 6 #[.agg (nc ya.up).toArray, .agg (nc b).toArray, .int .u8 (i.toNat : Int), .int .u8 (at_.toNat : Int), .int .u8 (x.toNat : Int)] W fun e w' => e = .returned (.bool true) ∧ Below W.heap.size W w' := by
  have HA := Lib.hid ha
  have HC := Lib.hid hc
  clear ha hc
  have hil := i.toNat_lt
  have hp4 : i.toNat % 4 < 4 := by omega
  go_enter Try.func6, Try.ntmps6
  go_upto_region 2 with fail
  have hp : ((i.toNat : Int) % 4) = ((i.toNat % 4 : Nat) : Int) := by omega
  rw [hp]
  clear hp hil
  generalize i.toNat % 4 = k at *
  obtain ⟨a0, a1, ab, az⟩ := box2 W (Obj.cells (nc ya.up).toArray 25) (Obj.cells (nc b).toArray 25)
  generalize (W.alloc (Obj.cells (nc ya.up).toArray 25)).alloc (Obj.cells (nc b).toArray 25) = W1 at *
  have A0 := Lib.hid a0
  have A1 := Lib.hid a1
  have AB := Lib.hid ab
  have hlt : W.heap.size + 1 < W1.heap.size := by omega
  have hmk := make_run
  clear a0 a1 ab az
  have KS : ∀ V, Hid (Below W1.heap.size W1 V → V.cell? ⟨W.heap.size, 0, none⟩ = some (.int .i64 ya.up.k) ∧ V.cell? ⟨W.heap.size, 1, none⟩ = some (.int .i64 ya.up.l) ∧ V.cell? ⟨W.heap.size, 2, none⟩ = some (.int .i64 ya.up.g) ∧ V.cell? ⟨W.heap.size, 3, none⟩ = some (.int .i64 ya.up.s) ∧ V.cell? ⟨W.heap.size, 4, none⟩ = some (.int .i64 ya.up.c) ∧ V.cell? ⟨W.heap.size, 5, none⟩ = some (.int .i64 ya.up.d0) ∧ V.cell? ⟨W.heap.size, 6, none⟩ = some (.int .i64 ya.up.d1) ∧ V.cell? ⟨W.heap.size, 7, none⟩ = some (.int .i64 ya.up.d2) ∧ V.cell? ⟨W.heap.size, 8, none⟩ = some (.int .i64 ya.up.d3) ∧ V.cell? ⟨W.heap.size, 9, none⟩ = some (.int .i64 ya.up.o) ∧ V.cell? ⟨W.heap.size, 10, none⟩ = some (.int .i64 ya.up.t)) := fun V hV => nd11 ((hV.block _ (by omega)).trans A0.out)
  have HB0 : Hid (Below W1.heap.size W1 W1.drew) := (Below.refl _ _).drew
  have HB1 : Hid (Below W1.heap.size W1 (W1.alloc (.cells zeros 5)).drew) := (box_below W1 _).drew
  have HZ : Hid (F.Bts (W1.alloc (.cells zeros 5)).drew (W1.heap.size + 1) (some ⟨W1.heap.size, 0, none⟩) 128 128 z128) := (zeros_bts W1).below (Below.refl _ _).drew
  go_region_held3 (fun V => V.cell? ⟨W.heap.size, 0, none⟩ = some (.int .i64 ya.up.k) ∧ V.cell? ⟨W.heap.size, 1, none⟩ = some (.int .i64 ya.up.l) ∧ V.cell? ⟨W.heap.size, 2, none⟩ = some (.int .i64 ya.up.g) ∧ V.cell? ⟨W.heap.size, 3, none⟩ = some (.int .i64 ya.up.s) ∧ V.cell? ⟨W.heap.size, 4, none⟩ = some (.int .i64 ya.up.c) ∧ V.cell? ⟨W.heap.size, 5, none⟩ = some (.int .i64 ya.up.d0) ∧ V.cell? ⟨W.heap.size, 6, none⟩ = some (.int .i64 ya.up.d1) ∧ V.cell? ⟨W.heap.size, 7, none⟩ = some (.int .i64 ya.up.d2) ∧ V.cell? ⟨W.heap.size, 8, none⟩ = some (.int .i64 ya.up.d3) ∧ V.cell? ⟨W.heap.size, 9, none⟩ = some (.int .i64 ya.up.o) ∧ V.cell? ⟨W.heap.size, 10, none⟩ = some (.int .i64 ya.up.t)) (first | (with_reducible exact (KS _).out HB0.out) | (with_reducible exact (KS _).out HB1.out) | (with_reducible exact (KS _).out HB2.out)) (first
    | (go_at_call 7; refine (put_yes (i := k) ya HZ.out (by simp) hp4 HA.out).mono ?_; rintro e w2 ⟨v, rfl, hm⟩; have HB2 := Lib.hid (HB1.out.trans (hm.bel.mono HB1.out.size)); have HM := Lib.hid hm; clear hm))
  clear KS HB0 HB1 HZ
  have hz2 := HB2.out.size
  have B1 : Hid (w2.heap[W.heap.size + 1]? = some (.cells (nc b).toArray 25 (0, 0))) := (HB2.out.block _ hlt).trans A1.out
  have KS : ∀ V, Hid (Below w2.heap.size w2 V → V.cell? ⟨(W.heap.size + 1), 0, none⟩ = some (.int .i64 b.k) ∧ V.cell? ⟨(W.heap.size + 1), 1, none⟩ = some (.int .i64 b.l) ∧ V.cell? ⟨(W.heap.size + 1), 2, none⟩ = some (.int .i64 b.g) ∧ V.cell? ⟨(W.heap.size + 1), 3, none⟩ = some (.int .i64 b.s) ∧ V.cell? ⟨(W.heap.size + 1), 4, none⟩ = some (.int .i64 b.c) ∧ V.cell? ⟨(W.heap.size + 1), 5, none⟩ = some (.int .i64 b.d0) ∧ V.cell? ⟨(W.heap.size + 1), 6, none⟩ = some (.int .i64 b.d1) ∧ V.cell? ⟨(W.heap.size + 1), 7, none⟩ = some (.int .i64 b.d2) ∧ V.cell? ⟨(W.heap.size + 1), 8, none⟩ = some (.int .i64 b.d3) ∧ V.cell? ⟨(W.heap.size + 1), 9, none⟩ = some (.int .i64 b.o) ∧ V.cell? ⟨(W.heap.size + 1), 10, none⟩ = some (.int .i64 b.t)) := fun V hV => nd11 ((hV.block _ (by omega)).trans B1.out)
  have HC0 : Hid (Below w2.heap.size w2 w2.drew) := (Below.refl _ _).drew
  have HC1 : Hid (Below w2.heap.size w2 (w2.alloc (.cells zeros 5)).drew) := (box_below w2 _).drew
  have HZ : Hid (F.Bts (w2.alloc (.cells zeros 5)).drew (w2.heap.size + 1) (some ⟨w2.heap.size, 0, none⟩) 128 128 z128) := (zeros_bts w2).below (Below.refl _ _).drew
  go_upto_region 3 with fail
  go_region_held3 (fun V => V.cell? ⟨(W.heap.size + 1), 0, none⟩ = some (.int .i64 b.k) ∧ V.cell? ⟨(W.heap.size + 1), 1, none⟩ = some (.int .i64 b.l) ∧ V.cell? ⟨(W.heap.size + 1), 2, none⟩ = some (.int .i64 b.g) ∧ V.cell? ⟨(W.heap.size + 1), 3, none⟩ = some (.int .i64 b.s) ∧ V.cell? ⟨(W.heap.size + 1), 4, none⟩ = some (.int .i64 b.c) ∧ V.cell? ⟨(W.heap.size + 1), 5, none⟩ = some (.int .i64 b.d0) ∧ V.cell? ⟨(W.heap.size + 1), 6, none⟩ = some (.int .i64 b.d1) ∧ V.cell? ⟨(W.heap.size + 1), 7, none⟩ = some (.int .i64 b.d2) ∧ V.cell? ⟨(W.heap.size + 1), 8, none⟩ = some (.int .i64 b.d3) ∧ V.cell? ⟨(W.heap.size + 1), 9, none⟩ = some (.int .i64 b.o) ∧ V.cell? ⟨(W.heap.size + 1), 10, none⟩ = some (.int .i64 b.t)) (first | (with_reducible exact (KS _).out HC0.out) | (with_reducible exact (KS _).out HC1.out) | (with_reducible exact (KS _).out HC2.out)) (first
    | (go_at_call 7; refine (put_no _ 128 k b _ hp4 HC.out).mono ?_; rintro e w3 ⟨rfl, hb3⟩; have HC2 := Lib.hid (HC1.out.trans (hb3.mono HC1.out.size)); clear hb3))
  clear hmk KS HC0 HC1 HZ B1
  go_wp2_with fail
  refine (awake_any _).mono ?_
  rintro e w4 ⟨rfl, hb4⟩
  have HC4 := Lib.hid (HC2.out.trans (hb4.mono HC2.out.size))
  clear hb4
  go_wp2_with fail
  refine (awake_any _).mono ?_
  rintro e w5 ⟨rfl, hb5⟩
  have HC5 := Lib.hid (HC4.out.trans (hb5.mono HC4.out.size))
  clear hb5
  go_wp2_with fail
  go_ret
  exact ⟨rfl, AB.out.trans ((HB2.out.trans (HC5.out.mono hz2)).mono (by omega))⟩
theorem set_put {b p : List UInt8} {i j : Nat} (hb : b.length = 128) (hi : i < 4) (hp : p.length = 32) (hj : j < 32) (x : UInt8) : (put b i p).set (32 * i + j) x = put b i (p.set j x) := by
  unfold put
  have h1 : (b.take (32 * i)).length = 32 * i := by simp [hb]; omega
  rw [List.append_assoc, List.append_assoc, List.set_append_right _ _ (by omega), h1, List.set_append_left _ _ (by omega)]
  congr 3
  omega
/-- The byte that is turned was 0. -/
theorem was_zero {b : List UInt8} {i j : Nat} {y : Nn} (hb : b.length = 128) (hi : i < 4) (hj : j < 6) : (put b i y.img)[32 * i + (26 + j)]?.getD 0 = 0 := by
  unfold put
  have h1 : (b.take (32 * i)).length = 32 * i := by simp [hb]; omega
  have h2 := y.parp_len 6
  have h3 := y.img_len
  rw [List.append_assoc, List.getElem?_append_right (by omega), h1, List.getElem?_append_left (by omega)]
  have e : 32 * i + (26 + j) - 32 * i = 26 + j := by omega
  rw [e]
  unfold Nn.img
  rw [List.getElem?_append_right (by omega), h2, List.getElem?_replicate, if_pos (by omega)]
  rfl
theorem turned {i j : Nat} {y : Nn} (hi : i < 4) (hj : j < 6) (hy : y.up.ok = true) (x : UInt8) : good (piece ((put z128 i y.img).set (32 * i + (26 + j)) x) i) = decide (x = 0) := by
  rw [set_put z128_len hi y.img_len (by omega), piece_put z128_len hi (by rw [List.length_set, y.img_len])]
  exact good_turn hy hj x
theorem xor_val (x : UInt8) : Value.int .u8 (bits .xor .u8 0 (x.toNat : Int)) = F.bv x := by
  have hx := x.toNat_lt
  have h := u8_xor_nat 0 x.toNat (by omega) (by omega)
  have e : bits .xor .u8 0 (x.toNat : Int) = ((0 ^^^ x.toNat : Nat) : Int) := h
  rw [e, Nat.zero_xor]
  rfl
/-- Unlike nodes, unlike bytes. -/
theorem like {i : Nat} {y z : Nn} (hi : i < 4) (hy : y.up.ok = true) (hz : z.up.ok = true) : decide (put z128 i y.img = put z128 i z.img) = decide (y.up = z.up) := by
  rw [decide_eq_decide]
  constructor
  · intro h
    rw [img_inj (Nn.fits hy) (Nn.fits hz) (put_inj z128_len hi y.img_len z.img_len h)]
  · intro h
    rw [Nn.up_inj h]
set_option maxRecDepth 20000 in
set_option maxHeartbeats 4000000 in
theorem both (ya yb : Nn) (i at_ x : UInt8) (W : World) (ha : ya.up.ok = true) (hc : yb.up.ok = true) : Calls Try.prog 6 #[.agg (nc ya.up).toArray, .agg (nc yb.up).toArray, .int .u8 (i.toNat : Int), .int .u8 (at_.toNat : Int), .int .u8 (x.toNat : Int)] W fun e w' => e = .returned (.bool true) ∧ Below W.heap.size W w' := by
  have HA := Lib.hid ha
  have HC := Lib.hid hc
  clear ha hc
  have hil := i.toNat_lt
  have hp4 : i.toNat % 4 < 4 := by omega
  go_enter Try.func6, Try.ntmps6
  go_upto_region 2 with fail
  have hp : ((i.toNat : Int) % 4) = ((i.toNat % 4 : Nat) : Int) := by omega
  rw [hp]
  clear hp hil
  generalize i.toNat % 4 = k at *
  obtain ⟨a0, a1, ab, az⟩ := box2 W (Obj.cells (nc ya.up).toArray 25) (Obj.cells (nc yb.up).toArray 25)
  generalize (W.alloc (Obj.cells (nc ya.up).toArray 25)).alloc (Obj.cells (nc yb.up).toArray 25) = W1 at *
  have A0 := Lib.hid a0
  have A1 := Lib.hid a1
  have AB := Lib.hid ab
  have hlt : W.heap.size + 1 < W1.heap.size := by omega
  have hmk := make_run
  clear a0 a1 ab az
  have KS : ∀ V, Hid (Below W1.heap.size W1 V → V.cell? ⟨W.heap.size, 0, none⟩ = some (.int .i64 ya.up.k) ∧ V.cell? ⟨W.heap.size, 1, none⟩ = some (.int .i64 ya.up.l) ∧ V.cell? ⟨W.heap.size, 2, none⟩ = some (.int .i64 ya.up.g) ∧ V.cell? ⟨W.heap.size, 3, none⟩ = some (.int .i64 ya.up.s) ∧ V.cell? ⟨W.heap.size, 4, none⟩ = some (.int .i64 ya.up.c) ∧ V.cell? ⟨W.heap.size, 5, none⟩ = some (.int .i64 ya.up.d0) ∧ V.cell? ⟨W.heap.size, 6, none⟩ = some (.int .i64 ya.up.d1) ∧ V.cell? ⟨W.heap.size, 7, none⟩ = some (.int .i64 ya.up.d2) ∧ V.cell? ⟨W.heap.size, 8, none⟩ = some (.int .i64 ya.up.d3) ∧ V.cell? ⟨W.heap.size, 9, none⟩ = some (.int .i64 ya.up.o) ∧ V.cell? ⟨W.heap.size, 10, none⟩ = some (.int .i64 ya.up.t)) := fun V hV => nd11 ((hV.block _ (by omega)).trans A0.out)
  have HB0 : Hid (Below W1.heap.size W1 W1.drew) := (Below.refl _ _).drew
  have HB1 : Hid (Below W1.heap.size W1 (W1.alloc (.cells zeros 5)).drew) := (box_below W1 _).drew
  have HZ : Hid (F.Bts (W1.alloc (.cells zeros 5)).drew (W1.heap.size + 1) (some ⟨W1.heap.size, 0, none⟩) 128 128 z128) := (zeros_bts W1).below (Below.refl _ _).drew
  go_region_held3 (fun V => V.cell? ⟨W.heap.size, 0, none⟩ = some (.int .i64 ya.up.k) ∧ V.cell? ⟨W.heap.size, 1, none⟩ = some (.int .i64 ya.up.l) ∧ V.cell? ⟨W.heap.size, 2, none⟩ = some (.int .i64 ya.up.g) ∧ V.cell? ⟨W.heap.size, 3, none⟩ = some (.int .i64 ya.up.s) ∧ V.cell? ⟨W.heap.size, 4, none⟩ = some (.int .i64 ya.up.c) ∧ V.cell? ⟨W.heap.size, 5, none⟩ = some (.int .i64 ya.up.d0) ∧ V.cell? ⟨W.heap.size, 6, none⟩ = some (.int .i64 ya.up.d1) ∧ V.cell? ⟨W.heap.size, 7, none⟩ = some (.int .i64 ya.up.d2) ∧ V.cell? ⟨W.heap.size, 8, none⟩ = some (.int .i64 ya.up.d3) ∧ V.cell? ⟨W.heap.size, 9, none⟩ = some (.int .i64 ya.up.o) ∧ V.cell? ⟨W.heap.size, 10, none⟩ = some (.int .i64 ya.up.t)) (first | (with_reducible exact (KS _).out HB0.out) | (with_reducible exact (KS _).out HB1.out) | (with_reducible exact (KS _).out HB2.out)) (first
    | (go_at_call 7; refine (put_yes (i := k) ya HZ.out (by simp) hp4 HA.out).mono ?_; rintro e w2 ⟨v, rfl, hm⟩; have HB2 := Lib.hid (HB1.out.trans (hm.bel.mono HB1.out.size)); have HM := Lib.hid hm; clear hm))
  clear KS HB0 HB1 HZ
  have hz2 := HB2.out.size
  have B1 : Hid (w2.heap[W.heap.size + 1]? = some (.cells (nc yb.up).toArray 25 (0, 0))) := (HB2.out.block _ hlt).trans A1.out
  have KS : ∀ V, Hid (Below w2.heap.size w2 V → V.cell? ⟨(W.heap.size + 1), 0, none⟩ = some (.int .i64 yb.up.k) ∧ V.cell? ⟨(W.heap.size + 1), 1, none⟩ = some (.int .i64 yb.up.l) ∧ V.cell? ⟨(W.heap.size + 1), 2, none⟩ = some (.int .i64 yb.up.g) ∧ V.cell? ⟨(W.heap.size + 1), 3, none⟩ = some (.int .i64 yb.up.s) ∧ V.cell? ⟨(W.heap.size + 1), 4, none⟩ = some (.int .i64 yb.up.c) ∧ V.cell? ⟨(W.heap.size + 1), 5, none⟩ = some (.int .i64 yb.up.d0) ∧ V.cell? ⟨(W.heap.size + 1), 6, none⟩ = some (.int .i64 yb.up.d1) ∧ V.cell? ⟨(W.heap.size + 1), 7, none⟩ = some (.int .i64 yb.up.d2) ∧ V.cell? ⟨(W.heap.size + 1), 8, none⟩ = some (.int .i64 yb.up.d3) ∧ V.cell? ⟨(W.heap.size + 1), 9, none⟩ = some (.int .i64 yb.up.o) ∧ V.cell? ⟨(W.heap.size + 1), 10, none⟩ = some (.int .i64 yb.up.t)) := fun V hV => nd11 ((hV.block _ (by omega)).trans B1.out)
  have HC0 : Hid (Below w2.heap.size w2 w2.drew) := (Below.refl _ _).drew
  have HC1 : Hid (Below w2.heap.size w2 (w2.alloc (.cells zeros 5)).drew) := (box_below w2 _).drew
  have HZ : Hid (F.Bts (w2.alloc (.cells zeros 5)).drew (w2.heap.size + 1) (some ⟨w2.heap.size, 0, none⟩) 128 128 z128) := (zeros_bts w2).below (Below.refl _ _).drew
  go_upto_region 3 with fail
  go_region_held3 (fun V => V.cell? ⟨(W.heap.size + 1), 0, none⟩ = some (.int .i64 yb.up.k) ∧ V.cell? ⟨(W.heap.size + 1), 1, none⟩ = some (.int .i64 yb.up.l) ∧ V.cell? ⟨(W.heap.size + 1), 2, none⟩ = some (.int .i64 yb.up.g) ∧ V.cell? ⟨(W.heap.size + 1), 3, none⟩ = some (.int .i64 yb.up.s) ∧ V.cell? ⟨(W.heap.size + 1), 4, none⟩ = some (.int .i64 yb.up.c) ∧ V.cell? ⟨(W.heap.size + 1), 5, none⟩ = some (.int .i64 yb.up.d0) ∧ V.cell? ⟨(W.heap.size + 1), 6, none⟩ = some (.int .i64 yb.up.d1) ∧ V.cell? ⟨(W.heap.size + 1), 7, none⟩ = some (.int .i64 yb.up.d2) ∧ V.cell? ⟨(W.heap.size + 1), 8, none⟩ = some (.int .i64 yb.up.d3) ∧ V.cell? ⟨(W.heap.size + 1), 9, none⟩ = some (.int .i64 yb.up.o) ∧ V.cell? ⟨(W.heap.size + 1), 10, none⟩ = some (.int .i64 yb.up.t)) (first | (with_reducible exact (KS _).out HC0.out) | (with_reducible exact (KS _).out HC1.out) | (with_reducible exact (KS _).out HC2.out)) (first
    | (go_at_call 7; refine (put_yes (i := k) yb HZ.out (by simp) hp4 HC.out).mono ?_; rintro e w3 ⟨v3, rfl, hm3⟩; have HC2 := Lib.hid (HC1.out.trans (hm3.bel.mono HC1.out.size)); have HM3 := Lib.hid hm3; clear hm3))
  clear hmk KS HC0 HC1 HZ B1
  have hz3 := HC2.out.size
  have hl1 : (put z128 k ya.img).length = 128 := put_len z128_len hp4 ya.img_len
  obtain ⟨g, cap, e, hgw⟩ : ∃ g cap, v = .slice (some ⟨g, 0, none⟩) 128 cap ∧ W1.heap.size ≤ g := by
    have ho := HM.out.own
    rw [hl1] at ho
    rcases ho.2 with ⟨_, h0⟩ | ⟨g, cap, cur, e, h1, h2, h3, h4, h5, h6⟩
    · omega
    · exact ⟨g, cap, e, by have : (W1.alloc (.cells zeros 5)).drew.heap.size = W1.heap.size + 1 := by simp
                           omega⟩
  subst e
  obtain ⟨A3, n3, cap3, rfl, hB3⟩ := HM3.out.holds
  obtain rfl : n3 = 128 := by rw [← hB3.len, put_len z128_len hp4 yb.img_len]
  have HB3 := Lib.hid hB3
  clear hB3 HM3
  go_wp2_with fail
  refine (awake_any _).mono ?_
  rintro e w4 ⟨rfl, hb4⟩
  have HC4 := Lib.hid (HC2.out.trans (hb4.mono hz3))
  have HBT3 : Hid (F.Bts w4 w4.heap.size A3 128 cap3 (put z128 k yb.img)) := (HB3.out.below hb4).more hb4.size
  have HO4 : Hid (w4.ownsRow W1.heap.size 5 1 (.slice (some ⟨g, 0, none⟩) 128 cap) (put z128 k ya.img).length ((put z128 k ya.img).map F.bv)) := by
    have h := own_below HM.out.own HC4.out
    refine ⟨h.1, ?_⟩
    rcases h.2 with h0 | ⟨g', cap', cur, e, hg, r⟩
    · exact .inl h0
    · refine .inr ⟨g', cap', cur, e, ?_, r⟩
      have : (W1.alloc (.cells zeros 5)).drew.heap.size = W1.heap.size + 1 := by simp
      omega
  have hz4 := HC4.out.size
  have HBW4 : Hid (Below W1.heap.size W1 w4) := HB2.out.trans (HC4.out.mono hz2)
  clear hb4 HB3 HC2 HM HC4 HB2
  have KS : ∀ V, Hid (Below w4.heap.size w4 V → V.cell? ⟨W.heap.size, 0, none⟩ = some (.int .i64 ya.up.k) ∧ V.cell? ⟨W.heap.size, 1, none⟩ = some (.int .i64 ya.up.l) ∧ V.cell? ⟨W.heap.size, 2, none⟩ = some (.int .i64 ya.up.g) ∧ V.cell? ⟨W.heap.size, 3, none⟩ = some (.int .i64 ya.up.s) ∧ V.cell? ⟨W.heap.size, 4, none⟩ = some (.int .i64 ya.up.c) ∧ V.cell? ⟨W.heap.size, 5, none⟩ = some (.int .i64 ya.up.d0) ∧ V.cell? ⟨W.heap.size, 6, none⟩ = some (.int .i64 ya.up.d1) ∧ V.cell? ⟨W.heap.size, 7, none⟩ = some (.int .i64 ya.up.d2) ∧ V.cell? ⟨W.heap.size, 8, none⟩ = some (.int .i64 ya.up.d3) ∧ V.cell? ⟨W.heap.size, 9, none⟩ = some (.int .i64 ya.up.o) ∧ V.cell? ⟨W.heap.size, 10, none⟩ = some (.int .i64 ya.up.t) ∧ V.cell? ⟨(W.heap.size + 1), 0, none⟩ = some (.int .i64 yb.up.k) ∧ V.cell? ⟨(W.heap.size + 1), 1, none⟩ = some (.int .i64 yb.up.l) ∧ V.cell? ⟨(W.heap.size + 1), 2, none⟩ = some (.int .i64 yb.up.g) ∧ V.cell? ⟨(W.heap.size + 1), 3, none⟩ = some (.int .i64 yb.up.s) ∧ V.cell? ⟨(W.heap.size + 1), 4, none⟩ = some (.int .i64 yb.up.c) ∧ V.cell? ⟨(W.heap.size + 1), 5, none⟩ = some (.int .i64 yb.up.d0) ∧ V.cell? ⟨(W.heap.size + 1), 6, none⟩ = some (.int .i64 yb.up.d1) ∧ V.cell? ⟨(W.heap.size + 1), 7, none⟩ = some (.int .i64 yb.up.d2) ∧ V.cell? ⟨(W.heap.size + 1), 8, none⟩ = some (.int .i64 yb.up.d3) ∧ V.cell? ⟨(W.heap.size + 1), 9, none⟩ = some (.int .i64 yb.up.o) ∧ V.cell? ⟨(W.heap.size + 1), 10, none⟩ = some (.int .i64 yb.up.t) ∧ (convert 22 9 (.slice (some ⟨g, 0, none⟩) 128 cap)).run Try.prog V = .ok (.string (sb (put z128 k ya.img))) V ∧ (convert 22 9 (.slice A3 128 cap3)).run Try.prog V = .ok (.string (sb (put z128 k yb.img))) V) := fun V hV => by
    obtain ⟨A', n', c', e', hB'⟩ := F.own_holds HO4.out
    cases e'
    obtain ⟨x0, x1, x2, x3, x4, x5, x6, x7, x8, x9, x10⟩ := nd11 ((hV.block _ (by omega)).trans ((HBW4.out.block _ (by omega)).trans A0.out))
    obtain ⟨y0, y1, y2, y3, y4, y5, y6, y7, y8, y9, y10⟩ := nd11 ((hV.block _ (by omega)).trans ((HBW4.out.block _ hlt).trans A1.out))
    exact ⟨x0, x1, x2, x3, x4, x5, x6, x7, x8, x9, x10, y0, y1, y2, y3, y4, y5, y6, y7, y8, y9, y10, fstr hB' V hV, fstr HBT3.out V hV⟩
  have HD0 : Hid (Below w4.heap.size w4 w4.drew) := (Below.refl _ _).drew
  have hls := (sb_list (put z128 k ya.img) (put z128 k yb.img)).trans (like hp4 HA.out HC.out)
  have hqe : ∀ V, (Op.equalIn 10000 25 (.agg #[.int .i64 ya.up.k, .int .i64 ya.up.l, .int .i64 ya.up.g, .int .i64 ya.up.s, .int .i64 ya.up.c, .int .i64 ya.up.d0, .int .i64 ya.up.d1, .int .i64 ya.up.d2, .int .i64 ya.up.d3, .int .i64 ya.up.o, .int .i64 ya.up.t]) (.agg #[.int .i64 yb.up.k, .int .i64 yb.up.l, .int .i64 yb.up.g, .int .i64 yb.up.s, .int .i64 yb.up.c, .int .i64 yb.up.d0, .int .i64 yb.up.d1, .int .i64 yb.up.d2, .int .i64 yb.up.d3, .int .i64 yb.up.o, .int .i64 yb.up.t])).run Try.prog V = .ok (decide (ya.up = yb.up)) V := eq25 ya.up yb.up
  generalize decide (ya.up = yb.up) = r at *
  go_upto_region 6 with fail
  go_region_held3 (fun V => V.cell? ⟨W.heap.size, 0, none⟩ = some (.int .i64 ya.up.k) ∧ V.cell? ⟨W.heap.size, 1, none⟩ = some (.int .i64 ya.up.l) ∧ V.cell? ⟨W.heap.size, 2, none⟩ = some (.int .i64 ya.up.g) ∧ V.cell? ⟨W.heap.size, 3, none⟩ = some (.int .i64 ya.up.s) ∧ V.cell? ⟨W.heap.size, 4, none⟩ = some (.int .i64 ya.up.c) ∧ V.cell? ⟨W.heap.size, 5, none⟩ = some (.int .i64 ya.up.d0) ∧ V.cell? ⟨W.heap.size, 6, none⟩ = some (.int .i64 ya.up.d1) ∧ V.cell? ⟨W.heap.size, 7, none⟩ = some (.int .i64 ya.up.d2) ∧ V.cell? ⟨W.heap.size, 8, none⟩ = some (.int .i64 ya.up.d3) ∧ V.cell? ⟨W.heap.size, 9, none⟩ = some (.int .i64 ya.up.o) ∧ V.cell? ⟨W.heap.size, 10, none⟩ = some (.int .i64 ya.up.t) ∧ V.cell? ⟨(W.heap.size + 1), 0, none⟩ = some (.int .i64 yb.up.k) ∧ V.cell? ⟨(W.heap.size + 1), 1, none⟩ = some (.int .i64 yb.up.l) ∧ V.cell? ⟨(W.heap.size + 1), 2, none⟩ = some (.int .i64 yb.up.g) ∧ V.cell? ⟨(W.heap.size + 1), 3, none⟩ = some (.int .i64 yb.up.s) ∧ V.cell? ⟨(W.heap.size + 1), 4, none⟩ = some (.int .i64 yb.up.c) ∧ V.cell? ⟨(W.heap.size + 1), 5, none⟩ = some (.int .i64 yb.up.d0) ∧ V.cell? ⟨(W.heap.size + 1), 6, none⟩ = some (.int .i64 yb.up.d1) ∧ V.cell? ⟨(W.heap.size + 1), 7, none⟩ = some (.int .i64 yb.up.d2) ∧ V.cell? ⟨(W.heap.size + 1), 8, none⟩ = some (.int .i64 yb.up.d3) ∧ V.cell? ⟨(W.heap.size + 1), 9, none⟩ = some (.int .i64 yb.up.o) ∧ V.cell? ⟨(W.heap.size + 1), 10, none⟩ = some (.int .i64 yb.up.t) ∧ (convert 22 9 (.slice (some ⟨g, 0, none⟩) 128 cap)).run Try.prog V = .ok (.string (sb (put z128 k ya.img))) V ∧ (convert 22 9 (.slice A3 128 cap3)).run Try.prog V = .ok (.string (sb (put z128 k yb.img))) V) (first | (with_reducible exact (KS _).out HD0.out)) (first | fail)
  clear KS HD0 hls hqe
  have HO5 : Hid (w4.drew.ownsRow W1.heap.size 5 1 (.slice (some ⟨g, 0, none⟩) 128 cap) (put z128 k ya.img).length ((put z128 k ya.img).map F.bv)) := HO4.out
  have HBW5 : Hid (Below W1.heap.size W1 w4.drew) := HBW4.out.drew
  clear HO4 HBW4 HBT3
  generalize w4.drew = w5 at *
  have hal := at_.toNat_lt
  have hj6 : at_.toNat % 6 < 6 := by omega
  have hjj : (at_.toNat : Int) % 6 = ((at_.toNat % 6 : Nat) : Int) := by omega
  generalize at_.toNat % 6 = j at *
  obtain ⟨t, ht⟩ : ∃ t, 32 * k + (26 + j) = t := ⟨_, rfl⟩
  have ht128 : t < 128 := by omega
  have htt : 32 * (k : Int) + 26 + (j : Int) = (t : Int) := by omega
  obtain ⟨kc, kf⟩ := own_cell HO5.out hl1 ht128
  have hz : (put z128 k ya.img)[t]?.getD 0 = 0 := by rw [← ht]; exact was_zero z128_len hp4 hj6
  rw [hz] at kc
  have hlim : 128 ≤ cap := by
    have ho := HO5.out
    rw [hl1] at ho
    rcases ho.2 with ⟨e, _⟩ | ⟨g', cap', cur, e, h1, h2, h3, h4, h5, h6⟩
    · cases e
    · cases e; omega
  go_wp2_with fail
  rw [xor_val x]
  have HO6 := Lib.hid (own_set HO5.out t x)
  have HBW6 : Hid (Below W1.heap.size W1 (w5.setCell ⟨g, t, none⟩ (F.bv x))) := HBW5.out.setCell (p := ⟨g, t, none⟩) hgw _
  generalize w5.setCell ⟨g, t, none⟩ (F.bv x) = w6 at *
  have hl6 : ((put z128 k ya.img).set t x).length = 128 := by rw [List.length_set, hl1]
  obtain ⟨A6, n6, c6, e6, hB6⟩ := F.own_holds HO6.out
  cases e6
  have HG : Hid (good (piece ((put z128 k ya.img).set t x) k) = decide (x = 0)) := by
    show _ = _
    rw [← ht]
    exact turned hp4 hj6 HA.out x
  clear kc kf hz htt hjj HO5 HBW5 HO6
  refine (get_any hB6 (Nat.le_refl _) hp4).mono ?_
  rintro e w7 ⟨rfl, hb7⟩
  rw [HG.out]
  have HBW7 := Lib.hid (HBW6.out.trans (hb7.mono HBW6.out.size))
  clear hb7 hB6 HG hl6
  obtain ⟨yy, hyy⟩ : ∃ yy, (if decide (x = 0) = true then rd (piece ((put z128 k ya.img).set t x) k) else zeroN) = yy := ⟨_, rfl⟩
  rw [hyy]
  clear hyy
  have HBW8 : Hid (Below W1.heap.size W1 (w7.alloc (Obj.cells (nc yy.up).toArray 25))) := HBW7.out.trans ((box_below w7 _).mono HBW7.out.size)
  by_cases hx : x = 0
  · have hx0 : ((x.toNat : Int) == 0) = true := by rw [hx]; rfl
    rw [decide_eq_true hx]
    simp only [if_true]
    clear hx
    go_wp2_with (first | (refine wpList_store_new rfl 25 _ _ rfl w7 z11 (nc yy.up).toArray rfl rfl s25 rfl (all_oneCell_toArray (nc_one _)) ?_) | fail)
    go_ret
    exact ⟨rfl, AB.out.trans (HBW8.out.mono (by omega))⟩
  · have hx0 : ((x.toNat : Int) == 0) = false := by
      rw [beq_eq_false_iff_ne]
      intro h
      exact hx (UInt8.toNat_inj.1 (by show x.toNat = 0; omega))
    rw [decide_eq_false hx]
    simp only [Bool.false_eq_true, if_false]
    clear hx
    go_wp2_with (first | (refine wpList_store_new rfl 25 _ _ rfl w7 z11 (nc yy.up).toArray rfl rfl s25 rfl (all_oneCell_toArray (nc_one _)) ?_) | fail)
    go_ret
    exact ⟨rfl, AB.out.trans (HBW8.out.mono (by omega))⟩
theorem walk (W : World) (a b : Nd) (i at_ x : UInt8) : Calls Try.prog 6 #[.agg (nc a).toArray, .agg (nc b).toArray, .int .u8 (i.toNat : Int), .int .u8 (at_.toNat : Int), .int .u8 (x.toNat : Int)] W fun e w' => e = .returned (.bool true) ∧ Below W.heap.size W w' := by
  cases ha : a.ok with
  | false => exact bad a b i at_ x W ha
  | true =>
    obtain ⟨ya, rfl, _⟩ := Nd.ok_nat ha
    cases hc : b.ok with
    | false => exact half ya b i at_ x W ha hc
    | true =>
      obtain ⟨yb, rfl, _⟩ := Nd.ok_nat hc
      exact both ya yb i at_ x W ha hc
end Go.Proofs.Ytijphembfohfnaa.nodeApart
