/- copyholdlaw10.NodeFour, walked. -/
import Derived.Test.YtijphembfohfnaaAwake
namespace Go.Proofs.Ytijphembfohfnaa.nodeFour
open Go.RowKit
set_option linter.unusedVariables false
set_option maxRecDepth 20000 in
set_option maxHeartbeats 2000000 in
theorem bad (a c : Nd) (i k : UInt8) (W : World) (ha : a.ok = false) : Calls Try.prog 5 #[.agg (nc a).toArray, .agg (nc c).toArray, .int .u8 (i.toNat : Int), .int .u8 (k.toNat : Int)] W fun e w' => e = .returned (.bool true) ∧ Below W.heap.size W w' := by
  have HA := Lib.hid ha
  clear ha
  have hil := i.toNat_lt
  have hkl := k.toNat_lt
  have hp4 : i.toNat % 4 < 4 := by omega
  have hq4 : k.toNat % 4 < 4 := by omega
  go_enter Try.func5, Try.ntmps5
  go_upto_region 2 with fail
  have hp : ((i.toNat : Int) % 4) = ((i.toNat % 4 : Nat) : Int) := by omega
  have hq : ((k.toNat : Int) % 4) = ((k.toNat % 4 : Nat) : Int) := by omega
  rw [hp, hq]
  clear hp hq hil hkl
  generalize i.toNat % 4 = p at *
  generalize k.toNat % 4 = q at *
  obtain ⟨a0, a1, ab, az⟩ := box2 W (Obj.cells (nc a).toArray 25) (Obj.cells (nc c).toArray 25)
  generalize (W.alloc (Obj.cells (nc a).toArray 25)).alloc (Obj.cells (nc c).toArray 25) = W1 at *
  have A0 := Lib.hid a0
  have A1 := Lib.hid a1
  have AB := Lib.hid ab
  have hlt : W.heap.size + 1 < W1.heap.size := by omega
  have hmk := make_run
  clear a0 a1 ab az
  have KS : ∀ V, Hid (Below W1.heap.size W1 V → V.cell? ⟨W.heap.size, 0, none⟩ = some (.int .i64 a.k) ∧ V.cell? ⟨W.heap.size, 1, none⟩ = some (.int .i64 a.l) ∧ V.cell? ⟨W.heap.size, 2, none⟩ = some (.int .i64 a.g) ∧ V.cell? ⟨W.heap.size, 3, none⟩ = some (.int .i64 a.s) ∧ V.cell? ⟨W.heap.size, 4, none⟩ = some (.int .i64 a.c) ∧ V.cell? ⟨W.heap.size, 5, none⟩ = some (.int .i64 a.d0) ∧ V.cell? ⟨W.heap.size, 6, none⟩ = some (.int .i64 a.d1) ∧ V.cell? ⟨W.heap.size, 7, none⟩ = some (.int .i64 a.d2) ∧ V.cell? ⟨W.heap.size, 8, none⟩ = some (.int .i64 a.d3) ∧ V.cell? ⟨W.heap.size, 9, none⟩ = some (.int .i64 a.o) ∧ V.cell? ⟨W.heap.size, 10, none⟩ = some (.int .i64 a.t)) := fun V hV => nd11 ((hV.block _ (by omega)).trans A0.out)
  have HB0 : Hid (Below W1.heap.size W1 W1.drew) := (Below.refl _ _).drew
  have HB1 : Hid (Below W1.heap.size W1 (W1.alloc (.cells zeros 5)).drew) := (box_below W1 _).drew
  have HZ : Hid (F.Bts (W1.alloc (.cells zeros 5)).drew (W1.heap.size + 1) (some ⟨W1.heap.size, 0, none⟩) 128 128 z128) := (zeros_bts W1).below (Below.refl _ _).drew
  go_region_held3 (fun V => V.cell? ⟨W.heap.size, 0, none⟩ = some (.int .i64 a.k) ∧ V.cell? ⟨W.heap.size, 1, none⟩ = some (.int .i64 a.l) ∧ V.cell? ⟨W.heap.size, 2, none⟩ = some (.int .i64 a.g) ∧ V.cell? ⟨W.heap.size, 3, none⟩ = some (.int .i64 a.s) ∧ V.cell? ⟨W.heap.size, 4, none⟩ = some (.int .i64 a.c) ∧ V.cell? ⟨W.heap.size, 5, none⟩ = some (.int .i64 a.d0) ∧ V.cell? ⟨W.heap.size, 6, none⟩ = some (.int .i64 a.d1) ∧ V.cell? ⟨W.heap.size, 7, none⟩ = some (.int .i64 a.d2) ∧ V.cell? ⟨W.heap.size, 8, none⟩ = some (.int .i64 a.d3) ∧ V.cell? ⟨W.heap.size, 9, none⟩ = some (.int .i64 a.o) ∧ V.cell? ⟨W.heap.size, 10, none⟩ = some (.int .i64 a.t)) (first | (with_reducible exact (KS _).out HB0.out) | (with_reducible exact (KS _).out HB1.out) | (with_reducible exact (KS _).out HB2.out)) (first
    | (go_at_call 7; refine (put_no _ 128 p a _ hp4 HA.out).mono ?_; rintro e w2 ⟨rfl, hb2⟩; have HB2 := Lib.hid (HB1.out.trans (hb2.mono HB1.out.size)); clear hb2))
  clear hmk KS HB0 HB1 HZ
  go_wp2_with fail
  refine (awake_any _).mono ?_
  rintro e w3 ⟨rfl, hb3⟩
  have HB3 := Lib.hid (HB2.out.trans (hb3.mono HB2.out.size))
  clear hb3
  go_wp2_with fail
  refine (awake_any _).mono ?_
  rintro e w4 ⟨rfl, hb4⟩
  have HB4 := Lib.hid (HB3.out.trans (hb4.mono HB3.out.size))
  clear hb4
  go_wp2_with fail
  go_ret
  exact ⟨rfl, AB.out.trans (HB4.out.mono (by omega))⟩
set_option maxRecDepth 20000 in
set_option maxHeartbeats 2000000 in
theorem half (ya : Nn) (c : Nd) (i k : UInt8) (W : World) (ha : ya.up.ok = true) (hc : c.ok = false) : Calls Try.prog 5 #[.agg (nc ya.up).toArray, .agg (nc c).toArray, .int .u8 (i.toNat : Int), .int .u8 (k.toNat : Int)] W fun e w' => e = .returned (.bool true) ∧ Below W.heap.size W w' := by
  have HA := Lib.hid ha
  have HC := Lib.hid hc
  clear ha hc
  have hil := i.toNat_lt
  have hkl := k.toNat_lt
  have hp4 : i.toNat % 4 < 4 := by omega
  have hq4 : k.toNat % 4 < 4 := by omega
  go_enter Try.func5, Try.ntmps5
  go_upto_region 2 with fail
  have hp : ((i.toNat : Int) % 4) = ((i.toNat % 4 : Nat) : Int) := by omega
  have hq : ((k.toNat : Int) % 4) = ((k.toNat % 4 : Nat) : Int) := by omega
  rw [hp, hq]
  clear hp hq hil hkl
  generalize i.toNat % 4 = p at *
  generalize k.toNat % 4 = q at *
  obtain ⟨a0, a1, ab, az⟩ := box2 W (Obj.cells (nc ya.up).toArray 25) (Obj.cells (nc c).toArray 25)
  generalize (W.alloc (Obj.cells (nc ya.up).toArray 25)).alloc (Obj.cells (nc c).toArray 25) = W1 at *
  have A0 := Lib.hid a0
  have A1 := Lib.hid a1
  have AB := Lib.hid ab
  have hlt : W.heap.size + 1 < W1.heap.size := by omega
  have hmk := make_run
  clear a0 a1 ab az
  have KS : ∀ V, Hid (Below W1.heap.size W1 V → V.cell? ⟨W.heap.size, 0, none⟩ = some (.int .i64 ya.up.k) ∧ V.cell? ⟨W.heap.size, 1, none⟩ = some (.int .i64 ya.up.l) ∧ V.cell? ⟨W.heap.size, 2, none⟩ = some (.int .i64 ya.up.g) ∧ V.cell? ⟨W.heap.size, 3, none⟩ = some (.int .i64 ya.up.s) ∧ V.cell? ⟨W.heap.size, 4, none⟩ = some (.int .i64 ya.up.c) ∧ V.cell? ⟨W.heap.size, 5, none⟩ = some (.int .i64 ya.up.d0) ∧ V.cell? ⟨W.heap.size, 6, none⟩ = some (.int .i64 ya.up.d1) ∧ V.cell? ⟨W.heap.size, 7, none⟩ = some (.int .i64 ya.up.d2) ∧ V.cell? ⟨W.heap.size, 8, none⟩ = some (.int .i64 ya.up.d3) ∧ V.cell? ⟨W.heap.size, 9, none⟩ = some (.int .i64 ya.up.o) ∧ V.cell? ⟨W.heap.size, 10, none⟩ = some (.int .i64 ya.up.t)) := fun V hV => nd11 ((hV.block _ (by omega)).trans A0.out)
  have HB0 : Hid (Below W1.heap.size W1 W1.drew) := (Below.refl _ _).drew
  have HB1 : Hid (Below W1.heap.size W1 (W1.alloc (.cells zeros 5)).drew) := (box_below W1 _).drew
  have HZ : Hid (F.Bts (W1.alloc (.cells zeros 5)).drew (W1.heap.size + 1) (some ⟨W1.heap.size, 0, none⟩) 128 128 z128) := (zeros_bts W1).below (Below.refl _ _).drew
  go_region_held3 (fun V => V.cell? ⟨W.heap.size, 0, none⟩ = some (.int .i64 ya.up.k) ∧ V.cell? ⟨W.heap.size, 1, none⟩ = some (.int .i64 ya.up.l) ∧ V.cell? ⟨W.heap.size, 2, none⟩ = some (.int .i64 ya.up.g) ∧ V.cell? ⟨W.heap.size, 3, none⟩ = some (.int .i64 ya.up.s) ∧ V.cell? ⟨W.heap.size, 4, none⟩ = some (.int .i64 ya.up.c) ∧ V.cell? ⟨W.heap.size, 5, none⟩ = some (.int .i64 ya.up.d0) ∧ V.cell? ⟨W.heap.size, 6, none⟩ = some (.int .i64 ya.up.d1) ∧ V.cell? ⟨W.heap.size, 7, none⟩ = some (.int .i64 ya.up.d2) ∧ V.cell? ⟨W.heap.size, 8, none⟩ = some (.int .i64 ya.up.d3) ∧ V.cell? ⟨W.heap.size, 9, none⟩ = some (.int .i64 ya.up.o) ∧ V.cell? ⟨W.heap.size, 10, none⟩ = some (.int .i64 ya.up.t)) (first | (with_reducible exact (KS _).out HB0.out) | (with_reducible exact (KS _).out HB1.out) | (with_reducible exact (KS _).out HB2.out)) (first
    | (go_at_call 7; refine (put_yes (i := p) ya HZ.out (by simp) hp4 HA.out).mono ?_; rintro e w2 ⟨v, rfl, hm⟩; have HB2 := Lib.hid (HB1.out.trans (hm.bel.mono HB1.out.size)); have HM := Lib.hid hm; clear hm))
  clear hmk KS HB0 HB1 HZ
  obtain ⟨A, n, cap, rfl, hB⟩ := HM.out.holds
  obtain rfl : n = 128 := by rw [← hB.len, put_len z128_len hp4 ya.img_len]
  have HBT := Lib.hid hB
  clear hB HM
  go_wp2_with fail
  refine (awake_any _).mono ?_
  rintro e w3 ⟨rfl, hb3⟩
  have HB3 := Lib.hid (HB2.out.trans (hb3.mono HB2.out.size))
  have HBT3 := Lib.hid ((HBT.out.below hb3).more hb3.size)
  have C1 : Hid (w3.heap[W.heap.size + 1]? = some (.cells (nc c).toArray 25 (0, 0))) := (HB3.out.block _ hlt).trans A1.out
  have hz3 := HB3.out.size
  clear hb3 HBT HB2
  go_wp2_with (first | (refine wpList_load_row rfl 25 _ rfl (W.heap.size + 1) rfl _ _ _ C1.out _ Try.underlying25 rfl s25 ?_) | fail)
  refine (put_no A cap q c _ hq4 HC.out).mono ?_
  rintro e w4 ⟨rfl, hb4⟩
  have HB4 := Lib.hid (HB3.out.trans (hb4.mono HB3.out.size))
  have D1 : Hid (w4.heap[W.heap.size + 1]? = some (.cells (nc c).toArray 25 (0, 0))) := (hb4.block _ (by omega)).trans C1.out
  clear hb4 C1 HB3
  go_wp2_with (first | (refine wpList_load_row rfl 25 _ rfl (W.heap.size + 1) rfl _ _ _ D1.out _ Try.underlying25 rfl s25 ?_) | fail)
  refine (sound_any c _).mono ?_
  rintro e w5 ⟨rfl, hb5⟩
  rw [HC.out]
  have HB5 := Lib.hid (HB4.out.trans (hb5.mono HB4.out.size))
  clear hb5
  go_wp2_with fail
  go_ret
  exact ⟨rfl, AB.out.trans (HB5.out.mono (by omega))⟩
/-- What Get tells of the first place. -/
theorem first_ {b : List UInt8} {p q : Nat} {ya yc : Nn} (hb : b.length = 128) (hp : p < 4) (hq : q < 4) (ha : ya.up.ok = true) (hc : yc.up.ok = true) :
    rd (piece (put (put b p ya.img) q yc.img) p) = (if p = q then yc else ya) ∧ good (piece (put (put b p ya.img) q yc.img) p) = true := by
  have hl := put_len hb hp ya.img_len
  by_cases e : p = q
  · subst e
    rw [if_pos rfl]
    exact get_put hl hp hc
  · rw [if_neg e, piece_put_ne hl hq hp yc.img_len (fun h => e h.symm)]
    exact get_put hb hp ha
set_option maxRecDepth 20000 in
set_option maxHeartbeats 2000000 in
theorem both (ya yc : Nn) (i k : UInt8) (W : World) (ha : ya.up.ok = true) (hc : yc.up.ok = true) : Calls Try.prog 5 #[.agg (nc ya.up).toArray, .agg (nc yc.up).toArray, .int .u8 (i.toNat : Int), .int .u8 (k.toNat : Int)] W fun e w' => e = .returned (.bool true) ∧ Below W.heap.size W w' := by
  have HA := Lib.hid ha
  have HC := Lib.hid hc
  clear ha hc
  have hil := i.toNat_lt
  have hkl := k.toNat_lt
  have hp4 : i.toNat % 4 < 4 := by omega
  have hq4 : k.toNat % 4 < 4 := by omega
  go_enter Try.func5, Try.ntmps5
  go_upto_region 2 with fail
  have hp : ((i.toNat : Int) % 4) = ((i.toNat % 4 : Nat) : Int) := by omega
  have hq : ((k.toNat : Int) % 4) = ((k.toNat % 4 : Nat) : Int) := by omega
  rw [hp, hq]
  clear hp hq hil hkl
  generalize i.toNat % 4 = p at *
  generalize k.toNat % 4 = q at *
  obtain ⟨a0, a1, ab, az⟩ := box2 W (Obj.cells (nc ya.up).toArray 25) (Obj.cells (nc yc.up).toArray 25)
  generalize (W.alloc (Obj.cells (nc ya.up).toArray 25)).alloc (Obj.cells (nc yc.up).toArray 25) = W1 at *
  have A0 := Lib.hid a0
  have A1 := Lib.hid a1
  have AB := Lib.hid ab
  have hlt : W.heap.size + 1 < W1.heap.size := by omega
  have hmk := make_run
  clear a0 a1 ab az
  have KS : ∀ V, Hid (Below W1.heap.size W1 V → V.cell? ⟨W.heap.size, 0, none⟩ = some (.int .i64 ya.up.k) ∧ V.cell? ⟨W.heap.size, 1, none⟩ = some (.int .i64 ya.up.l) ∧ V.cell? ⟨W.heap.size, 2, none⟩ = some (.int .i64 ya.up.g) ∧ V.cell? ⟨W.heap.size, 3, none⟩ = some (.int .i64 ya.up.s) ∧ V.cell? ⟨W.heap.size, 4, none⟩ = some (.int .i64 ya.up.c) ∧ V.cell? ⟨W.heap.size, 5, none⟩ = some (.int .i64 ya.up.d0) ∧ V.cell? ⟨W.heap.size, 6, none⟩ = some (.int .i64 ya.up.d1) ∧ V.cell? ⟨W.heap.size, 7, none⟩ = some (.int .i64 ya.up.d2) ∧ V.cell? ⟨W.heap.size, 8, none⟩ = some (.int .i64 ya.up.d3) ∧ V.cell? ⟨W.heap.size, 9, none⟩ = some (.int .i64 ya.up.o) ∧ V.cell? ⟨W.heap.size, 10, none⟩ = some (.int .i64 ya.up.t)) := fun V hV => nd11 ((hV.block _ (by omega)).trans A0.out)
  have HB0 : Hid (Below W1.heap.size W1 W1.drew) := (Below.refl _ _).drew
  have HB1 : Hid (Below W1.heap.size W1 (W1.alloc (.cells zeros 5)).drew) := (box_below W1 _).drew
  have HZ : Hid (F.Bts (W1.alloc (.cells zeros 5)).drew (W1.heap.size + 1) (some ⟨W1.heap.size, 0, none⟩) 128 128 z128) := (zeros_bts W1).below (Below.refl _ _).drew
  go_region_held3 (fun V => V.cell? ⟨W.heap.size, 0, none⟩ = some (.int .i64 ya.up.k) ∧ V.cell? ⟨W.heap.size, 1, none⟩ = some (.int .i64 ya.up.l) ∧ V.cell? ⟨W.heap.size, 2, none⟩ = some (.int .i64 ya.up.g) ∧ V.cell? ⟨W.heap.size, 3, none⟩ = some (.int .i64 ya.up.s) ∧ V.cell? ⟨W.heap.size, 4, none⟩ = some (.int .i64 ya.up.c) ∧ V.cell? ⟨W.heap.size, 5, none⟩ = some (.int .i64 ya.up.d0) ∧ V.cell? ⟨W.heap.size, 6, none⟩ = some (.int .i64 ya.up.d1) ∧ V.cell? ⟨W.heap.size, 7, none⟩ = some (.int .i64 ya.up.d2) ∧ V.cell? ⟨W.heap.size, 8, none⟩ = some (.int .i64 ya.up.d3) ∧ V.cell? ⟨W.heap.size, 9, none⟩ = some (.int .i64 ya.up.o) ∧ V.cell? ⟨W.heap.size, 10, none⟩ = some (.int .i64 ya.up.t)) (first | (with_reducible exact (KS _).out HB0.out) | (with_reducible exact (KS _).out HB1.out) | (with_reducible exact (KS _).out HB2.out)) (first
    | (go_at_call 7; refine (put_yes (i := p) ya HZ.out (by simp) hp4 HA.out).mono ?_; rintro e w2 ⟨v, rfl, hm⟩; have HB2 := Lib.hid (HB1.out.trans (hm.bel.mono HB1.out.size)); have HM := Lib.hid hm; clear hm))
  clear hmk KS HB0 HB1 HZ
  obtain ⟨A, n, cap, rfl, hB⟩ := HM.out.holds
  obtain rfl : n = 128 := by rw [← hB.len, put_len z128_len hp4 ya.img_len]
  have HBT := Lib.hid hB
  clear hB HM
  go_wp2_with fail
  refine (awake_any _).mono ?_
  rintro e w3 ⟨rfl, hb3⟩
  have HB3 := Lib.hid (HB2.out.trans (hb3.mono HB2.out.size))
  have HBT3 := Lib.hid ((HBT.out.below hb3).more hb3.size)
  have C1 : Hid (w3.heap[W.heap.size + 1]? = some (.cells (nc yc.up).toArray 25 (0, 0))) := (HB3.out.block _ hlt).trans A1.out
  have hz3 := HB3.out.size
  clear hb3 HBT HB2
  go_wp2_with (first | (refine wpList_load_row rfl 25 _ rfl (W.heap.size + 1) rfl _ _ _ C1.out _ Try.underlying25 rfl s25 ?_) | fail)
  refine (put_yes (i := q) yc HBT3.out (Nat.le_refl _) hq4 HC.out).mono ?_
  rintro e w4 ⟨v, rfl, hm⟩
  have HB4 := Lib.hid (HB3.out.trans (hm.bel.mono HB3.out.size))
  obtain ⟨A4, n4, cap4, rfl, hB4⟩ := hm.holds
  obtain rfl : n4 = 128 := by rw [← hB4.len, put_len (put_len z128_len hp4 ya.img_len) hq4 yc.img_len]
  have HBT4 := Lib.hid hB4
  obtain ⟨hr1, hg1⟩ := first_ z128_len hp4 hq4 HA.out HC.out
  obtain ⟨hr2, hg2⟩ := get_put (y := yc) (put_len z128_len hp4 ya.img_len) hq4 HC.out
  have HR1 := Lib.hid hr1
  have HG1 := Lib.hid hg1
  have HR2 := Lib.hid hr2
  have HG2 := Lib.hid hg2
  have hz4 := HB4.out.size
  clear hm hB4 hr1 hr2 hg1 hg2 C1 HB3 HBT3
  go_wp2_with fail
  refine (get_any HBT4.out (Nat.le_refl _) hp4).mono ?_
  rintro e w5 ⟨rfl, hb5⟩
  rw [HR1.out, HG1.out]
  simp only [if_true]
  obtain ⟨yx, hyx⟩ : ∃ yx, (if p = q then yc else ya) = yx := ⟨_, rfl⟩
  rw [hyx]
  have HYX := Lib.hid hyx
  have E0 : Hid ((w5.alloc (Obj.cells (nc yx.up).toArray 25)).heap[w5.heap.size]? = some (.cells (nc yx.up).toArray 25 (0, 0))) := heap_alloc_new w5 _
  have EB : Hid (Below W1.heap.size W1 (w5.alloc (Obj.cells (nc yx.up).toArray 25))) := (HB4.out.trans (hb5.mono HB4.out.size)).trans ((box_below w5 _).mono (by have := hb5.size; omega))
  have EZ : Hid ((w5.alloc (Obj.cells (nc yx.up).toArray 25)).heap.size = w5.heap.size + 1) := by show _ = _; simp
  have EBT : Hid (F.Bts (w5.alloc (Obj.cells (nc yx.up).toArray 25)) w4.heap.size A4 128 cap4 (put (put z128 p ya.img) q yc.img)) := (HBT4.out.below hb5).below ((box_below w5 _).mono hb5.size)
  have hz5 := hb5.size
  clear hb5 hyx HR1 HG1 HBT4 HB4
  go_upto_region 9 with (first | (refine wpList_store_new rfl 25 _ _ rfl w5 z11 (nc yx.up).toArray rfl rfl s25 rfl (all_oneCell_toArray (nc_one _)) ?_) | fail)
  generalize w5.alloc (Obj.cells (nc yx.up).toArray 25) = W5 at *
  go_wp2_with fail
  refine (get_any EBT.out (by rw [EZ.out]; omega) hq4).mono ?_
  rintro e w6 ⟨rfl, hb6⟩
  rw [HR2.out, HG2.out]
  simp only [if_true]
  have hz6 := hb6.size
  rw [EZ.out] at hz6
  have G0 : Hid ((w6.alloc (Obj.cells (nc yc.up).toArray 25)).heap[w5.heap.size]? = some (.cells (nc yx.up).toArray 25 (0, 0))) := ((box_below w6 _).block _ (by omega)).trans ((hb6.block _ (by rw [EZ.out]; omega)).trans E0.out)
  have G1 : Hid ((w6.alloc (Obj.cells (nc yc.up).toArray 25)).heap[w6.heap.size]? = some (.cells (nc yc.up).toArray 25 (0, 0))) := heap_alloc_new w6 _
  have GB : Hid (Below W1.heap.size W1 (w6.alloc (Obj.cells (nc yc.up).toArray 25))) := (EB.out.trans (hb6.mono EB.out.size)).trans ((box_below w6 _).mono (by omega))
  have G2 : Hid ((w6.alloc (Obj.cells (nc yc.up).toArray 25)).heap[W.heap.size + 1]? = some (.cells (nc yc.up).toArray 25 (0, 0))) := (GB.out.block _ hlt).trans A1.out
  have G3 : Hid ((w6.alloc (Obj.cells (nc yc.up).toArray 25)).heap[W.heap.size]? = some (.cells (nc ya.up).toArray 25 (0, 0))) := (GB.out.block _ (by omega)).trans A0.out
  clear hb6 HR2 HG2 EBT EB EZ E0
  go_upto_region 10 with (first | (refine wpList_store_new rfl 25 _ _ rfl w6 z11 (nc yc.up).toArray rfl rfl s25 rfl (all_oneCell_toArray (nc_one _)) ?_) | fail)
  generalize w6.alloc (Obj.cells (nc yc.up).toArray 25) = W6 at *
  have hq1 := eq25 yc.up yc.up
  rw [decide_eq_true rfl] at hq1
  by_cases e : p = q
  · subst e
    go_wp2_with (first | (refine wpList_load_row rfl 25 _ rfl w6.heap.size rfl _ _ _ G1.out _ Try.underlying25 rfl s25 ?_) | (refine wpList_load_row rfl 25 _ rfl (W.heap.size + 1) rfl _ _ _ G2.out _ Try.underlying25 rfl s25 ?_) | fail)
    go_ret
    exact ⟨rfl, AB.out.trans (GB.out.mono (by omega))⟩
  · have HE : Hid (ya = yx) := by rw [← HYX.out, if_neg e]; rfl
    obtain rfl := HE.out
    have hq2 := eq25 ya.up ya.up
    rw [decide_eq_true rfl] at hq2
    have e' : ((p : Int) == (q : Int)) = false := by rw [beq_eq_false_iff_ne]; omega
    clear e
    go_wp2_with (first | (refine wpList_load_row rfl 25 _ rfl w6.heap.size rfl _ _ _ G1.out _ Try.underlying25 rfl s25 ?_) | (refine wpList_load_row rfl 25 _ rfl (W.heap.size + 1) rfl _ _ _ G2.out _ Try.underlying25 rfl s25 ?_) | (refine wpList_load_row rfl 25 _ rfl w5.heap.size rfl _ _ _ G0.out _ Try.underlying25 rfl s25 ?_) | (refine wpList_load_row rfl 25 _ rfl W.heap.size rfl _ _ _ G3.out _ Try.underlying25 rfl s25 ?_) | fail)
    go_ret
    exact ⟨rfl, AB.out.trans (GB.out.mono (by omega))⟩
theorem walk (W : World) (a c : Nd) (i k : UInt8) : Calls Try.prog 5 #[.agg (nc a).toArray, .agg (nc c).toArray, .int .u8 (i.toNat : Int), .int .u8 (k.toNat : Int)] W fun e w' => e = .returned (.bool true) ∧ Below W.heap.size W w' := by
  cases ha : a.ok with
  | false => exact bad a c i k W ha
  | true =>
    obtain ⟨ya, rfl, _⟩ := Nd.ok_nat ha
    cases hc : c.ok with
    | false => exact half ya c i k W ha hc
    | true =>
      obtain ⟨yc, rfl, _⟩ := Nd.ok_nat hc
      exact both ya yc i k W ha hc
end Go.Proofs.Ytijphembfohfnaa.nodeFour
