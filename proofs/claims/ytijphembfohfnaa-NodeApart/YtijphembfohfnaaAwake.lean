/- make([]byte, 128); copyholdlaw10.awake, walked. -/
import Derived.Test.YtijphembfohfnaaRefE
namespace Go.Proofs.Ytijphembfohfnaa
open Go.RowKit
set_option linter.unusedVariables false
def z128 : List UInt8 := List.replicate 128 0
theorem z128_len : z128.length = 128 := by simp [z128]
def zeros : Array Value := (z128.map F.bv).toArray
theorem make_run (w : World) : (Instr.makeSlice 22 (.int .i64 128) (.int .i64 128)).run Try.prog w = .ok (.slice (some ⟨w.heap.size, 0, none⟩) 128 128) (w.alloc (.cells zeros 5)) := by
  obtain ⟨i0, hi, hz0, hz1, hz2⟩ := info_parts F.Try.info5
  have hr := run_make (P := Try.prog) w 22 5 i0 _ Try.underlying22 hi hz0 .i64 .i64 128 128 (by omega) (by omega) (by rw [hz2]; omega) (by omega)
  have e : madeCells (Value.int .u8 0).cells ((128 : Int).toNat * 1) = zeros := by
    apply Array.ext'
    have h1 : (Value.int .u8 0).cells = #[Value.int .u8 0] := rfl
    rw [h1, toList_madeCells_one]
    simp [zeros, z128, F.bv]
  rw [hz1, e] at hr
  exact hr
theorem zeros_bts (w : World) : F.Bts (w.alloc (.cells zeros 5)) (w.heap.size + 1) (some ⟨w.heap.size, 0, none⟩) 128 128 z128 := by
  have h := bts_new w z128 (by rw [z128_len]; omega)
  rw [z128_len] at h
  exact h
/-- All cells of a node that lies in a block. -/
theorem nd11 {W : World} {g : Nat} {x : Nd} {t : TypeId} {fr : Nat × Nat} (h : W.heap[g]? = some (.cells (nc x).toArray t fr)) : W.cell? ⟨g, 0, none⟩ = some (.int .i64 x.k) ∧ W.cell? ⟨g, 1, none⟩ = some (.int .i64 x.l) ∧ W.cell? ⟨g, 2, none⟩ = some (.int .i64 x.g) ∧ W.cell? ⟨g, 3, none⟩ = some (.int .i64 x.s) ∧ W.cell? ⟨g, 4, none⟩ = some (.int .i64 x.c) ∧
    W.cell? ⟨g, 5, none⟩ = some (.int .i64 x.d0) ∧ W.cell? ⟨g, 6, none⟩ = some (.int .i64 x.d1) ∧ W.cell? ⟨g, 7, none⟩ = some (.int .i64 x.d2) ∧ W.cell? ⟨g, 8, none⟩ = some (.int .i64 x.d3) ∧ W.cell? ⟨g, 9, none⟩ = some (.int .i64 x.o) ∧ W.cell? ⟨g, 10, none⟩ = some (.int .i64 x.t) :=
  ⟨cell_of_row _ _ 0 _ _ _ h, cell_of_row _ _ 1 _ _ _ h, cell_of_row _ _ 2 _ _ _ h, cell_of_row _ _ 3 _ _ _ h, cell_of_row _ _ 4 _ _ _ h, cell_of_row _ _ 5 _ _ _ h, cell_of_row _ _ 6 _ _ _ h, cell_of_row _ _ 7 _ _ _ h, cell_of_row _ _ 8 _ _ _ h, cell_of_row _ _ 9 _ _ _ h, cell_of_row _ _ 10 _ _ _ h⟩
/-- The node of awake. -/
def yA : Nn := ⟨1, 1, 7, 5, 0, 43, 0, 0, 0, 0, 0⟩
abbrev xA : Array Value := #[.int .i64 1, .int .i64 1, .int .i64 7, .int .i64 5, .int .i64 0, .int .i64 43, .int .i64 0, .int .i64 0, .int .i64 0, .int .i64 0, .int .i64 0]
theorem get_two {w : World} {B c : Nat} {A : Option Addr} {b : List UInt8} (h : F.Bts w B A 128 c b) (hB : B ≤ w.heap.size) : Calls Try.prog 12 #[.slice A 128 c, .int .i64 2] w (GetP w (rd (piece b 2)) (good (piece b 2))) := get_any (i := 2) h hB (by omega)
theorem put_two {w : World} {B c : Nat} {A : Option Addr} {b : List UInt8} (y : Nn) (h : F.Bts w B A 128 c b) (hB : B ≤ w.heap.size) (hok : y.up.ok = true) : Calls Try.prog 7 #[.slice A 128 c, .int .i64 2, .agg (nc y.up).toArray] w (F.Gives2 w (put b 2 y.img)) := put_yes (i := 2) y h hB (by omega) hok
/-- What was put is there. -/
theorem get_put {b : List UInt8} {i : Nat} {y : Nn} (hb : b.length = 128) (hi : i < 4) (hok : y.up.ok = true) : rd (piece (put b i y.img) i) = y ∧ good (piece (put b i y.img) i) = true := by
  rw [piece_put hb hi y.img_len]
  exact ⟨(good_img hok).2, (good_img hok).1⟩
theorem field32 (n g k l s c : Int) (w : World) : (Instr.field 32 (.agg (sc n g k l s c).toArray) 0).run Try.prog w = .ok (.agg #[.int .i64 n, .int .i64 g]) w := by kernel_rfl
set_option maxRecDepth 20000 in
set_option maxHeartbeats 2000000 in
theorem awake_any (w : World) : Calls Try.prog 11 #[] w fun e w' => e = .returned (.bool true) ∧ Below w.heap.size w w' := by
  go_enter Try.func11, Try.ntmps11
  go_upto_region 3 with fail
  obtain ⟨a0, ab, az⟩ := box1 w (Obj.cells xA 25)
  generalize w.alloc (Obj.cells xA 25) = W at *
  have A0 : Hid (W.heap[w.heap.size]? = some (.cells (nc yA.up).toArray 25 (0, 0))) := a0
  have hok : yA.up.ok = true := by decide
  have h64 : (put z128 2 yA.img)[64]? = some 1 := by decide +kernel
  have h66 : (put z128 2 yA.img)[66]? = some 7 := by decide +kernel
  have hg7 : (yA.g : Int) = 7 := rfl
  clear a0
  generalize yA = y at *
  have HOK := Lib.hid hok
  have H64 := Lib.hid h64
  have H66 := Lib.hid h66
  have HG7 := Lib.hid hg7
  have AB := Lib.hid ab
  have hlt : w.heap.size < W.heap.size := by omega
  have hmk := make_run
  clear ab az hok h64 h66 hg7
  have KS : ∀ V, Hid (Below W.heap.size W V → V.cell? ⟨w.heap.size, 0, none⟩ = some (.int .i64 y.up.k) ∧ V.cell? ⟨w.heap.size, 1, none⟩ = some (.int .i64 y.up.l) ∧ V.cell? ⟨w.heap.size, 2, none⟩ = some (.int .i64 y.up.g) ∧ V.cell? ⟨w.heap.size, 3, none⟩ = some (.int .i64 y.up.s) ∧ V.cell? ⟨w.heap.size, 4, none⟩ = some (.int .i64 y.up.c) ∧ V.cell? ⟨w.heap.size, 5, none⟩ = some (.int .i64 y.up.d0) ∧ V.cell? ⟨w.heap.size, 6, none⟩ = some (.int .i64 y.up.d1) ∧ V.cell? ⟨w.heap.size, 7, none⟩ = some (.int .i64 y.up.d2) ∧ V.cell? ⟨w.heap.size, 8, none⟩ = some (.int .i64 y.up.d3) ∧ V.cell? ⟨w.heap.size, 9, none⟩ = some (.int .i64 y.up.o) ∧ V.cell? ⟨w.heap.size, 10, none⟩ = some (.int .i64 y.up.t)) := fun V hV => nd11 ((hV.block _ hlt).trans A0.out)
  have HB0 : Hid (Below W.heap.size W W.drew) := (Below.refl _ _).drew
  have HB1 : Hid (Below W.heap.size W (W.alloc (.cells zeros 5)).drew) := (box_below W _).drew
  have HZ : Hid (F.Bts (W.alloc (.cells zeros 5)).drew (W.heap.size + 1) (some ⟨W.heap.size, 0, none⟩) 128 128 z128) := (zeros_bts W).below (Below.refl _ _).drew
  go_region_held3 (fun V => V.cell? ⟨w.heap.size, 0, none⟩ = some (.int .i64 y.up.k) ∧ V.cell? ⟨w.heap.size, 1, none⟩ = some (.int .i64 y.up.l) ∧ V.cell? ⟨w.heap.size, 2, none⟩ = some (.int .i64 y.up.g) ∧ V.cell? ⟨w.heap.size, 3, none⟩ = some (.int .i64 y.up.s) ∧ V.cell? ⟨w.heap.size, 4, none⟩ = some (.int .i64 y.up.c) ∧ V.cell? ⟨w.heap.size, 5, none⟩ = some (.int .i64 y.up.d0) ∧ V.cell? ⟨w.heap.size, 6, none⟩ = some (.int .i64 y.up.d1) ∧ V.cell? ⟨w.heap.size, 7, none⟩ = some (.int .i64 y.up.d2) ∧ V.cell? ⟨w.heap.size, 8, none⟩ = some (.int .i64 y.up.d3) ∧ V.cell? ⟨w.heap.size, 9, none⟩ = some (.int .i64 y.up.o) ∧ V.cell? ⟨w.heap.size, 10, none⟩ = some (.int .i64 y.up.t)) (first | (with_reducible exact (KS _).out HB0.out) | (with_reducible exact (KS _).out HB1.out) | (with_reducible exact (KS _).out HB2.out)) (first
    | (go_at_call 7; refine (put_two y HZ.out (by simp) HOK.out).mono ?_; rintro e w2 ⟨v, rfl, hm⟩; have HB2 := Lib.hid (HB1.out.trans (hm.bel.mono HB1.out.size)); have HM := Lib.hid hm; clear hm))
  clear hmk KS HB0 HB1 HZ
  obtain ⟨A, n, c, rfl, hB⟩ := HM.out.holds
  obtain rfl : n = 128 := by rw [← hB.len, put_len z128_len (by omega) y.img_len]
  obtain ⟨gb, go, rfl, hgb, hcell⟩ := hB.at_ (by omega)
  have HBT := Lib.hid hB
  have k64 : w2.cell? ⟨gb, go + 64, none⟩ = some (.int .u8 1) := by rw [hcell 64 (by omega), H64.out]; rfl
  have k66 : w2.cell? ⟨gb, go + 66, none⟩ = some (.int .u8 7) := by rw [hcell 66 (by omega), H66.out]; rfl
  have hcap := hB.cap
  have A2 : Hid (w2.heap[w.heap.size]? = some (.cells (nc y.up).toArray 25 (0, 0))) := (HB2.out.block _ hlt).trans A0.out
  have hz2 := HB2.out.size
  obtain ⟨hrd, hgd⟩ := get_put (i := 2) z128_len (by omega) HOK.out
  have HRD := Lib.hid hrd
  have HGD := Lib.hid hgd
  have K64 := Lib.hid k64
  have K66 := Lib.hid k66
  clear hcell hB HM H64 H66 hrd hgd k64 k66
  go_wp2_with fail
  refine (get_two HBT.out (Nat.le_refl _)).mono ?_
  rintro e w3 ⟨rfl, hb3⟩
  rw [HRD.out, HGD.out]
  have hz3 := hb3.size
  have C0 : Hid ((w3.alloc (Obj.cells (nc y.up).toArray 25)).heap[w.heap.size]? = some (.cells (nc y.up).toArray 25 (0, 0))) := ((box_below w3 _).block _ (by omega)).trans ((hb3.block _ (by omega)).trans A2.out)
  have C1 : Hid ((w3.alloc (Obj.cells (nc y.up).toArray 25)).heap[w3.heap.size]? = some (.cells (nc y.up).toArray 25 (0, 0))) := heap_alloc_new w3 _
  have CB : Hid (Below w.heap.size w (w3.alloc (Obj.cells (nc y.up).toArray 25))) := ((AB.out.trans (HB2.out.mono (by omega))).trans (hb3.mono (by omega))).trans ((box_below w3 _).mono (by omega))
  have CZ : Hid ((w3.alloc (Obj.cells (nc y.up).toArray 25)).heap.size = w3.heap.size + 1) := by show _ = _; simp
  have L64 : (w3.alloc (Obj.cells (nc y.up).toArray 25)).cell? ⟨gb, go + 64, none⟩ = some (.int .u8 1) := ((box_below w3 _).cell (by show gb < _; omega)).trans ((hb3.cell hgb).trans K64.out)
  have L66 : (w3.alloc (Obj.cells (nc y.up).toArray 25)).cell? ⟨gb, go + 66, none⟩ = some (.int .u8 7) := ((box_below w3 _).cell (by show gb < _; omega)).trans ((hb3.cell hgb).trans K66.out)
  clear hb3 A0 A2 K64 K66 HB2 AB HBT
  go_upto_region 5 with (first | (refine wpList_store_new rfl 25 _ _ rfl w3 z11 (nc y.up).toArray rfl rfl s25 rfl (all_oneCell_toArray (nc_one _)) ?_) | fail)
  generalize w3.alloc (Obj.cells (nc y.up).toArray 25) = W3 at *
  have hq := eq25 y.up y.up
  rw [decide_eq_true rfl] at hq
  have q64 : (64 : Int) < 128 := by omega
  go_wp2_with (first | (refine wpList_load_row rfl 25 _ rfl w.heap.size rfl _ _ _ C0.out _ Try.underlying25 rfl s25 ?_) | (refine wpList_load_row rfl 25 _ rfl w3.heap.size rfl _ _ _ C1.out _ Try.underlying25 rfl s25 ?_) | fail)
  refine (sound_any y.up _).mono ?_
  rintro e w4 ⟨rfl, hb4⟩
  rw [HOK.out]
  have hz4 := hb4.size
  rw [CZ.out] at hz4
  have D0 : Hid (w4.heap[w.heap.size]? = some (.cells (nc y.up).toArray 25 (0, 0))) := (hb4.block _ (by rw [CZ.out]; omega)).trans C0.out
  have DB : Hid (Below w.heap.size w w4) := CB.out.trans (hb4.mono (by rw [CZ.out]; omega))
  have hq30 : ∀ w, (Op.equalIn 10000 30 (.agg #[.int .i64 4, .int .i64 y.up.g]) (.agg #[.int .i64 4, .int .i64 7])).run Try.prog w = .ok true w := fun w => by
    have h := eq30 9998 4 y.up.g 4 7 w
    rw [decide_eq_true ⟨rfl, HG7.out⟩] at h
    exact h
  have hfd := field32 4 y.up.g y.up.k y.up.l y.up.s y.up.c
  clear hb4 L64 L66 C0 C1 CB CZ hq
  go_wp2_with (first | (refine wpList_load_row rfl 25 _ rfl w.heap.size rfl _ _ _ D0.out _ Try.underlying25 rfl s25 ?_) | fail)
  refine (stat_any 4 y.up _).mono ?_
  rintro e w5 ⟨rfl, hb5⟩
  have EB : Hid (Below w.heap.size w w5) := DB.out.trans (hb5.mono (by omega))
  clear hb5
  go_wp2_with fail
  go_ret
  exact ⟨rfl, EB.out⟩
end Go.Proofs.Ytijphembfohfnaa
