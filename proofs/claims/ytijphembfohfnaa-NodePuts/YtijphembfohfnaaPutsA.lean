/- copyholdlaw10.NodePuts, walked. -/
import Derived.Test.YtijphembfohfnaaNodeGetsWalk
namespace Go.Proofs.Ytijphembfohfnaa.nodePuts
open Go.RowKit
set_option linter.unusedVariables false
theorem sc6 {V : World} {g : Nat} {t : TypeId} {fr : Nat × Nat} {i : Int} {x : Nd} (h : V.heap[g]? = some (.cells (sc i x.g x.k x.l x.s x.c).toArray t fr)) : V.cell? ⟨g, 0, none⟩ = some (.int .i64 i) ∧ V.cell? ⟨g, 1, none⟩ = some (.int .i64 x.g) ∧ V.cell? ⟨g, 2, none⟩ = some (.int .i64 x.k) ∧ V.cell? ⟨g, 3, none⟩ = some (.int .i64 x.l) ∧ V.cell? ⟨g, 4, none⟩ = some (.int .i64 x.s) ∧ V.cell? ⟨g, 5, none⟩ = some (.int .i64 x.c) :=
  ⟨cell_of_row _ _ 0 _ _ _ h, cell_of_row _ _ 1 _ _ _ h, cell_of_row _ _ 2 _ _ _ h, cell_of_row _ _ 3 _ _ _ h, cell_of_row _ _ 4 _ _ _ h, cell_of_row _ _ 5 _ _ _ h⟩
set_option maxRecDepth 20000 in
set_option maxHeartbeats 4000000 in
theorem arg1 (A : Option Addr) (n c : Nat) (i : Int) (x : Nd) (W : World) (hn : n ≠ 128) : Calls Try.prog 3 #[.slice A n c, .int .i64 i, .agg (nc x).toArray] W fun e w' => e = .returned (.bool true) ∧ Below W.heap.size W w' := by
  have hn' : ((n : Int) != 128) = true := by rw [bne_iff_ne]; omega
  obtain ⟨o, ho⟩ : ∃ o, x.ok = o := ⟨_, rfl⟩
  have HOK := Lib.hid ho
  clear ho
  go_enter Try.func3, Try.ntmps3
  go_upto_region 1 with fail
  obtain ⟨a0, ab, az⟩ := box1 W (Obj.cells (nc x).toArray 25)
  generalize W.alloc (Obj.cells (nc x).toArray 25) = W1 at *
  have A0 := Lib.hid a0
  have AB := Lib.hid ab
  have AZ := Lib.hid az
  clear a0 ab az
  go_wp2_with (first | (refine wpList_load_row rfl 25 _ rfl W.heap.size rfl _ _ _ A0.out _ Try.underlying25 rfl s25 ?_) | fail)
  refine (put_arg A n c i x _ (by omega)).mono ?_
  rintro e w2 ⟨rfl, hb2⟩
  have HB2 := Lib.hid hb2
  clear hb2
  have hz2 := HB2.out.size
  rw [AZ.out] at hz2
  have A2 : Hid (w2.heap[W.heap.size]? = some (.cells (nc x).toArray 25 (0, 0))) := (HB2.out.block _ (by rw [AZ.out]; omega)).trans A0.out
  have AB2 : Hid (Below W.heap.size W w2) := AB.out.trans (HB2.out.mono (by rw [AZ.out]; omega))
  clear A0 AB AZ HB2 W1
  go_wp2_with (first | (refine wpList_load_row rfl 25 _ rfl W.heap.size rfl _ _ _ A2.out _ Try.underlying25 rfl s25 ?_) | fail)
  refine (stat_any i x _).mono ?_
  rintro e w3 ⟨rfl, hb3⟩
  have hz3 := hb3.size
  have A3 : Hid ((w3.alloc (Obj.cells (sc i x.g x.k x.l x.s x.c).toArray 32)).heap[W.heap.size]? = some (.cells (nc x).toArray 25 (0, 0))) := ((box_below w3 _).block _ (by omega)).trans ((hb3.block _ (by omega)).trans A2.out)
  have B3 : Hid ((w3.alloc (Obj.cells (sc i x.g x.k x.l x.s x.c).toArray 32)).heap[w3.heap.size]? = some (.cells (sc i x.g x.k x.l x.s x.c).toArray 32 (0, 0))) := heap_alloc_new w3 _
  have BL3 : Hid (Below w2.heap.size w2 (w3.alloc (Obj.cells (sc i x.g x.k x.l x.s x.c).toArray 32))) := hb3.trans ((box_below w3 _).mono hb3.size)
  have ZZ3 : Hid ((w3.alloc (Obj.cells (sc i x.g x.k x.l x.s x.c).toArray 32)).heap.size = w3.heap.size + 1) := by show _ = _; simp
  clear hb3 A2
  go_upto_region 3 with (first | (refine wpList_store_new rfl 32 _ _ rfl w3 z6 (sc i x.g x.k x.l x.s x.c).toArray rfl rfl s32 rfl (all_oneCell_toArray (sc_one _ _ _ _ _ _)) ?_) | fail)
  generalize w3.alloc (Obj.cells (sc i x.g x.k x.l x.s x.c).toArray 32) = W3 at *
  obtain ⟨c0, c1, c2, c3, c4⟩ := nd_cells A3.out
  have A4 : Hid ((W3.alloc (Obj.cells (sc i x.g x.k x.l x.s x.c).toArray 32)).heap[W.heap.size]? = some (.cells (nc x).toArray 25 (0, 0))) := ((box_below W3 _).block _ (by rw [ZZ3.out]; omega)).trans A3.out
  have B4 : Hid ((W3.alloc (Obj.cells (sc i x.g x.k x.l x.s x.c).toArray 32)).heap[w3.heap.size]? = some (.cells (sc i x.g x.k x.l x.s x.c).toArray 32 (0, 0))) := ((box_below W3 _).block _ (by rw [ZZ3.out]; omega)).trans B3.out
  have C4 : Hid ((W3.alloc (Obj.cells (sc i x.g x.k x.l x.s x.c).toArray 32)).heap[W3.heap.size]? = some (.cells (sc i x.g x.k x.l x.s x.c).toArray 32 (0, 0))) := heap_alloc_new W3 _
  have BL4 : Hid (Below w2.heap.size w2 (W3.alloc (Obj.cells (sc i x.g x.k x.l x.s x.c).toArray 32))) := BL3.out.trans ((box_below W3 _).mono BL3.out.size)
  have ZZ4 : Hid ((W3.alloc (Obj.cells (sc i x.g x.k x.l x.s x.c).toArray 32)).heap.size = W3.heap.size + 1) := by show _ = _; simp
  go_upto_region 4 with (first | (refine wpList_store_new rfl 32 _ _ rfl W3 z6 (sc i x.g x.k x.l x.s x.c).toArray rfl rfl s32 rfl (all_oneCell_toArray (sc_one _ _ _ _ _ _)) ?_) | fail)
  clear c0 c1 c2 c3 c4 A3 B3 BL3
  generalize W3.alloc (Obj.cells (sc i x.g x.k x.l x.s x.c).toArray 32) = W4 at *
  have hz4 : w3.heap.size + 1 ≤ W3.heap.size := Nat.le_of_eq ZZ3.out.symm
  have hz5 : W3.heap.size + 1 ≤ W4.heap.size := Nat.le_of_eq ZZ4.out.symm
  have KS : ∀ V, Hid (Below W4.heap.size W4 V → V.cell? ⟨W.heap.size, 0, none⟩ = some (.int .i64 x.k) ∧ V.cell? ⟨W.heap.size, 1, none⟩ = some (.int .i64 x.l) ∧ V.cell? ⟨W.heap.size, 2, none⟩ = some (.int .i64 x.g) ∧ V.cell? ⟨W.heap.size, 3, none⟩ = some (.int .i64 x.s) ∧ V.cell? ⟨W.heap.size, 4, none⟩ = some (.int .i64 x.c) ∧ V.cell? ⟨W.heap.size, 5, none⟩ = some (.int .i64 x.d0) ∧ V.cell? ⟨W.heap.size, 6, none⟩ = some (.int .i64 x.d1) ∧ V.cell? ⟨W.heap.size, 7, none⟩ = some (.int .i64 x.d2) ∧ V.cell? ⟨W.heap.size, 8, none⟩ = some (.int .i64 x.d3) ∧ V.cell? ⟨W.heap.size, 9, none⟩ = some (.int .i64 x.o) ∧ V.cell? ⟨W.heap.size, 10, none⟩ = some (.int .i64 x.t) ∧ (V.cell? ⟨w3.heap.size, 0, none⟩ = some (.int .i64 i) ∧ V.cell? ⟨w3.heap.size, 1, none⟩ = some (.int .i64 x.g) ∧ V.cell? ⟨w3.heap.size, 2, none⟩ = some (.int .i64 x.k) ∧ V.cell? ⟨w3.heap.size, 3, none⟩ = some (.int .i64 x.l) ∧ V.cell? ⟨w3.heap.size, 4, none⟩ = some (.int .i64 x.s) ∧ V.cell? ⟨w3.heap.size, 5, none⟩ = some (.int .i64 x.c)) ∧ (V.cell? ⟨W3.heap.size, 0, none⟩ = some (.int .i64 i) ∧ V.cell? ⟨W3.heap.size, 1, none⟩ = some (.int .i64 x.g) ∧ V.cell? ⟨W3.heap.size, 2, none⟩ = some (.int .i64 x.k) ∧ V.cell? ⟨W3.heap.size, 3, none⟩ = some (.int .i64 x.l) ∧ V.cell? ⟨W3.heap.size, 4, none⟩ = some (.int .i64 x.s) ∧ V.cell? ⟨W3.heap.size, 5, none⟩ = some (.int .i64 x.c))) := fun V hV => by
    obtain ⟨x0, x1, x2, x3, x4, x5, x6, x7, x8, x9, x10⟩ := nd11 ((hV.block _ (by omega)).trans A4.out)
    exact ⟨x0, x1, x2, x3, x4, x5, x6, x7, x8, x9, x10, sc6 ((hV.block _ (by omega)).trans B4.out), sc6 ((hV.block _ (by omega)).trans C4.out)⟩
  have HD0 : Hid (Below W4.heap.size W4 W4.drew) := (Below.refl _ _).drew
  have hq32 : ∀ V, (Op.equalIn 10000 32 (.agg #[.int .i64 i, .int .i64 x.g, .int .i64 x.k, .int .i64 x.l, .int .i64 x.s, .int .i64 x.c]) (.agg #[.int .i64 i, .int .i64 x.g, .int .i64 x.k, .int .i64 x.l, .int .i64 x.s, .int .i64 x.c])).run Try.prog V = .ok true V := eq32 i x.g x.k x.l x.s x.c
  go_region_held3 (fun V => V.cell? ⟨W.heap.size, 0, none⟩ = some (.int .i64 x.k) ∧ V.cell? ⟨W.heap.size, 1, none⟩ = some (.int .i64 x.l) ∧ V.cell? ⟨W.heap.size, 2, none⟩ = some (.int .i64 x.g) ∧ V.cell? ⟨W.heap.size, 3, none⟩ = some (.int .i64 x.s) ∧ V.cell? ⟨W.heap.size, 4, none⟩ = some (.int .i64 x.c) ∧ V.cell? ⟨W.heap.size, 5, none⟩ = some (.int .i64 x.d0) ∧ V.cell? ⟨W.heap.size, 6, none⟩ = some (.int .i64 x.d1) ∧ V.cell? ⟨W.heap.size, 7, none⟩ = some (.int .i64 x.d2) ∧ V.cell? ⟨W.heap.size, 8, none⟩ = some (.int .i64 x.d3) ∧ V.cell? ⟨W.heap.size, 9, none⟩ = some (.int .i64 x.o) ∧ V.cell? ⟨W.heap.size, 10, none⟩ = some (.int .i64 x.t) ∧ (V.cell? ⟨w3.heap.size, 0, none⟩ = some (.int .i64 i) ∧ V.cell? ⟨w3.heap.size, 1, none⟩ = some (.int .i64 x.g) ∧ V.cell? ⟨w3.heap.size, 2, none⟩ = some (.int .i64 x.k) ∧ V.cell? ⟨w3.heap.size, 3, none⟩ = some (.int .i64 x.l) ∧ V.cell? ⟨w3.heap.size, 4, none⟩ = some (.int .i64 x.s) ∧ V.cell? ⟨w3.heap.size, 5, none⟩ = some (.int .i64 x.c)) ∧ (V.cell? ⟨W3.heap.size, 0, none⟩ = some (.int .i64 i) ∧ V.cell? ⟨W3.heap.size, 1, none⟩ = some (.int .i64 x.g) ∧ V.cell? ⟨W3.heap.size, 2, none⟩ = some (.int .i64 x.k) ∧ V.cell? ⟨W3.heap.size, 3, none⟩ = some (.int .i64 x.l) ∧ V.cell? ⟨W3.heap.size, 4, none⟩ = some (.int .i64 x.s) ∧ V.cell? ⟨W3.heap.size, 5, none⟩ = some (.int .i64 x.c))) (first | (with_reducible exact (KS _).out HD0.out) | (with_reducible exact (KS _).out HD1.out) | (with_reducible exact (KS _).out HD2.out)) (first
    | (go_at_call 9; refine (sound_any x _).mono ?_; rintro e w5 ⟨rfl, hb5⟩; rw [HOK.out]; have HD1 := Lib.hid (HD0.out.trans (hb5.mono HD0.out.size)); clear hb5)
    | (go_at_call 10; refine (refSound_any x _).mono ?_; rintro e w6 ⟨rfl, hb6⟩; rw [HOK.out]; have HD2 := Lib.hid (HD1.out.trans (hb6.mono HD1.out.size)); clear hb6))
  have A6 : Hid (w6.heap[W.heap.size]? = some (.cells (nc x).toArray 25 (0, 0))) := (HD2.out.block _ (by omega)).trans A4.out
  have BL6 : Hid (Below w2.heap.size w2 w6) := BL4.out.trans (HD2.out.mono BL4.out.size)
  have hz6 := HD2.out.size
  clear KS HD0 HD1 HD2 hq32 A4 B4 C4 BL4 ZZ3 ZZ4
  go_wp2_with fail
  refine (awake_any _).mono ?_
  rintro e w7 ⟨rfl, hb7⟩
  have HB7 : Hid (Below W.heap.size W w7) := (AB2.out.trans (BL6.out.mono (by omega))).trans (hb7.mono (by omega))
  clear hb7
  go_wp2_with fail
  go_ret
  exact ⟨rfl, HB7.out⟩
set_option maxRecDepth 20000 in
set_option maxHeartbeats 4000000 in
theorem arg2 (A : Option Addr) (c : Nat) (i : Int) (x : Nd) (W : World) (hi : i < 0) : Calls Try.prog 3 #[.slice A 128 c, .int .i64 i, .agg (nc x).toArray] W fun e w' => e = .returned (.bool true) ∧ Below W.heap.size W w' := by
  obtain ⟨o, ho⟩ : ∃ o, x.ok = o := ⟨_, rfl⟩
  have HOK := Lib.hid ho
  clear ho
  go_enter Try.func3, Try.ntmps3
  go_upto_region 1 with fail
  obtain ⟨a0, ab, az⟩ := box1 W (Obj.cells (nc x).toArray 25)
  generalize W.alloc (Obj.cells (nc x).toArray 25) = W1 at *
  have A0 := Lib.hid a0
  have AB := Lib.hid ab
  have AZ := Lib.hid az
  clear a0 ab az
  go_wp2_with (first | (refine wpList_load_row rfl 25 _ rfl W.heap.size rfl _ _ _ A0.out _ Try.underlying25 rfl s25 ?_) | fail)
  refine (put_arg A 128 c i x _ (by omega)).mono ?_
  rintro e w2 ⟨rfl, hb2⟩
  have HB2 := Lib.hid hb2
  clear hb2
  have hz2 := HB2.out.size
  rw [AZ.out] at hz2
  have A2 : Hid (w2.heap[W.heap.size]? = some (.cells (nc x).toArray 25 (0, 0))) := (HB2.out.block _ (by rw [AZ.out]; omega)).trans A0.out
  have AB2 : Hid (Below W.heap.size W w2) := AB.out.trans (HB2.out.mono (by rw [AZ.out]; omega))
  clear A0 AB AZ HB2 W1
  go_wp2_with (first | (refine wpList_load_row rfl 25 _ rfl W.heap.size rfl _ _ _ A2.out _ Try.underlying25 rfl s25 ?_) | fail)
  refine (stat_any i x _).mono ?_
  rintro e w3 ⟨rfl, hb3⟩
  have hz3 := hb3.size
  have A3 : Hid ((w3.alloc (Obj.cells (sc i x.g x.k x.l x.s x.c).toArray 32)).heap[W.heap.size]? = some (.cells (nc x).toArray 25 (0, 0))) := ((box_below w3 _).block _ (by omega)).trans ((hb3.block _ (by omega)).trans A2.out)
  have B3 : Hid ((w3.alloc (Obj.cells (sc i x.g x.k x.l x.s x.c).toArray 32)).heap[w3.heap.size]? = some (.cells (sc i x.g x.k x.l x.s x.c).toArray 32 (0, 0))) := heap_alloc_new w3 _
  have BL3 : Hid (Below w2.heap.size w2 (w3.alloc (Obj.cells (sc i x.g x.k x.l x.s x.c).toArray 32))) := hb3.trans ((box_below w3 _).mono hb3.size)
  have ZZ3 : Hid ((w3.alloc (Obj.cells (sc i x.g x.k x.l x.s x.c).toArray 32)).heap.size = w3.heap.size + 1) := by show _ = _; simp
  clear hb3 A2
  go_upto_region 3 with (first | (refine wpList_store_new rfl 32 _ _ rfl w3 z6 (sc i x.g x.k x.l x.s x.c).toArray rfl rfl s32 rfl (all_oneCell_toArray (sc_one _ _ _ _ _ _)) ?_) | fail)
  generalize w3.alloc (Obj.cells (sc i x.g x.k x.l x.s x.c).toArray 32) = W3 at *
  obtain ⟨c0, c1, c2, c3, c4⟩ := nd_cells A3.out
  have A4 : Hid ((W3.alloc (Obj.cells (sc i x.g x.k x.l x.s x.c).toArray 32)).heap[W.heap.size]? = some (.cells (nc x).toArray 25 (0, 0))) := ((box_below W3 _).block _ (by rw [ZZ3.out]; omega)).trans A3.out
  have B4 : Hid ((W3.alloc (Obj.cells (sc i x.g x.k x.l x.s x.c).toArray 32)).heap[w3.heap.size]? = some (.cells (sc i x.g x.k x.l x.s x.c).toArray 32 (0, 0))) := ((box_below W3 _).block _ (by rw [ZZ3.out]; omega)).trans B3.out
  have C4 : Hid ((W3.alloc (Obj.cells (sc i x.g x.k x.l x.s x.c).toArray 32)).heap[W3.heap.size]? = some (.cells (sc i x.g x.k x.l x.s x.c).toArray 32 (0, 0))) := heap_alloc_new W3 _
  have BL4 : Hid (Below w2.heap.size w2 (W3.alloc (Obj.cells (sc i x.g x.k x.l x.s x.c).toArray 32))) := BL3.out.trans ((box_below W3 _).mono BL3.out.size)
  have ZZ4 : Hid ((W3.alloc (Obj.cells (sc i x.g x.k x.l x.s x.c).toArray 32)).heap.size = W3.heap.size + 1) := by show _ = _; simp
  go_upto_region 4 with (first | (refine wpList_store_new rfl 32 _ _ rfl W3 z6 (sc i x.g x.k x.l x.s x.c).toArray rfl rfl s32 rfl (all_oneCell_toArray (sc_one _ _ _ _ _ _)) ?_) | fail)
  clear c0 c1 c2 c3 c4 A3 B3 BL3
  generalize W3.alloc (Obj.cells (sc i x.g x.k x.l x.s x.c).toArray 32) = W4 at *
  have hz4 : w3.heap.size + 1 ≤ W3.heap.size := Nat.le_of_eq ZZ3.out.symm
  have hz5 : W3.heap.size + 1 ≤ W4.heap.size := Nat.le_of_eq ZZ4.out.symm
  have KS : ∀ V, Hid (Below W4.heap.size W4 V → V.cell? ⟨W.heap.size, 0, none⟩ = some (.int .i64 x.k) ∧ V.cell? ⟨W.heap.size, 1, none⟩ = some (.int .i64 x.l) ∧ V.cell? ⟨W.heap.size, 2, none⟩ = some (.int .i64 x.g) ∧ V.cell? ⟨W.heap.size, 3, none⟩ = some (.int .i64 x.s) ∧ V.cell? ⟨W.heap.size, 4, none⟩ = some (.int .i64 x.c) ∧ V.cell? ⟨W.heap.size, 5, none⟩ = some (.int .i64 x.d0) ∧ V.cell? ⟨W.heap.size, 6, none⟩ = some (.int .i64 x.d1) ∧ V.cell? ⟨W.heap.size, 7, none⟩ = some (.int .i64 x.d2) ∧ V.cell? ⟨W.heap.size, 8, none⟩ = some (.int .i64 x.d3) ∧ V.cell? ⟨W.heap.size, 9, none⟩ = some (.int .i64 x.o) ∧ V.cell? ⟨W.heap.size, 10, none⟩ = some (.int .i64 x.t) ∧ (V.cell? ⟨w3.heap.size, 0, none⟩ = some (.int .i64 i) ∧ V.cell? ⟨w3.heap.size, 1, none⟩ = some (.int .i64 x.g) ∧ V.cell? ⟨w3.heap.size, 2, none⟩ = some (.int .i64 x.k) ∧ V.cell? ⟨w3.heap.size, 3, none⟩ = some (.int .i64 x.l) ∧ V.cell? ⟨w3.heap.size, 4, none⟩ = some (.int .i64 x.s) ∧ V.cell? ⟨w3.heap.size, 5, none⟩ = some (.int .i64 x.c)) ∧ (V.cell? ⟨W3.heap.size, 0, none⟩ = some (.int .i64 i) ∧ V.cell? ⟨W3.heap.size, 1, none⟩ = some (.int .i64 x.g) ∧ V.cell? ⟨W3.heap.size, 2, none⟩ = some (.int .i64 x.k) ∧ V.cell? ⟨W3.heap.size, 3, none⟩ = some (.int .i64 x.l) ∧ V.cell? ⟨W3.heap.size, 4, none⟩ = some (.int .i64 x.s) ∧ V.cell? ⟨W3.heap.size, 5, none⟩ = some (.int .i64 x.c))) := fun V hV => by
    obtain ⟨x0, x1, x2, x3, x4, x5, x6, x7, x8, x9, x10⟩ := nd11 ((hV.block _ (by omega)).trans A4.out)
    exact ⟨x0, x1, x2, x3, x4, x5, x6, x7, x8, x9, x10, sc6 ((hV.block _ (by omega)).trans B4.out), sc6 ((hV.block _ (by omega)).trans C4.out)⟩
  have HD0 : Hid (Below W4.heap.size W4 W4.drew) := (Below.refl _ _).drew
  have hq32 : ∀ V, (Op.equalIn 10000 32 (.agg #[.int .i64 i, .int .i64 x.g, .int .i64 x.k, .int .i64 x.l, .int .i64 x.s, .int .i64 x.c]) (.agg #[.int .i64 i, .int .i64 x.g, .int .i64 x.k, .int .i64 x.l, .int .i64 x.s, .int .i64 x.c])).run Try.prog V = .ok true V := eq32 i x.g x.k x.l x.s x.c
  go_region_held3 (fun V => V.cell? ⟨W.heap.size, 0, none⟩ = some (.int .i64 x.k) ∧ V.cell? ⟨W.heap.size, 1, none⟩ = some (.int .i64 x.l) ∧ V.cell? ⟨W.heap.size, 2, none⟩ = some (.int .i64 x.g) ∧ V.cell? ⟨W.heap.size, 3, none⟩ = some (.int .i64 x.s) ∧ V.cell? ⟨W.heap.size, 4, none⟩ = some (.int .i64 x.c) ∧ V.cell? ⟨W.heap.size, 5, none⟩ = some (.int .i64 x.d0) ∧ V.cell? ⟨W.heap.size, 6, none⟩ = some (.int .i64 x.d1) ∧ V.cell? ⟨W.heap.size, 7, none⟩ = some (.int .i64 x.d2) ∧ V.cell? ⟨W.heap.size, 8, none⟩ = some (.int .i64 x.d3) ∧ V.cell? ⟨W.heap.size, 9, none⟩ = some (.int .i64 x.o) ∧ V.cell? ⟨W.heap.size, 10, none⟩ = some (.int .i64 x.t) ∧ (V.cell? ⟨w3.heap.size, 0, none⟩ = some (.int .i64 i) ∧ V.cell? ⟨w3.heap.size, 1, none⟩ = some (.int .i64 x.g) ∧ V.cell? ⟨w3.heap.size, 2, none⟩ = some (.int .i64 x.k) ∧ V.cell? ⟨w3.heap.size, 3, none⟩ = some (.int .i64 x.l) ∧ V.cell? ⟨w3.heap.size, 4, none⟩ = some (.int .i64 x.s) ∧ V.cell? ⟨w3.heap.size, 5, none⟩ = some (.int .i64 x.c)) ∧ (V.cell? ⟨W3.heap.size, 0, none⟩ = some (.int .i64 i) ∧ V.cell? ⟨W3.heap.size, 1, none⟩ = some (.int .i64 x.g) ∧ V.cell? ⟨W3.heap.size, 2, none⟩ = some (.int .i64 x.k) ∧ V.cell? ⟨W3.heap.size, 3, none⟩ = some (.int .i64 x.l) ∧ V.cell? ⟨W3.heap.size, 4, none⟩ = some (.int .i64 x.s) ∧ V.cell? ⟨W3.heap.size, 5, none⟩ = some (.int .i64 x.c))) (first | (with_reducible exact (KS _).out HD0.out) | (with_reducible exact (KS _).out HD1.out) | (with_reducible exact (KS _).out HD2.out)) (first
    | (go_at_call 9; refine (sound_any x _).mono ?_; rintro e w5 ⟨rfl, hb5⟩; rw [HOK.out]; have HD1 := Lib.hid (HD0.out.trans (hb5.mono HD0.out.size)); clear hb5)
    | (go_at_call 10; refine (refSound_any x _).mono ?_; rintro e w6 ⟨rfl, hb6⟩; rw [HOK.out]; have HD2 := Lib.hid (HD1.out.trans (hb6.mono HD1.out.size)); clear hb6))
  have A6 : Hid (w6.heap[W.heap.size]? = some (.cells (nc x).toArray 25 (0, 0))) := (HD2.out.block _ (by omega)).trans A4.out
  have BL6 : Hid (Below w2.heap.size w2 w6) := BL4.out.trans (HD2.out.mono BL4.out.size)
  have hz6 := HD2.out.size
  clear KS HD0 HD1 HD2 hq32 A4 B4 C4 BL4 ZZ3 ZZ4
  go_wp2_with fail
  refine (awake_any _).mono ?_
  rintro e w7 ⟨rfl, hb7⟩
  have HB7 : Hid (Below W.heap.size W w7) := (AB2.out.trans (BL6.out.mono (by omega))).trans (hb7.mono (by omega))
  clear hb7
  go_wp2_with fail
  go_ret
  exact ⟨rfl, HB7.out⟩
set_option maxRecDepth 20000 in
set_option maxHeartbeats 4000000 in
theorem arg3 (A : Option Addr) (c : Nat) (i : Int) (x : Nd) (W : World) (hi : 3 < i) : Calls Try.prog 3 #[.slice A 128 c, .int .i64 i, .agg (nc x).toArray] W fun e w' => e = .returned (.bool true) ∧ Below W.heap.size W w' := by
  obtain ⟨o, ho⟩ : ∃ o, x.ok = o := ⟨_, rfl⟩
  have HOK := Lib.hid ho
  clear ho
  go_enter Try.func3, Try.ntmps3
  go_upto_region 1 with fail
  obtain ⟨a0, ab, az⟩ := box1 W (Obj.cells (nc x).toArray 25)
  generalize W.alloc (Obj.cells (nc x).toArray 25) = W1 at *
  have A0 := Lib.hid a0
  have AB := Lib.hid ab
  have AZ := Lib.hid az
  clear a0 ab az
  go_wp2_with (first | (refine wpList_load_row rfl 25 _ rfl W.heap.size rfl _ _ _ A0.out _ Try.underlying25 rfl s25 ?_) | fail)
  refine (put_arg A 128 c i x _ (by omega)).mono ?_
  rintro e w2 ⟨rfl, hb2⟩
  have HB2 := Lib.hid hb2
  clear hb2
  have hz2 := HB2.out.size
  rw [AZ.out] at hz2
  have A2 : Hid (w2.heap[W.heap.size]? = some (.cells (nc x).toArray 25 (0, 0))) := (HB2.out.block _ (by rw [AZ.out]; omega)).trans A0.out
  have AB2 : Hid (Below W.heap.size W w2) := AB.out.trans (HB2.out.mono (by rw [AZ.out]; omega))
  clear A0 AB AZ HB2 W1
  go_wp2_with (first | (refine wpList_load_row rfl 25 _ rfl W.heap.size rfl _ _ _ A2.out _ Try.underlying25 rfl s25 ?_) | fail)
  refine (stat_any i x _).mono ?_
  rintro e w3 ⟨rfl, hb3⟩
  have hz3 := hb3.size
  have A3 : Hid ((w3.alloc (Obj.cells (sc i x.g x.k x.l x.s x.c).toArray 32)).heap[W.heap.size]? = some (.cells (nc x).toArray 25 (0, 0))) := ((box_below w3 _).block _ (by omega)).trans ((hb3.block _ (by omega)).trans A2.out)
  have B3 : Hid ((w3.alloc (Obj.cells (sc i x.g x.k x.l x.s x.c).toArray 32)).heap[w3.heap.size]? = some (.cells (sc i x.g x.k x.l x.s x.c).toArray 32 (0, 0))) := heap_alloc_new w3 _
  have BL3 : Hid (Below w2.heap.size w2 (w3.alloc (Obj.cells (sc i x.g x.k x.l x.s x.c).toArray 32))) := hb3.trans ((box_below w3 _).mono hb3.size)
  have ZZ3 : Hid ((w3.alloc (Obj.cells (sc i x.g x.k x.l x.s x.c).toArray 32)).heap.size = w3.heap.size + 1) := by show _ = _; simp
  clear hb3 A2
  go_upto_region 3 with (first | (refine wpList_store_new rfl 32 _ _ rfl w3 z6 (sc i x.g x.k x.l x.s x.c).toArray rfl rfl s32 rfl (all_oneCell_toArray (sc_one _ _ _ _ _ _)) ?_) | fail)
  generalize w3.alloc (Obj.cells (sc i x.g x.k x.l x.s x.c).toArray 32) = W3 at *
  obtain ⟨c0, c1, c2, c3, c4⟩ := nd_cells A3.out
  have A4 : Hid ((W3.alloc (Obj.cells (sc i x.g x.k x.l x.s x.c).toArray 32)).heap[W.heap.size]? = some (.cells (nc x).toArray 25 (0, 0))) := ((box_below W3 _).block _ (by rw [ZZ3.out]; omega)).trans A3.out
  have B4 : Hid ((W3.alloc (Obj.cells (sc i x.g x.k x.l x.s x.c).toArray 32)).heap[w3.heap.size]? = some (.cells (sc i x.g x.k x.l x.s x.c).toArray 32 (0, 0))) := ((box_below W3 _).block _ (by rw [ZZ3.out]; omega)).trans B3.out
  have C4 : Hid ((W3.alloc (Obj.cells (sc i x.g x.k x.l x.s x.c).toArray 32)).heap[W3.heap.size]? = some (.cells (sc i x.g x.k x.l x.s x.c).toArray 32 (0, 0))) := heap_alloc_new W3 _
  have BL4 : Hid (Below w2.heap.size w2 (W3.alloc (Obj.cells (sc i x.g x.k x.l x.s x.c).toArray 32))) := BL3.out.trans ((box_below W3 _).mono BL3.out.size)
  have ZZ4 : Hid ((W3.alloc (Obj.cells (sc i x.g x.k x.l x.s x.c).toArray 32)).heap.size = W3.heap.size + 1) := by show _ = _; simp
  go_upto_region 4 with (first | (refine wpList_store_new rfl 32 _ _ rfl W3 z6 (sc i x.g x.k x.l x.s x.c).toArray rfl rfl s32 rfl (all_oneCell_toArray (sc_one _ _ _ _ _ _)) ?_) | fail)
  clear c0 c1 c2 c3 c4 A3 B3 BL3
  generalize W3.alloc (Obj.cells (sc i x.g x.k x.l x.s x.c).toArray 32) = W4 at *
  have hz4 : w3.heap.size + 1 ≤ W3.heap.size := Nat.le_of_eq ZZ3.out.symm
  have hz5 : W3.heap.size + 1 ≤ W4.heap.size := Nat.le_of_eq ZZ4.out.symm
  have KS : ∀ V, Hid (Below W4.heap.size W4 V → V.cell? ⟨W.heap.size, 0, none⟩ = some (.int .i64 x.k) ∧ V.cell? ⟨W.heap.size, 1, none⟩ = some (.int .i64 x.l) ∧ V.cell? ⟨W.heap.size, 2, none⟩ = some (.int .i64 x.g) ∧ V.cell? ⟨W.heap.size, 3, none⟩ = some (.int .i64 x.s) ∧ V.cell? ⟨W.heap.size, 4, none⟩ = some (.int .i64 x.c) ∧ V.cell? ⟨W.heap.size, 5, none⟩ = some (.int .i64 x.d0) ∧ V.cell? ⟨W.heap.size, 6, none⟩ = some (.int .i64 x.d1) ∧ V.cell? ⟨W.heap.size, 7, none⟩ = some (.int .i64 x.d2) ∧ V.cell? ⟨W.heap.size, 8, none⟩ = some (.int .i64 x.d3) ∧ V.cell? ⟨W.heap.size, 9, none⟩ = some (.int .i64 x.o) ∧ V.cell? ⟨W.heap.size, 10, none⟩ = some (.int .i64 x.t) ∧ (V.cell? ⟨w3.heap.size, 0, none⟩ = some (.int .i64 i) ∧ V.cell? ⟨w3.heap.size, 1, none⟩ = some (.int .i64 x.g) ∧ V.cell? ⟨w3.heap.size, 2, none⟩ = some (.int .i64 x.k) ∧ V.cell? ⟨w3.heap.size, 3, none⟩ = some (.int .i64 x.l) ∧ V.cell? ⟨w3.heap.size, 4, none⟩ = some (.int .i64 x.s) ∧ V.cell? ⟨w3.heap.size, 5, none⟩ = some (.int .i64 x.c)) ∧ (V.cell? ⟨W3.heap.size, 0, none⟩ = some (.int .i64 i) ∧ V.cell? ⟨W3.heap.size, 1, none⟩ = some (.int .i64 x.g) ∧ V.cell? ⟨W3.heap.size, 2, none⟩ = some (.int .i64 x.k) ∧ V.cell? ⟨W3.heap.size, 3, none⟩ = some (.int .i64 x.l) ∧ V.cell? ⟨W3.heap.size, 4, none⟩ = some (.int .i64 x.s) ∧ V.cell? ⟨W3.heap.size, 5, none⟩ = some (.int .i64 x.c))) := fun V hV => by
    obtain ⟨x0, x1, x2, x3, x4, x5, x6, x7, x8, x9, x10⟩ := nd11 ((hV.block _ (by omega)).trans A4.out)
    exact ⟨x0, x1, x2, x3, x4, x5, x6, x7, x8, x9, x10, sc6 ((hV.block _ (by omega)).trans B4.out), sc6 ((hV.block _ (by omega)).trans C4.out)⟩
  have HD0 : Hid (Below W4.heap.size W4 W4.drew) := (Below.refl _ _).drew
  have hq32 : ∀ V, (Op.equalIn 10000 32 (.agg #[.int .i64 i, .int .i64 x.g, .int .i64 x.k, .int .i64 x.l, .int .i64 x.s, .int .i64 x.c]) (.agg #[.int .i64 i, .int .i64 x.g, .int .i64 x.k, .int .i64 x.l, .int .i64 x.s, .int .i64 x.c])).run Try.prog V = .ok true V := eq32 i x.g x.k x.l x.s x.c
  go_region_held3 (fun V => V.cell? ⟨W.heap.size, 0, none⟩ = some (.int .i64 x.k) ∧ V.cell? ⟨W.heap.size, 1, none⟩ = some (.int .i64 x.l) ∧ V.cell? ⟨W.heap.size, 2, none⟩ = some (.int .i64 x.g) ∧ V.cell? ⟨W.heap.size, 3, none⟩ = some (.int .i64 x.s) ∧ V.cell? ⟨W.heap.size, 4, none⟩ = some (.int .i64 x.c) ∧ V.cell? ⟨W.heap.size, 5, none⟩ = some (.int .i64 x.d0) ∧ V.cell? ⟨W.heap.size, 6, none⟩ = some (.int .i64 x.d1) ∧ V.cell? ⟨W.heap.size, 7, none⟩ = some (.int .i64 x.d2) ∧ V.cell? ⟨W.heap.size, 8, none⟩ = some (.int .i64 x.d3) ∧ V.cell? ⟨W.heap.size, 9, none⟩ = some (.int .i64 x.o) ∧ V.cell? ⟨W.heap.size, 10, none⟩ = some (.int .i64 x.t) ∧ (V.cell? ⟨w3.heap.size, 0, none⟩ = some (.int .i64 i) ∧ V.cell? ⟨w3.heap.size, 1, none⟩ = some (.int .i64 x.g) ∧ V.cell? ⟨w3.heap.size, 2, none⟩ = some (.int .i64 x.k) ∧ V.cell? ⟨w3.heap.size, 3, none⟩ = some (.int .i64 x.l) ∧ V.cell? ⟨w3.heap.size, 4, none⟩ = some (.int .i64 x.s) ∧ V.cell? ⟨w3.heap.size, 5, none⟩ = some (.int .i64 x.c)) ∧ (V.cell? ⟨W3.heap.size, 0, none⟩ = some (.int .i64 i) ∧ V.cell? ⟨W3.heap.size, 1, none⟩ = some (.int .i64 x.g) ∧ V.cell? ⟨W3.heap.size, 2, none⟩ = some (.int .i64 x.k) ∧ V.cell? ⟨W3.heap.size, 3, none⟩ = some (.int .i64 x.l) ∧ V.cell? ⟨W3.heap.size, 4, none⟩ = some (.int .i64 x.s) ∧ V.cell? ⟨W3.heap.size, 5, none⟩ = some (.int .i64 x.c))) (first | (with_reducible exact (KS _).out HD0.out) | (with_reducible exact (KS _).out HD1.out) | (with_reducible exact (KS _).out HD2.out)) (first
    | (go_at_call 9; refine (sound_any x _).mono ?_; rintro e w5 ⟨rfl, hb5⟩; rw [HOK.out]; have HD1 := Lib.hid (HD0.out.trans (hb5.mono HD0.out.size)); clear hb5)
    | (go_at_call 10; refine (refSound_any x _).mono ?_; rintro e w6 ⟨rfl, hb6⟩; rw [HOK.out]; have HD2 := Lib.hid (HD1.out.trans (hb6.mono HD1.out.size)); clear hb6))
  have A6 : Hid (w6.heap[W.heap.size]? = some (.cells (nc x).toArray 25 (0, 0))) := (HD2.out.block _ (by omega)).trans A4.out
  have BL6 : Hid (Below w2.heap.size w2 w6) := BL4.out.trans (HD2.out.mono BL4.out.size)
  have hz6 := HD2.out.size
  clear KS HD0 HD1 HD2 hq32 A4 B4 C4 BL4 ZZ3 ZZ4
  go_wp2_with fail
  refine (awake_any _).mono ?_
  rintro e w7 ⟨rfl, hb7⟩
  have HB7 : Hid (Below W.heap.size W w7) := (AB2.out.trans (BL6.out.mono (by omega))).trans (hb7.mono (by omega))
  clear hb7
  go_wp2_with fail
  go_ret
  exact ⟨rfl, HB7.out⟩
end Go.Proofs.Ytijphembfohfnaa.nodePuts
