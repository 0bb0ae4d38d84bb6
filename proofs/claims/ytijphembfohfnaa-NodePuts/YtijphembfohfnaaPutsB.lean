/- copyholdlaw10.NodePuts, walked: a right sector and place. -/
import Derived.Test.YtijphembfohfnaaPutsA
namespace Go.Proofs.Ytijphembfohfnaa.nodePuts
open Go.RowKit
set_option linter.unusedVariables false
set_option maxRecDepth 20000 in
set_option maxHeartbeats 4000000 in
theorem no (A : Option Addr) (c i : Nat) (x : Nd) (W : World) (hi : i < 4) (hok : x.ok = false) : Calls Try.prog 3 #[.slice A 128 c, .int .i64 (i : Nat), .agg (nc x).toArray] W fun e w' => e = .returned (.bool true) ∧ Below W.heap.size W w' := by
  have HOK := Lib.hid hok
  have hi0 : ¬ ((i : Int) < 0) := by omega
  have hi1 : ¬ (3 < (i : Int)) := by omega
  clear hok
  go_enter Try.func3, Try.ntmps3
  go_upto_region 1 with fail
  obtain ⟨a0, ab, az⟩ := box1 W (Obj.cells (nc x).toArray 25)
  generalize W.alloc (Obj.cells (nc x).toArray 25) = W1 at *
  have A0 := Lib.hid a0
  have AB := Lib.hid ab
  have AZ := Lib.hid az
  clear a0 ab az
  go_wp2_with (first | (refine wpList_load_row rfl 25 _ rfl W.heap.size rfl _ _ _ A0.out _ Try.underlying25 rfl s25 ?_) | fail)
  refine (put_no A c i x _ hi HOK.out).mono ?_
  rintro e w2 ⟨rfl, hb2⟩
  have HB2 := Lib.hid hb2
  clear hb2
  have hz2 := HB2.out.size
  rw [AZ.out] at hz2
  have A2 : Hid (w2.heap[W.heap.size]? = some (.cells (nc x).toArray 25 (0, 0))) := (HB2.out.block _ (by rw [AZ.out]; omega)).trans A0.out
  have AB2 : Hid (Below W.heap.size W w2) := AB.out.trans (HB2.out.mono (by rw [AZ.out]; omega))
  clear A0 AB AZ HB2 W1
  go_wp2_with (first | (refine wpList_load_row rfl 25 _ rfl W.heap.size rfl _ _ _ A2.out _ Try.underlying25 rfl s25 ?_) | fail)
  refine (stat_any (i : Int) x _).mono ?_
  rintro e w3 ⟨rfl, hb3⟩
  have hz3 := hb3.size
  have A3 : Hid ((w3.alloc (Obj.cells (sc (i : Int) x.g x.k x.l x.s x.c).toArray 32)).heap[W.heap.size]? = some (.cells (nc x).toArray 25 (0, 0))) := ((box_below w3 _).block _ (by omega)).trans ((hb3.block _ (by omega)).trans A2.out)
  have B3 : Hid ((w3.alloc (Obj.cells (sc (i : Int) x.g x.k x.l x.s x.c).toArray 32)).heap[w3.heap.size]? = some (.cells (sc (i : Int) x.g x.k x.l x.s x.c).toArray 32 (0, 0))) := heap_alloc_new w3 _
  have BL3 : Hid (Below w2.heap.size w2 (w3.alloc (Obj.cells (sc (i : Int) x.g x.k x.l x.s x.c).toArray 32))) := hb3.trans ((box_below w3 _).mono hb3.size)
  have ZZ3 : Hid ((w3.alloc (Obj.cells (sc (i : Int) x.g x.k x.l x.s x.c).toArray 32)).heap.size = w3.heap.size + 1) := by show _ = _; simp
  clear hb3 A2
  go_upto_region 3 with (first | (refine wpList_store_new rfl 32 _ _ rfl w3 z6 (sc (i : Int) x.g x.k x.l x.s x.c).toArray rfl rfl s32 rfl (all_oneCell_toArray (sc_one _ _ _ _ _ _)) ?_) | fail)
  generalize w3.alloc (Obj.cells (sc (i : Int) x.g x.k x.l x.s x.c).toArray 32) = W3 at *
  obtain ⟨c0, c1, c2, c3, c4⟩ := nd_cells A3.out
  have A4 : Hid ((W3.alloc (Obj.cells (sc (i : Int) x.g x.k x.l x.s x.c).toArray 32)).heap[W.heap.size]? = some (.cells (nc x).toArray 25 (0, 0))) := ((box_below W3 _).block _ (by rw [ZZ3.out]; omega)).trans A3.out
  have B4 : Hid ((W3.alloc (Obj.cells (sc (i : Int) x.g x.k x.l x.s x.c).toArray 32)).heap[w3.heap.size]? = some (.cells (sc (i : Int) x.g x.k x.l x.s x.c).toArray 32 (0, 0))) := ((box_below W3 _).block _ (by rw [ZZ3.out]; omega)).trans B3.out
  have C4 : Hid ((W3.alloc (Obj.cells (sc (i : Int) x.g x.k x.l x.s x.c).toArray 32)).heap[W3.heap.size]? = some (.cells (sc (i : Int) x.g x.k x.l x.s x.c).toArray 32 (0, 0))) := heap_alloc_new W3 _
  have BL4 : Hid (Below w2.heap.size w2 (W3.alloc (Obj.cells (sc (i : Int) x.g x.k x.l x.s x.c).toArray 32))) := BL3.out.trans ((box_below W3 _).mono BL3.out.size)
  have ZZ4 : Hid ((W3.alloc (Obj.cells (sc (i : Int) x.g x.k x.l x.s x.c).toArray 32)).heap.size = W3.heap.size + 1) := by show _ = _; simp
  go_upto_region 4 with (first | (refine wpList_store_new rfl 32 _ _ rfl W3 z6 (sc (i : Int) x.g x.k x.l x.s x.c).toArray rfl rfl s32 rfl (all_oneCell_toArray (sc_one _ _ _ _ _ _)) ?_) | fail)
  clear c0 c1 c2 c3 c4 A3 B3 BL3
  generalize W3.alloc (Obj.cells (sc (i : Int) x.g x.k x.l x.s x.c).toArray 32) = W4 at *
  have hz4 : w3.heap.size + 1 ≤ W3.heap.size := Nat.le_of_eq ZZ3.out.symm
  have hz5 : W3.heap.size + 1 ≤ W4.heap.size := Nat.le_of_eq ZZ4.out.symm
  have KS : ∀ V, Hid (Below W4.heap.size W4 V → V.cell? ⟨W.heap.size, 0, none⟩ = some (.int .i64 x.k) ∧ V.cell? ⟨W.heap.size, 1, none⟩ = some (.int .i64 x.l) ∧ V.cell? ⟨W.heap.size, 2, none⟩ = some (.int .i64 x.g) ∧ V.cell? ⟨W.heap.size, 3, none⟩ = some (.int .i64 x.s) ∧ V.cell? ⟨W.heap.size, 4, none⟩ = some (.int .i64 x.c) ∧ V.cell? ⟨W.heap.size, 5, none⟩ = some (.int .i64 x.d0) ∧ V.cell? ⟨W.heap.size, 6, none⟩ = some (.int .i64 x.d1) ∧ V.cell? ⟨W.heap.size, 7, none⟩ = some (.int .i64 x.d2) ∧ V.cell? ⟨W.heap.size, 8, none⟩ = some (.int .i64 x.d3) ∧ V.cell? ⟨W.heap.size, 9, none⟩ = some (.int .i64 x.o) ∧ V.cell? ⟨W.heap.size, 10, none⟩ = some (.int .i64 x.t) ∧ (V.cell? ⟨w3.heap.size, 0, none⟩ = some (.int .i64 (i : Int)) ∧ V.cell? ⟨w3.heap.size, 1, none⟩ = some (.int .i64 x.g) ∧ V.cell? ⟨w3.heap.size, 2, none⟩ = some (.int .i64 x.k) ∧ V.cell? ⟨w3.heap.size, 3, none⟩ = some (.int .i64 x.l) ∧ V.cell? ⟨w3.heap.size, 4, none⟩ = some (.int .i64 x.s) ∧ V.cell? ⟨w3.heap.size, 5, none⟩ = some (.int .i64 x.c)) ∧ (V.cell? ⟨W3.heap.size, 0, none⟩ = some (.int .i64 (i : Int)) ∧ V.cell? ⟨W3.heap.size, 1, none⟩ = some (.int .i64 x.g) ∧ V.cell? ⟨W3.heap.size, 2, none⟩ = some (.int .i64 x.k) ∧ V.cell? ⟨W3.heap.size, 3, none⟩ = some (.int .i64 x.l) ∧ V.cell? ⟨W3.heap.size, 4, none⟩ = some (.int .i64 x.s) ∧ V.cell? ⟨W3.heap.size, 5, none⟩ = some (.int .i64 x.c))) := fun V hV => by
    obtain ⟨x0, x1, x2, x3, x4, x5, x6, x7, x8, x9, x10⟩ := nd11 ((hV.block _ (by omega)).trans A4.out)
    exact ⟨x0, x1, x2, x3, x4, x5, x6, x7, x8, x9, x10, sc6 ((hV.block _ (by omega)).trans B4.out), sc6 ((hV.block _ (by omega)).trans C4.out)⟩
  have HD0 : Hid (Below W4.heap.size W4 W4.drew) := (Below.refl _ _).drew
  have hq32 : ∀ V, (Op.equalIn 10000 32 (.agg #[.int .i64 (i : Int), .int .i64 x.g, .int .i64 x.k, .int .i64 x.l, .int .i64 x.s, .int .i64 x.c]) (.agg #[.int .i64 (i : Int), .int .i64 x.g, .int .i64 x.k, .int .i64 x.l, .int .i64 x.s, .int .i64 x.c])).run Try.prog V = .ok true V := eq32 (i : Int) x.g x.k x.l x.s x.c
  go_region_held3 (fun V => V.cell? ⟨W.heap.size, 0, none⟩ = some (.int .i64 x.k) ∧ V.cell? ⟨W.heap.size, 1, none⟩ = some (.int .i64 x.l) ∧ V.cell? ⟨W.heap.size, 2, none⟩ = some (.int .i64 x.g) ∧ V.cell? ⟨W.heap.size, 3, none⟩ = some (.int .i64 x.s) ∧ V.cell? ⟨W.heap.size, 4, none⟩ = some (.int .i64 x.c) ∧ V.cell? ⟨W.heap.size, 5, none⟩ = some (.int .i64 x.d0) ∧ V.cell? ⟨W.heap.size, 6, none⟩ = some (.int .i64 x.d1) ∧ V.cell? ⟨W.heap.size, 7, none⟩ = some (.int .i64 x.d2) ∧ V.cell? ⟨W.heap.size, 8, none⟩ = some (.int .i64 x.d3) ∧ V.cell? ⟨W.heap.size, 9, none⟩ = some (.int .i64 x.o) ∧ V.cell? ⟨W.heap.size, 10, none⟩ = some (.int .i64 x.t) ∧ (V.cell? ⟨w3.heap.size, 0, none⟩ = some (.int .i64 (i : Int)) ∧ V.cell? ⟨w3.heap.size, 1, none⟩ = some (.int .i64 x.g) ∧ V.cell? ⟨w3.heap.size, 2, none⟩ = some (.int .i64 x.k) ∧ V.cell? ⟨w3.heap.size, 3, none⟩ = some (.int .i64 x.l) ∧ V.cell? ⟨w3.heap.size, 4, none⟩ = some (.int .i64 x.s) ∧ V.cell? ⟨w3.heap.size, 5, none⟩ = some (.int .i64 x.c)) ∧ (V.cell? ⟨W3.heap.size, 0, none⟩ = some (.int .i64 (i : Int)) ∧ V.cell? ⟨W3.heap.size, 1, none⟩ = some (.int .i64 x.g) ∧ V.cell? ⟨W3.heap.size, 2, none⟩ = some (.int .i64 x.k) ∧ V.cell? ⟨W3.heap.size, 3, none⟩ = some (.int .i64 x.l) ∧ V.cell? ⟨W3.heap.size, 4, none⟩ = some (.int .i64 x.s) ∧ V.cell? ⟨W3.heap.size, 5, none⟩ = some (.int .i64 x.c))) (first | (with_reducible exact (KS _).out HD0.out) | (with_reducible exact (KS _).out HD1.out) | (with_reducible exact (KS _).out HD2.out)) (first
    | (go_at_call 9; refine (sound_any x _).mono ?_; rintro e w5 ⟨rfl, hb5⟩; rw [HOK.out]; have HD1 := Lib.hid (HD0.out.trans (hb5.mono HD0.out.size)); clear hb5)
    | (go_at_call 10; refine (refSound_any x _).mono ?_; rintro e w6 ⟨rfl, hb6⟩; rw [HOK.out]; have HD2 := Lib.hid (HD1.out.trans (hb6.mono HD1.out.size)); clear hb6))
  have A6 : Hid (w6.heap[W.heap.size]? = some (.cells (nc x).toArray 25 (0, 0))) := (HD2.out.block _ (by omega)).trans A4.out
  have BL6 : Hid (Below w2.heap.size w2 w6) := BL4.out.trans (HD2.out.mono BL4.out.size)
  have hz6 := HD2.out.size
  clear KS HD0 HD1 HD2 hq32 A4 B4 C4 BL4 ZZ3 ZZ4
  go_wp2_with (first | (refine wpList_load_row rfl 25 _ rfl W.heap.size rfl _ _ _ A6.out _ Try.underlying25 rfl s25 ?_) | fail)
  refine (refSound_any x _).mono ?_
  rintro e w7 ⟨rfl, hb7⟩
  rw [HOK.out]
  have BL7 : Hid (Below w2.heap.size w2 w7) := BL6.out.trans (hb7.mono BL6.out.size)
  have hz7 := BL7.out.size
  clear hb7
  go_wp2_with fail
  refine (awake_any _).mono ?_
  rintro e w8 ⟨rfl, hb8⟩
  have HB8 : Hid (Below W.heap.size W w8) := (AB2.out.trans (BL7.out.mono (by omega))).trans (hb8.mono (by omega))
  clear hb8
  go_wp2_with fail
  go_ret
  exact ⟨rfl, HB8.out⟩
set_option maxRecDepth 20000 in
set_option maxHeartbeats 4000000 in
theorem some1 (A : Option Addr) (c i : Nat) (y : Nn) (b : List UInt8) (W : World) (h : F.Bts W W.heap.size A 128 c b) (hi : i < 4) (hok : y.up.ok = true) (hcq : c ≠ 32 * i + 32) : Calls Try.prog 3 #[.slice A 128 c, .int .i64 (i : Nat), .agg (nc y.up).toArray] W fun e w' => e = .returned (.bool true) ∧ Below W.heap.size W w' := by
  have H := Lib.hid h
  have HOK := Lib.hid hok
  have HFI := Lib.hid (Nn.fits hok)
  have hcap := h.cap
  have hlim := h.lim
  have hbl := h.len
  unfold maxLen at hlim
  obtain ⟨bb, off, rfl, hbb, hcell⟩ := h.at_ (by omega)
  clear hcell
  have hi0 : ¬ ((i : Int) < 0) := by omega
  have hi1 : ¬ (3 < (i : Int)) := by omega
  obtain ⟨m, hm⟩ : ∃ m, 32 * i = m := ⟨_, rfl⟩
  obtain ⟨q, hq⟩ : ∃ q, m + 32 = q := ⟨_, rfl⟩
  have hw1 : IntKind.i64.wrap (32 * (i : Int)) = (m : Int) := by rw [IntKind.wrap_i64]; omega
  have hw2 : IntKind.i64.wrap ((m : Int) + 32) = (q : Int) := by rw [IntKind.wrap_i64]; omega
  have b0 : (0 : Int) ≤ (m : Int) := by omega
  have b1 : (m : Int) ≤ (c : Int) := by omega
  have b2 : (q : Int) ≤ 128 := by omega
  have b3 : (0 : Int) ≤ (q : Int) := by omega
  have b4 : ¬ c = q := by omega
  have b5 : m ≤ 128 := by omega
  have HT : Hid (∀ V, Below W.heap.size W V → (convert 22 9 (.slice (some ⟨bb, off + q, none⟩) (128 - q) (c - q))).run Try.prog V = .ok (.string (sb (b.drop q))) V) := fun V hV => by
    have h1 := h.tail (s := q) (by omega)
    rw [if_neg b4] at h1
    have e : Option.map (fun x => x.add q) (some (⟨bb, off, none⟩ : Addr)) = some ⟨bb, off + q, none⟩ := by simp [Addr.add_lit]
    rw [e] at h1
    exact fstr h1 V hV
  have zt : (sb (b.take m)).size = m := by rw [sb_size, List.length_take, hbl]; omega
  have zi : (sb y.img).size = 32 := by rw [sb_size, y.img_len]
  have zd : (sb (b.drop q)).size = 128 - q := by rw [sb_size, List.length_drop, hbl]
  have zz1 : ¬ 9223372036854775807 < m + 32 := by omega
  have zz2 : ¬ 9223372036854775807 < m + 32 + (128 - q) := by omega
  have hls : ((sb (put b i y.img)).toList == (sb (b.take m) ++ sb y.img ++ sb (b.drop q)).toList) = true := by
    rw [sb_app, sb_app, sb_list, decide_eq_true_eq]
    unfold put
    rw [hm, hq]
  clear h hok hbl hm hq
  go_enter Try.func3, Try.ntmps3
  go_upto_region 1 with fail
  obtain ⟨a0, ab, az⟩ := box1 W (Obj.cells (nc y.up).toArray 25)
  generalize W.alloc (Obj.cells (nc y.up).toArray 25) = W1 at *
  have A0 := Lib.hid a0
  have AB := Lib.hid ab
  have AZ := Lib.hid az
  clear a0 ab az
  go_wp2_with (first | (refine wpList_load_row rfl 25 _ rfl W.heap.size rfl _ _ _ A0.out _ Try.underlying25 rfl s25 ?_) | fail)
  refine (put_yes (i := i) y (H.out.below AB.out) (by rw [AZ.out]; omega) hi HOK.out).mono ?_
  rintro e w2 ⟨v, rfl, hm⟩
  have HB2 := Lib.hid hm.bel
  obtain ⟨A2, n2, cap2, rfl, hB2⟩ := hm.holds
  obtain rfl : n2 = 128 := by rw [← hB2.len, put_len H.out.len hi y.img_len]
  have HBT2 := Lib.hid hB2
  clear hm hB2
  have hz2 := HB2.out.size
  rw [AZ.out] at hz2
  have A2 : Hid (w2.heap[W.heap.size]? = some (.cells (nc y.up).toArray 25 (0, 0))) := (HB2.out.block _ (by rw [AZ.out]; omega)).trans A0.out
  have AB2 : Hid (Below W.heap.size W w2) := AB.out.trans (HB2.out.mono (by rw [AZ.out]; omega))
  clear A0 AB AZ HB2 W1
  go_wp2_with (first | (refine wpList_load_row rfl 25 _ rfl W.heap.size rfl _ _ _ A2.out _ Try.underlying25 rfl s25 ?_) | fail)
  refine (stat_any (i : Int) y.up _).mono ?_
  rintro e w3 ⟨rfl, hb3⟩
  have hz3 := hb3.size
  have A3 : Hid ((w3.alloc (Obj.cells (sc (i : Int) y.up.g y.up.k y.up.l y.up.s y.up.c).toArray 32)).heap[W.heap.size]? = some (.cells (nc y.up).toArray 25 (0, 0))) := ((box_below w3 _).block _ (by omega)).trans ((hb3.block _ (by omega)).trans A2.out)
  have B3 : Hid ((w3.alloc (Obj.cells (sc (i : Int) y.up.g y.up.k y.up.l y.up.s y.up.c).toArray 32)).heap[w3.heap.size]? = some (.cells (sc (i : Int) y.up.g y.up.k y.up.l y.up.s y.up.c).toArray 32 (0, 0))) := heap_alloc_new w3 _
  have BL3 : Hid (Below w2.heap.size w2 (w3.alloc (Obj.cells (sc (i : Int) y.up.g y.up.k y.up.l y.up.s y.up.c).toArray 32))) := hb3.trans ((box_below w3 _).mono hb3.size)
  have ZZ3 : Hid ((w3.alloc (Obj.cells (sc (i : Int) y.up.g y.up.k y.up.l y.up.s y.up.c).toArray 32)).heap.size = w3.heap.size + 1) := by show _ = _; simp
  clear hb3 A2
  go_upto_region 3 with (first | (refine wpList_store_new rfl 32 _ _ rfl w3 z6 (sc (i : Int) y.up.g y.up.k y.up.l y.up.s y.up.c).toArray rfl rfl s32 rfl (all_oneCell_toArray (sc_one _ _ _ _ _ _)) ?_) | fail)
  generalize w3.alloc (Obj.cells (sc (i : Int) y.up.g y.up.k y.up.l y.up.s y.up.c).toArray 32) = W3 at *
  obtain ⟨c0, c1, c2, c3, c4⟩ := nd_cells A3.out
  have A4 : Hid ((W3.alloc (Obj.cells (sc (i : Int) y.up.g y.up.k y.up.l y.up.s y.up.c).toArray 32)).heap[W.heap.size]? = some (.cells (nc y.up).toArray 25 (0, 0))) := ((box_below W3 _).block _ (by rw [ZZ3.out]; omega)).trans A3.out
  have B4 : Hid ((W3.alloc (Obj.cells (sc (i : Int) y.up.g y.up.k y.up.l y.up.s y.up.c).toArray 32)).heap[w3.heap.size]? = some (.cells (sc (i : Int) y.up.g y.up.k y.up.l y.up.s y.up.c).toArray 32 (0, 0))) := ((box_below W3 _).block _ (by rw [ZZ3.out]; omega)).trans B3.out
  have C4 : Hid ((W3.alloc (Obj.cells (sc (i : Int) y.up.g y.up.k y.up.l y.up.s y.up.c).toArray 32)).heap[W3.heap.size]? = some (.cells (sc (i : Int) y.up.g y.up.k y.up.l y.up.s y.up.c).toArray 32 (0, 0))) := heap_alloc_new W3 _
  have BL4 : Hid (Below w2.heap.size w2 (W3.alloc (Obj.cells (sc (i : Int) y.up.g y.up.k y.up.l y.up.s y.up.c).toArray 32))) := BL3.out.trans ((box_below W3 _).mono BL3.out.size)
  have ZZ4 : Hid ((W3.alloc (Obj.cells (sc (i : Int) y.up.g y.up.k y.up.l y.up.s y.up.c).toArray 32)).heap.size = W3.heap.size + 1) := by show _ = _; simp
  go_upto_region 4 with (first | (refine wpList_store_new rfl 32 _ _ rfl W3 z6 (sc (i : Int) y.up.g y.up.k y.up.l y.up.s y.up.c).toArray rfl rfl s32 rfl (all_oneCell_toArray (sc_one _ _ _ _ _ _)) ?_) | fail)
  clear c0 c1 c2 c3 c4 A3 B3 BL3
  generalize W3.alloc (Obj.cells (sc (i : Int) y.up.g y.up.k y.up.l y.up.s y.up.c).toArray 32) = W4 at *
  have hz4 : w3.heap.size + 1 ≤ W3.heap.size := Nat.le_of_eq ZZ3.out.symm
  have hz5 : W3.heap.size + 1 ≤ W4.heap.size := Nat.le_of_eq ZZ4.out.symm
  have KS : ∀ V, Hid (Below W4.heap.size W4 V → V.cell? ⟨W.heap.size, 0, none⟩ = some (.int .i64 y.up.k) ∧ V.cell? ⟨W.heap.size, 1, none⟩ = some (.int .i64 y.up.l) ∧ V.cell? ⟨W.heap.size, 2, none⟩ = some (.int .i64 y.up.g) ∧ V.cell? ⟨W.heap.size, 3, none⟩ = some (.int .i64 y.up.s) ∧ V.cell? ⟨W.heap.size, 4, none⟩ = some (.int .i64 y.up.c) ∧ V.cell? ⟨W.heap.size, 5, none⟩ = some (.int .i64 y.up.d0) ∧ V.cell? ⟨W.heap.size, 6, none⟩ = some (.int .i64 y.up.d1) ∧ V.cell? ⟨W.heap.size, 7, none⟩ = some (.int .i64 y.up.d2) ∧ V.cell? ⟨W.heap.size, 8, none⟩ = some (.int .i64 y.up.d3) ∧ V.cell? ⟨W.heap.size, 9, none⟩ = some (.int .i64 y.up.o) ∧ V.cell? ⟨W.heap.size, 10, none⟩ = some (.int .i64 y.up.t) ∧ (V.cell? ⟨w3.heap.size, 0, none⟩ = some (.int .i64 (i : Int)) ∧ V.cell? ⟨w3.heap.size, 1, none⟩ = some (.int .i64 y.up.g) ∧ V.cell? ⟨w3.heap.size, 2, none⟩ = some (.int .i64 y.up.k) ∧ V.cell? ⟨w3.heap.size, 3, none⟩ = some (.int .i64 y.up.l) ∧ V.cell? ⟨w3.heap.size, 4, none⟩ = some (.int .i64 y.up.s) ∧ V.cell? ⟨w3.heap.size, 5, none⟩ = some (.int .i64 y.up.c)) ∧ (V.cell? ⟨W3.heap.size, 0, none⟩ = some (.int .i64 (i : Int)) ∧ V.cell? ⟨W3.heap.size, 1, none⟩ = some (.int .i64 y.up.g) ∧ V.cell? ⟨W3.heap.size, 2, none⟩ = some (.int .i64 y.up.k) ∧ V.cell? ⟨W3.heap.size, 3, none⟩ = some (.int .i64 y.up.l) ∧ V.cell? ⟨W3.heap.size, 4, none⟩ = some (.int .i64 y.up.s) ∧ V.cell? ⟨W3.heap.size, 5, none⟩ = some (.int .i64 y.up.c))) := fun V hV => by
    obtain ⟨x0, x1, x2, x3, x4, x5, x6, x7, x8, x9, x10⟩ := nd11 ((hV.block _ (by omega)).trans A4.out)
    exact ⟨x0, x1, x2, x3, x4, x5, x6, x7, x8, x9, x10, sc6 ((hV.block _ (by omega)).trans B4.out), sc6 ((hV.block _ (by omega)).trans C4.out)⟩
  have HD0 : Hid (Below W4.heap.size W4 W4.drew) := (Below.refl _ _).drew
  have hq32 : ∀ V, (Op.equalIn 10000 32 (.agg #[.int .i64 (i : Int), .int .i64 y.up.g, .int .i64 y.up.k, .int .i64 y.up.l, .int .i64 y.up.s, .int .i64 y.up.c]) (.agg #[.int .i64 (i : Int), .int .i64 y.up.g, .int .i64 y.up.k, .int .i64 y.up.l, .int .i64 y.up.s, .int .i64 y.up.c])).run Try.prog V = .ok true V := eq32 (i : Int) y.up.g y.up.k y.up.l y.up.s y.up.c
  go_region_held3 (fun V => V.cell? ⟨W.heap.size, 0, none⟩ = some (.int .i64 y.up.k) ∧ V.cell? ⟨W.heap.size, 1, none⟩ = some (.int .i64 y.up.l) ∧ V.cell? ⟨W.heap.size, 2, none⟩ = some (.int .i64 y.up.g) ∧ V.cell? ⟨W.heap.size, 3, none⟩ = some (.int .i64 y.up.s) ∧ V.cell? ⟨W.heap.size, 4, none⟩ = some (.int .i64 y.up.c) ∧ V.cell? ⟨W.heap.size, 5, none⟩ = some (.int .i64 y.up.d0) ∧ V.cell? ⟨W.heap.size, 6, none⟩ = some (.int .i64 y.up.d1) ∧ V.cell? ⟨W.heap.size, 7, none⟩ = some (.int .i64 y.up.d2) ∧ V.cell? ⟨W.heap.size, 8, none⟩ = some (.int .i64 y.up.d3) ∧ V.cell? ⟨W.heap.size, 9, none⟩ = some (.int .i64 y.up.o) ∧ V.cell? ⟨W.heap.size, 10, none⟩ = some (.int .i64 y.up.t) ∧ (V.cell? ⟨w3.heap.size, 0, none⟩ = some (.int .i64 (i : Int)) ∧ V.cell? ⟨w3.heap.size, 1, none⟩ = some (.int .i64 y.up.g) ∧ V.cell? ⟨w3.heap.size, 2, none⟩ = some (.int .i64 y.up.k) ∧ V.cell? ⟨w3.heap.size, 3, none⟩ = some (.int .i64 y.up.l) ∧ V.cell? ⟨w3.heap.size, 4, none⟩ = some (.int .i64 y.up.s) ∧ V.cell? ⟨w3.heap.size, 5, none⟩ = some (.int .i64 y.up.c)) ∧ (V.cell? ⟨W3.heap.size, 0, none⟩ = some (.int .i64 (i : Int)) ∧ V.cell? ⟨W3.heap.size, 1, none⟩ = some (.int .i64 y.up.g) ∧ V.cell? ⟨W3.heap.size, 2, none⟩ = some (.int .i64 y.up.k) ∧ V.cell? ⟨W3.heap.size, 3, none⟩ = some (.int .i64 y.up.l) ∧ V.cell? ⟨W3.heap.size, 4, none⟩ = some (.int .i64 y.up.s) ∧ V.cell? ⟨W3.heap.size, 5, none⟩ = some (.int .i64 y.up.c))) (first | (with_reducible exact (KS _).out HD0.out) | (with_reducible exact (KS _).out HD1.out) | (with_reducible exact (KS _).out HD2.out)) (first
    | (go_at_call 9; refine (sound_any y.up _).mono ?_; rintro e w5 ⟨rfl, hb5⟩; rw [HOK.out]; have HD1 := Lib.hid (HD0.out.trans (hb5.mono HD0.out.size)); clear hb5)
    | (go_at_call 10; refine (refSound_any y.up _).mono ?_; rintro e w6 ⟨rfl, hb6⟩; rw [HOK.out]; have HD2 := Lib.hid (HD1.out.trans (hb6.mono HD1.out.size)); clear hb6))
  have A6 : Hid (w6.heap[W.heap.size]? = some (.cells (nc y.up).toArray 25 (0, 0))) := (HD2.out.block _ (by omega)).trans A4.out
  have BL6 : Hid (Below w2.heap.size w2 w6) := BL4.out.trans (HD2.out.mono BL4.out.size)
  have hz6 := HD2.out.size
  clear KS HD0 HD1 HD2 hq32 A4 B4 C4 BL4 ZZ3 ZZ4
  go_wp2_with (first | (refine wpList_load_row rfl 25 _ rfl W.heap.size rfl _ _ _ A6.out _ Try.underlying25 rfl s25 ?_) | fail)
  refine (refSound_any y.up _).mono ?_
  rintro e w7 ⟨rfl, hb7⟩
  rw [HOK.out]
  have hz7 := hb7.size
  have A7 : Hid (w7.heap[W.heap.size]? = some (.cells (nc y.up).toArray 25 (0, 0))) := (hb7.block _ (by omega)).trans A6.out
  have BL7 : Hid (Below w2.heap.size w2 w7) := BL6.out.trans (hb7.mono BL6.out.size)
  have HBT7 : Hid (F.Bts w7 w2.heap.size A2 128 cap2 (put b i y.img)) := HBT2.out.below BL7.out
  obtain ⟨hr, hg⟩ := get_put (y := y) H.out.len hi HOK.out
  have HR := Lib.hid hr
  have HG := Lib.hid hg
  clear hb7 A6 BL6 hr hg
  go_wp2_with fail
  refine (get_any HBT7.out BL7.out.size hi).mono ?_
  rintro e w8 ⟨rfl, hb8⟩
  rw [HR.out, HG.out]
  simp only [if_true]
  have hz8 := hb8.size
  have A8 : Hid ((w8.alloc (Obj.cells (nc y.up).toArray 25)).heap[W.heap.size]? = some (.cells (nc y.up).toArray 25 (0, 0))) := ((box_below w8 _).block _ (by omega)).trans ((hb8.block _ (by omega)).trans A7.out)
  have B8 : Hid ((w8.alloc (Obj.cells (nc y.up).toArray 25)).heap[w8.heap.size]? = some (.cells (nc y.up).toArray 25 (0, 0))) := heap_alloc_new w8 _
  have BL8 : Hid (Below w2.heap.size w2 (w8.alloc (Obj.cells (nc y.up).toArray 25))) := (BL7.out.trans (hb8.mono BL7.out.size)).trans ((box_below w8 _).mono (by omega))
  have ZZ8 : Hid ((w8.alloc (Obj.cells (nc y.up).toArray 25)).heap.size = w8.heap.size + 1) := by show _ = _; simp
  clear hb8 A7 BL7 HBT7 HR HG
  go_upto_region 11 with (first | (refine wpList_store_new rfl 25 _ _ rfl w8 z11 (nc y.up).toArray rfl rfl s25 rfl (all_oneCell_toArray (nc_one _)) ?_) | fail)
  generalize w8.alloc (Obj.cells (nc y.up).toArray 25) = W8 at *
  have hz9 : w8.heap.size + 1 ≤ W8.heap.size := Nat.le_of_eq ZZ8.out.symm
  have BW8 : Hid (Below W.heap.size W W8) := AB2.out.trans (BL8.out.mono (by omega))
  have KS : ∀ V, Hid (Below W8.heap.size W8 V → V.cell? ⟨W.heap.size, 0, none⟩ = some (.int .i64 y.up.k) ∧ V.cell? ⟨W.heap.size, 1, none⟩ = some (.int .i64 y.up.l) ∧ V.cell? ⟨W.heap.size, 2, none⟩ = some (.int .i64 y.up.g) ∧ V.cell? ⟨W.heap.size, 3, none⟩ = some (.int .i64 y.up.s) ∧ V.cell? ⟨W.heap.size, 4, none⟩ = some (.int .i64 y.up.c) ∧ V.cell? ⟨W.heap.size, 5, none⟩ = some (.int .i64 y.up.d0) ∧ V.cell? ⟨W.heap.size, 6, none⟩ = some (.int .i64 y.up.d1) ∧ V.cell? ⟨W.heap.size, 7, none⟩ = some (.int .i64 y.up.d2) ∧ V.cell? ⟨W.heap.size, 8, none⟩ = some (.int .i64 y.up.d3) ∧ V.cell? ⟨W.heap.size, 9, none⟩ = some (.int .i64 y.up.o) ∧ V.cell? ⟨W.heap.size, 10, none⟩ = some (.int .i64 y.up.t) ∧ (V.cell? ⟨w8.heap.size, 0, none⟩ = some (.int .i64 y.up.k) ∧ V.cell? ⟨w8.heap.size, 1, none⟩ = some (.int .i64 y.up.l) ∧ V.cell? ⟨w8.heap.size, 2, none⟩ = some (.int .i64 y.up.g) ∧ V.cell? ⟨w8.heap.size, 3, none⟩ = some (.int .i64 y.up.s) ∧ V.cell? ⟨w8.heap.size, 4, none⟩ = some (.int .i64 y.up.c) ∧ V.cell? ⟨w8.heap.size, 5, none⟩ = some (.int .i64 y.up.d0) ∧ V.cell? ⟨w8.heap.size, 6, none⟩ = some (.int .i64 y.up.d1) ∧ V.cell? ⟨w8.heap.size, 7, none⟩ = some (.int .i64 y.up.d2) ∧ V.cell? ⟨w8.heap.size, 8, none⟩ = some (.int .i64 y.up.d3) ∧ V.cell? ⟨w8.heap.size, 9, none⟩ = some (.int .i64 y.up.o) ∧ V.cell? ⟨w8.heap.size, 10, none⟩ = some (.int .i64 y.up.t)) ∧ (convert 22 9 (.slice A2 128 cap2)).run Try.prog V = .ok (.string (sb (put b i y.img))) V ∧ (convert 22 9 (.slice (some ⟨bb, off, none⟩) m c)).run Try.prog V = .ok (.string (sb (b.take m))) V ∧ (convert 22 9 (.slice (some ⟨bb, off + q, none⟩) (128 - q) (c - q))).run Try.prog V = .ok (.string (sb (b.drop q))) V) := fun V hV => by
    obtain ⟨x0, x1, x2, x3, x4, x5, x6, x7, x8, x9, x10⟩ := nd11 ((hV.block _ (by omega)).trans A8.out)
    have hVW : Below W.heap.size W V := BW8.out.trans (hV.mono (by omega))
    exact ⟨x0, x1, x2, x3, x4, x5, x6, x7, x8, x9, x10, nd11 ((hV.block _ (by omega)).trans B8.out), fstr HBT2.out V (BL8.out.trans (hV.mono (by omega))), fstr (H.out.head (by omega)) V hVW, (HT.out V hVW)⟩
  have HD0 : Hid (Below W8.heap.size W8 W8.drew) := (Below.refl _ _).drew
  have hq25 : ∀ V, (Op.equalIn 10000 25 (.agg #[.int .i64 y.up.k, .int .i64 y.up.l, .int .i64 y.up.g, .int .i64 y.up.s, .int .i64 y.up.c, .int .i64 y.up.d0, .int .i64 y.up.d1, .int .i64 y.up.d2, .int .i64 y.up.d3, .int .i64 y.up.o, .int .i64 y.up.t]) (.agg #[.int .i64 y.up.k, .int .i64 y.up.l, .int .i64 y.up.g, .int .i64 y.up.s, .int .i64 y.up.c, .int .i64 y.up.d0, .int .i64 y.up.d1, .int .i64 y.up.d2, .int .i64 y.up.d3, .int .i64 y.up.o, .int .i64 y.up.t])).run Try.prog V = .ok true V := fun V => by
    have h := eq25 y.up y.up V
    rw [decide_eq_true rfl] at h
    exact h
  go_region_held3 (fun V => V.cell? ⟨W.heap.size, 0, none⟩ = some (.int .i64 y.up.k) ∧ V.cell? ⟨W.heap.size, 1, none⟩ = some (.int .i64 y.up.l) ∧ V.cell? ⟨W.heap.size, 2, none⟩ = some (.int .i64 y.up.g) ∧ V.cell? ⟨W.heap.size, 3, none⟩ = some (.int .i64 y.up.s) ∧ V.cell? ⟨W.heap.size, 4, none⟩ = some (.int .i64 y.up.c) ∧ V.cell? ⟨W.heap.size, 5, none⟩ = some (.int .i64 y.up.d0) ∧ V.cell? ⟨W.heap.size, 6, none⟩ = some (.int .i64 y.up.d1) ∧ V.cell? ⟨W.heap.size, 7, none⟩ = some (.int .i64 y.up.d2) ∧ V.cell? ⟨W.heap.size, 8, none⟩ = some (.int .i64 y.up.d3) ∧ V.cell? ⟨W.heap.size, 9, none⟩ = some (.int .i64 y.up.o) ∧ V.cell? ⟨W.heap.size, 10, none⟩ = some (.int .i64 y.up.t) ∧ (V.cell? ⟨w8.heap.size, 0, none⟩ = some (.int .i64 y.up.k) ∧ V.cell? ⟨w8.heap.size, 1, none⟩ = some (.int .i64 y.up.l) ∧ V.cell? ⟨w8.heap.size, 2, none⟩ = some (.int .i64 y.up.g) ∧ V.cell? ⟨w8.heap.size, 3, none⟩ = some (.int .i64 y.up.s) ∧ V.cell? ⟨w8.heap.size, 4, none⟩ = some (.int .i64 y.up.c) ∧ V.cell? ⟨w8.heap.size, 5, none⟩ = some (.int .i64 y.up.d0) ∧ V.cell? ⟨w8.heap.size, 6, none⟩ = some (.int .i64 y.up.d1) ∧ V.cell? ⟨w8.heap.size, 7, none⟩ = some (.int .i64 y.up.d2) ∧ V.cell? ⟨w8.heap.size, 8, none⟩ = some (.int .i64 y.up.d3) ∧ V.cell? ⟨w8.heap.size, 9, none⟩ = some (.int .i64 y.up.o) ∧ V.cell? ⟨w8.heap.size, 10, none⟩ = some (.int .i64 y.up.t)) ∧ (convert 22 9 (.slice A2 128 cap2)).run Try.prog V = .ok (.string (sb (put b i y.img))) V ∧ (convert 22 9 (.slice (some ⟨bb, off, none⟩) m c)).run Try.prog V = .ok (.string (sb (b.take m))) V ∧ (convert 22 9 (.slice (some ⟨bb, off + q, none⟩) (128 - q) (c - q))).run Try.prog V = .ok (.string (sb (b.drop q))) V) (first | (with_reducible exact (KS _).out HD0.out) | (with_reducible exact (KS _).out HD1.out) | (with_reducible exact (KS _).out HD2.out)) (first
    | (go_at_call 11; refine (awake_any _).mono ?_; rintro e w9 ⟨rfl, hb9⟩; have HD1 := Lib.hid (HD0.out.trans (hb9.mono HD0.out.size)); clear hb9)
    | (go_at_call 13; refine (refEnc_any y _ HFI.out).mono ?_; rintro e w10 ⟨rfl, hb10⟩; have HD2 := Lib.hid (HD1.out.trans (hb10.mono HD1.out.size)); clear hb10))
  go_wp2_with fail
  go_ret
  exact ⟨rfl, BW8.out.trans (HD2.out.mono (by omega))⟩
end Go.Proofs.Ytijphembfohfnaa.nodePuts
