/- copyholdlaw10.NodeGets, walked. -/
import Derived.Test.YtijphembfohfnaaAwake
namespace Go.Proofs.Ytijphembfohfnaa.nodeGets
open Go.RowKit
set_option linter.unusedVariables false
theorem zz25 (w : World) : (Op.equalIn 10000 25 (.agg (nc zeroN.up).toArray) (.agg #[.int .i64 0, .int .i64 0, .int .i64 0, .int .i64 0, .int .i64 0, .int .i64 0, .int .i64 0, .int .i64 0, .int .i64 0, .int .i64 0, .int .i64 0])).run Try.prog w = .ok true w := by
  have h := eq25 zeroN.up zeroN.up w
  rw [decide_eq_true rfl] at h
  exact h
set_option maxRecDepth 20000 in
set_option maxHeartbeats 2000000 in
theorem wrong (A : Option Addr) (n c : Nat) (i : Int) (W : World) (h : ¬ (n = 128 ∧ 0 ≤ i ∧ i < 4)) : Calls Try.prog 4 #[.slice A n c, .int .i64 i] W fun e w' => e = .returned (.bool true) ∧ Below W.heap.size W w' := by
  by_cases hn : n = 128
  · by_cases h0 : i < 0
    · subst hn
      go_enter Try.func4, Try.ntmps4
      go_wp2_with fail
      refine (get_arg A 128 c i _ (by omega)).mono ?_
      rintro e w1 ⟨rfl, hb1⟩
      have C0 : Hid ((w1.alloc (Obj.cells (nc zeroN.up).toArray 25)).heap[w1.heap.size]? = some (.cells (nc zeroN.up).toArray 25 (0, 0))) := heap_alloc_new w1 _
      have CB : Hid (Below W.heap.size W (w1.alloc (Obj.cells (nc zeroN.up).toArray 25))) := hb1.trans ((box_below w1 _).mono hb1.size)
      have CZ : Hid ((w1.alloc (Obj.cells (nc zeroN.up).toArray 25)).heap.size = w1.heap.size + 1) := by show _ = _; simp
      clear hb1
      go_upto_region 2 with (first | (refine wpList_store_new rfl 25 _ _ rfl w1 z11 (nc zeroN.up).toArray rfl rfl s25 rfl (all_oneCell_toArray (nc_one _)) ?_) | fail)
      generalize w1.alloc (Obj.cells (nc zeroN.up).toArray 25) = W1 at *
      go_wp2_with fail
      refine (awake_any _).mono ?_
      rintro e w2 ⟨rfl, hb2⟩
      have D0 : Hid (w2.heap[w1.heap.size]? = some (.cells (nc zeroN.up).toArray 25 (0, 0))) := (hb2.block _ (by rw [CZ.out]; omega)).trans C0.out
      have DB : Hid (Below W.heap.size W w2) := CB.out.trans (hb2.mono CB.out.size)
      clear hb2 C0 CB CZ
      have hq := zz25
      go_wp2_with (first | (refine wpList_load_row rfl 25 _ rfl w1.heap.size rfl _ _ _ D0.out _ Try.underlying25 rfl s25 ?_) | fail)
      go_ret
      exact ⟨rfl, DB.out⟩
    · have h1 : 3 < i := by omega
      clear h
      subst hn
      go_enter Try.func4, Try.ntmps4
      go_wp2_with fail
      refine (get_arg A 128 c i _ (by omega)).mono ?_
      rintro e w1 ⟨rfl, hb1⟩
      have C0 : Hid ((w1.alloc (Obj.cells (nc zeroN.up).toArray 25)).heap[w1.heap.size]? = some (.cells (nc zeroN.up).toArray 25 (0, 0))) := heap_alloc_new w1 _
      have CB : Hid (Below W.heap.size W (w1.alloc (Obj.cells (nc zeroN.up).toArray 25))) := hb1.trans ((box_below w1 _).mono hb1.size)
      have CZ : Hid ((w1.alloc (Obj.cells (nc zeroN.up).toArray 25)).heap.size = w1.heap.size + 1) := by show _ = _; simp
      clear hb1
      go_upto_region 2 with (first | (refine wpList_store_new rfl 25 _ _ rfl w1 z11 (nc zeroN.up).toArray rfl rfl s25 rfl (all_oneCell_toArray (nc_one _)) ?_) | fail)
      generalize w1.alloc (Obj.cells (nc zeroN.up).toArray 25) = W1 at *
      go_wp2_with fail
      refine (awake_any _).mono ?_
      rintro e w2 ⟨rfl, hb2⟩
      have D0 : Hid (w2.heap[w1.heap.size]? = some (.cells (nc zeroN.up).toArray 25 (0, 0))) := (hb2.block _ (by rw [CZ.out]; omega)).trans C0.out
      have DB : Hid (Below W.heap.size W w2) := CB.out.trans (hb2.mono CB.out.size)
      clear hb2 C0 CB CZ
      have hq := zz25
      go_wp2_with (first | (refine wpList_load_row rfl 25 _ rfl w1.heap.size rfl _ _ _ D0.out _ Try.underlying25 rfl s25 ?_) | fail)
      go_ret
      exact ⟨rfl, DB.out⟩
  · have hn' : ((n : Int) != 128) = true := by rw [bne_iff_ne]; omega
    clear h
    go_enter Try.func4, Try.ntmps4
    go_wp2_with fail
    refine (get_arg A n c i _ (by omega)).mono ?_
    rintro e w1 ⟨rfl, hb1⟩
    have C0 : Hid ((w1.alloc (Obj.cells (nc zeroN.up).toArray 25)).heap[w1.heap.size]? = some (.cells (nc zeroN.up).toArray 25 (0, 0))) := heap_alloc_new w1 _
    have CB : Hid (Below W.heap.size W (w1.alloc (Obj.cells (nc zeroN.up).toArray 25))) := hb1.trans ((box_below w1 _).mono hb1.size)
    have CZ : Hid ((w1.alloc (Obj.cells (nc zeroN.up).toArray 25)).heap.size = w1.heap.size + 1) := by show _ = _; simp
    clear hb1
    go_upto_region 2 with (first | (refine wpList_store_new rfl 25 _ _ rfl w1 z11 (nc zeroN.up).toArray rfl rfl s25 rfl (all_oneCell_toArray (nc_one _)) ?_) | fail)
    generalize w1.alloc (Obj.cells (nc zeroN.up).toArray 25) = W1 at *
    go_wp2_with fail
    refine (awake_any _).mono ?_
    rintro e w2 ⟨rfl, hb2⟩
    have D0 : Hid (w2.heap[w1.heap.size]? = some (.cells (nc zeroN.up).toArray 25 (0, 0))) := (hb2.block _ (by rw [CZ.out]; omega)).trans C0.out
    have DB : Hid (Below W.heap.size W w2) := CB.out.trans (hb2.mono CB.out.size)
    clear hb2 C0 CB CZ
    have hq := zz25
    go_wp2_with (first | (refine wpList_load_row rfl 25 _ rfl w1.heap.size rfl _ _ _ D0.out _ Try.underlying25 rfl s25 ?_) | fail)
    go_ret
    exact ⟨rfl, DB.out⟩
theorem str_piece {w W : World} {bb off B c i m : Nat} {b : List UInt8} (h : F.Bts w B (some ⟨bb, off, none⟩) 128 c b) (hW : Below B w W) (hi : i < 4) (hm : 32 * i = m) : (convert 22 9 (.slice (some ⟨bb, off + m, none⟩) 32 (c - m))).run Try.prog W = .ok (.string (sb (piece b i))) W := by
  have h1 := h.tail (s := m) (by omega)
  rw [if_neg (by have := h.cap; omega)] at h1
  have e : Option.map (fun x => x.add m) (some (⟨bb, off, none⟩ : Addr)) = some ⟨bb, off + m, none⟩ := by simp [Addr.add_lit]
  rw [e] at h1
  have h2 := h1.head (s := 32) (by omega)
  subst hm
  exact fstr h2 W hW
set_option maxRecDepth 20000 in
set_option maxHeartbeats 2000000 in
theorem none_ {W : World} {c i : Nat} {A : Option Addr} {b : List UInt8} (h : F.Bts W W.heap.size A 128 c b) (hi : i < 4) (hg : good (piece b i) = false) : Calls Try.prog 4 #[.slice A 128 c, .int .i64 i] W fun e w' => e = .returned (.bool true) ∧ Below W.heap.size W w' := by
  have H := Lib.hid h
  have HG := Lib.hid hg
  clear h hg
  have hi0 : ¬ ((i : Int) < 0) := by omega
  have hi1 : ¬ (3 < (i : Int)) := by omega
  go_enter Try.func4, Try.ntmps4
  go_wp2_with fail
  refine (get_any H.out (Nat.le_refl _) hi).mono ?_
  rintro e w1 ⟨rfl, hb1⟩
  rw [HG.out]
  have C0 : Hid ((w1.alloc (Obj.cells (nc zeroN.up).toArray 25)).heap[w1.heap.size]? = some (.cells (nc zeroN.up).toArray 25 (0, 0))) := heap_alloc_new w1 _
  have CB : Hid (Below W.heap.size W (w1.alloc (Obj.cells (nc zeroN.up).toArray 25))) := hb1.trans ((box_below w1 _).mono hb1.size)
  have CZ : Hid ((w1.alloc (Obj.cells (nc zeroN.up).toArray 25)).heap.size = w1.heap.size + 1) := by show _ = _; simp
  clear hb1
  simp only [Bool.false_eq_true, if_false]
  go_upto_region 2 with (first | (refine wpList_store_new rfl 25 _ _ rfl w1 z11 (nc zeroN.up).toArray rfl rfl s25 rfl (all_oneCell_toArray (nc_one _)) ?_) | fail)
  generalize w1.alloc (Obj.cells (nc zeroN.up).toArray 25) = W1 at *
  go_wp2_with fail
  refine (awake_any _).mono ?_
  rintro e w2 ⟨rfl, hb2⟩
  have D0 : Hid (w2.heap[w1.heap.size]? = some (.cells (nc zeroN.up).toArray 25 (0, 0))) := (hb2.block _ (by rw [CZ.out]; omega)).trans C0.out
  have DB : Hid (Below W.heap.size W w2) := CB.out.trans (hb2.mono CB.out.size)
  clear hb2 C0 CB CZ
  have hq := zz25
  go_wp2_with (first | (refine wpList_load_row rfl 25 _ rfl w1.heap.size rfl _ _ _ D0.out _ Try.underlying25 rfl s25 ?_) | fail)
  go_ret
  exact ⟨rfl, DB.out⟩
set_option maxRecDepth 20000 in
set_option maxHeartbeats 2000000 in
theorem some_ {W : World} {c i : Nat} {A : Option Addr} {b : List UInt8} (h : F.Bts W W.heap.size A 128 c b) (hi : i < 4) (hg : good (piece b i) = true) : Calls Try.prog 4 #[.slice A 128 c, .int .i64 i] W fun e w' => e = .returned (.bool true) ∧ Below W.heap.size W w' := by
  have H := Lib.hid h
  have HG := Lib.hid hg
  have hcap := h.cap
  have hlim := h.lim
  unfold maxLen at hlim
  obtain ⟨bb, off, rfl, hbb, hcell⟩ := h.at_ (by omega)
  have hgg := hg
  simp only [good, Bool.and_eq_true, decide_eq_true_eq] at hgg
  have HOK := Lib.hid hgg.1
  have HIM := Lib.hid hgg.2
  clear h hg hgg hcell
  have hi0 : ¬ ((i : Int) < 0) := by omega
  have hi1 : ¬ (3 < (i : Int)) := by omega
  obtain ⟨m, hm⟩ : ∃ m, 32 * i = m := ⟨_, rfl⟩
  obtain ⟨q, hq⟩ : ∃ q, m + 32 = q := ⟨_, rfl⟩
  have hw1 : IntKind.i64.wrap (32 * (i : Int)) = (m : Int) := by rw [IntKind.wrap_i64]; omega
  have hw2 : IntKind.i64.wrap ((m : Int) + 32) = (q : Int) := by rw [IntKind.wrap_i64]; omega
  have b0 : (0 : Int) ≤ (m : Int) := by omega
  have b1 : (m : Int) ≤ (q : Int) := by omega
  have b2 : (q : Int) ≤ (c : Int) := by omega
  have b3 : q - m = 32 := by omega
  have b4 : ¬ c = m := by omega
  have b5 : (0 : Int) ≤ (q : Int) := by omega
  have HCV : Hid (∀ V, Below W.heap.size W V → (convert 22 9 (.slice (some ⟨bb, off + m, none⟩) 32 (c - m))).run Try.prog V = .ok (.string (sb (piece b i))) V) := fun V hV => str_piece H.out hV hi hm
  clear hq hm
  go_enter Try.func4, Try.ntmps4
  go_wp2_with fail
  refine (get_any H.out (Nat.le_refl _) hi).mono ?_
  rintro e w1 ⟨rfl, hb1⟩
  rw [HG.out]
  obtain ⟨p, hp⟩ : ∃ p, piece b i = p := ⟨_, rfl⟩
  rw [hp] at HOK HIM HCV ⊢
  obtain ⟨y, hy⟩ : ∃ y, rd p = y := ⟨_, rfl⟩
  rw [hy] at HOK HIM ⊢
  clear hp HG H
  have C0 : Hid ((w1.alloc (Obj.cells (nc y.up).toArray 25)).heap[w1.heap.size]? = some (.cells (nc y.up).toArray 25 (0, 0))) := heap_alloc_new w1 _
  have CB : Hid (Below W.heap.size W (w1.alloc (Obj.cells (nc y.up).toArray 25))) := hb1.trans ((box_below w1 _).mono hb1.size)
  have CZ : Hid ((w1.alloc (Obj.cells (nc y.up).toArray 25)).heap.size = w1.heap.size + 1) := by show _ = _; simp
  have hz1 := hb1.size
  clear hb1 hy
  simp only [if_true]
  go_upto_region 2 with (first | (refine wpList_store_new rfl 25 _ _ rfl w1 z11 (nc y.up).toArray rfl rfl s25 rfl (all_oneCell_toArray (nc_one _)) ?_) | fail)
  generalize w1.alloc (Obj.cells (nc y.up).toArray 25) = W1 at *
  have hlt : w1.heap.size < W1.heap.size := by rw [CZ.out]; omega
  have KS : ∀ V, Hid (Below W1.heap.size W1 V → (V.cell? ⟨w1.heap.size, 0, none⟩ = some (.int .i64 y.up.k) ∧ V.cell? ⟨w1.heap.size, 1, none⟩ = some (.int .i64 y.up.l) ∧ V.cell? ⟨w1.heap.size, 2, none⟩ = some (.int .i64 y.up.g) ∧ V.cell? ⟨w1.heap.size, 3, none⟩ = some (.int .i64 y.up.s) ∧ V.cell? ⟨w1.heap.size, 4, none⟩ = some (.int .i64 y.up.c) ∧ V.cell? ⟨w1.heap.size, 5, none⟩ = some (.int .i64 y.up.d0) ∧ V.cell? ⟨w1.heap.size, 6, none⟩ = some (.int .i64 y.up.d1) ∧ V.cell? ⟨w1.heap.size, 7, none⟩ = some (.int .i64 y.up.d2) ∧ V.cell? ⟨w1.heap.size, 8, none⟩ = some (.int .i64 y.up.d3) ∧ V.cell? ⟨w1.heap.size, 9, none⟩ = some (.int .i64 y.up.o) ∧ V.cell? ⟨w1.heap.size, 10, none⟩ = some (.int .i64 y.up.t)) ∧ (convert 22 9 (.slice (some ⟨bb, off + m, none⟩) 32 (c - m))).run Try.prog V = .ok (.string (sb p)) V) := fun V hV => ⟨nd11 ((hV.block _ hlt).trans C0.out), HCV.out V (CB.out.trans (hV.mono CB.out.size))⟩
  have HB0 : Hid (Below W1.heap.size W1 W1.drew) := (Below.refl _ _).drew
  have HFI := Lib.hid (Nn.fits HOK.out)
  have hls : ((sb y.img).toList == (sb p).toList) = true := by rw [sb_list, HIM.out]; simp
  go_upto_region 6 with fail
  go_region_held3 (fun V => (V.cell? ⟨w1.heap.size, 0, none⟩ = some (.int .i64 y.up.k) ∧ V.cell? ⟨w1.heap.size, 1, none⟩ = some (.int .i64 y.up.l) ∧ V.cell? ⟨w1.heap.size, 2, none⟩ = some (.int .i64 y.up.g) ∧ V.cell? ⟨w1.heap.size, 3, none⟩ = some (.int .i64 y.up.s) ∧ V.cell? ⟨w1.heap.size, 4, none⟩ = some (.int .i64 y.up.c) ∧ V.cell? ⟨w1.heap.size, 5, none⟩ = some (.int .i64 y.up.d0) ∧ V.cell? ⟨w1.heap.size, 6, none⟩ = some (.int .i64 y.up.d1) ∧ V.cell? ⟨w1.heap.size, 7, none⟩ = some (.int .i64 y.up.d2) ∧ V.cell? ⟨w1.heap.size, 8, none⟩ = some (.int .i64 y.up.d3) ∧ V.cell? ⟨w1.heap.size, 9, none⟩ = some (.int .i64 y.up.o) ∧ V.cell? ⟨w1.heap.size, 10, none⟩ = some (.int .i64 y.up.t)) ∧ (convert 22 9 (.slice (some ⟨bb, off + m, none⟩) 32 (c - m))).run Try.prog V = .ok (.string (sb p)) V) (first | (with_reducible exact (KS _).out HB0.out) | (with_reducible exact (KS _).out HB2.out) | (with_reducible exact (KS _).out HB3.out) | (with_reducible exact (KS _).out HB4.out)) (first
    | (go_at_call 11; refine (awake_any _).mono ?_; rintro e w2 ⟨rfl, hb2⟩; have HB2 := Lib.hid (HB0.out.trans (hb2.mono HB0.out.size)); clear hb2)
    | (go_at_call 10; refine (refSound_any y.up _).mono ?_; rintro e w3 ⟨rfl, hb3⟩; rw [HOK.out]; have HB3 := Lib.hid (HB2.out.trans (hb3.mono HB2.out.size)); clear hb3)
    | (go_at_call 13; refine (refEnc_any y _ HFI.out).mono ?_; rintro e w4 ⟨rfl, hb4⟩; have HB4 := Lib.hid (HB3.out.trans (hb4.mono HB3.out.size)); clear hb4))
  go_wp2_with fail
  go_ret
  exact ⟨rfl, CB.out.trans (HB4.out.mono CB.out.size)⟩
theorem walk (W : World) (A : Option Addr) (n c : Nat) (l : List UInt8) (h : F.Bts W W.heap.size A n c l) (i : Int) : Calls Try.prog 4 #[.slice A n c, .int .i64 i] W fun e w' => e = .returned (.bool true) ∧ Below W.heap.size W w' := by
  by_cases hr : n = 128 ∧ 0 ≤ i ∧ i < 4
  · obtain ⟨rfl, h0, h1⟩ := hr
    obtain ⟨j, rfl⟩ := Int.eq_ofNat_of_zero_le h0
    have hj : j < 4 := by omega
    cases hg : good (piece l j) with
    | false => exact none_ h hj hg
    | true => exact some_ h hj hg
  · exact wrong A n c i W hr
end Go.Proofs.Ytijphembfohfnaa.nodeGets
