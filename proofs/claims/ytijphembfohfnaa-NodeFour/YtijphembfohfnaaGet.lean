/- node.Get, walked. -/
import Derived.Test.YtijphembfohfnaaRdB
import Derived.Test.YtijphembfohfnaaEq
namespace Go.Proofs.Ytijphembfohfnaa
open Go.RowKit
set_option linter.unusedVariables false
/-- What Get tells, r: of a node or not. -/
def GetP (w : World) (y : Nn) (r : Bool) (e : Ending) (w' : World) : Prop :=
  e = .returned (.tuple #[.agg (nc (if r then y else zeroN).up).toArray, .int .i64 (if r then 0 else 2)]) ∧ Below w.heap.size w w'
theorem piece_in {w W : World} {bb off B c i : Nat} {b : List UInt8} (h : F.Bts w B (some ⟨bb, off, none⟩) 128 c b) (hW : Below B w W) (hi : i < 4) : ∀ j v, ((piece b i).map F.bv)[j]? = some v → W.cell? ((⟨bb, off + 32 * i, none⟩ : Addr).add j) = some v := by
  intro j v hv
  have hj : j < 32 := by
    have := (List.getElem?_eq_some_iff.1 hv).1
    simpa [piece_len h.len hi] using this
  obtain ⟨b2, o2, e2, hb2, hc⟩ := h.at_ (by omega)
  cases e2
  have hl := h.len
  rw [Addr.add_mid, hW.cell hb2, Nat.add_assoc, hc (32 * i + j) (by omega), ← hv]
  have hj2 : 32 * i + j < b.length := by omega
  simp [piece, hj, hj2, F.bv]
theorem splice_all {L cs : List Value} (h : cs.length = L.length) : splice L 0 cs = cs := by
  unfold splice
  rw [Nat.zero_add, h, List.drop_length]
  simp
theorem get_arg (A : Option Addr) (n c : Nat) (i : Int) (w : World) (h : ¬ (n = 128 ∧ 0 ≤ i ∧ i < 4)) : Calls Try.prog 12 #[.slice A n c, .int .i64 i] w fun e w' => e = .returned (.tuple #[.agg (nc zeroN.up).toArray, .int .i64 1]) ∧ Below w.heap.size w w' := by
  have H := Lib.hid h
  clear h
  obtain ⟨a0, ab, az⟩ := box1 w (Obj.cells z11 25)
  have A0 := Lib.hid a0
  have AB := Lib.hid ab
  clear a0 ab az
  go_enter Try.func12, Try.ntmps12
  go_wp2_with fail
  refine (has_no A n c i _ H.out).mono ?_
  rintro e w1 ⟨rfl, rfl⟩
  go_wp2_with (first | (refine wpList_store_row rfl 25 _ _ rfl w.heap.size z11 z11 25 rfl rfl A0.out s25 rfl (all_oneCell_toArray (nc_one zeroN.up)) ?_) | fail)
  refine bodyPost_ret (ret_row2 rfl rfl (setRow_in _ _ _ _ _ A0.out) Try.underlying25 rfl s25) rfl ?_
  exact ⟨rfl, below_setRow AB.out (Nat.le_refl _) _⟩
set_option maxRecDepth 20000 in
set_option maxHeartbeats 4000000 in
theorem get_any {w : World} {B c i : Nat} {A : Option Addr} {b : List UInt8} (h : F.Bts w B A 128 c b) (hB : B ≤ w.heap.size) (hi : i < 4) : Calls Try.prog 12 #[.slice A 128 c, .int .i64 i] w (GetP w (rd (piece b i)) (good (piece b i))) := by
  have H := Lib.hid (h.more hB)
  have HL : Hid ((piece b i).length = 32) := piece_len h.len hi
  have hcap := h.cap
  have hlim := h.lim
  unfold maxLen at hlim
  obtain ⟨bb, off, rfl, hbb, hcell⟩ := h.at_ (by omega)
  have HC := Lib.hid hcell
  clear hcell h
  go_enter Try.func12, Try.ntmps12
  go_wp2_with fail
  refine (has_yes _ 128 c i _ rfl (by omega) (by omega)).mono ?_
  rintro e w1 ⟨rfl, rfl⟩
  go_upto_region 4 with fail
  obtain ⟨a0, a1, ab, az⟩ := box2 w (Obj.cells z11 25) (Obj.cells z32 44)
  generalize (w.alloc (Obj.cells z11 25)).alloc (Obj.cells z32 44) = W at *
  obtain ⟨m, hm⟩ : ∃ m, 32 * i = m := ⟨_, rfl⟩
  have hm96 : m ≤ 96 := by omega
  have hmul : (i : Int) * 32 = (m : Int) := by omega
  have hw : IntKind.i64.wrap ((i : Int) * 32) = (m : Int) := by rw [IntKind.wrap_i64]; omega
  have hm0 : (0 : Int) ≤ (m : Int) := by omega
  have hm1 : (m : Int) ≤ 128 := by omega
  have hm2 : (m : Int) ≤ (c : Int) := by omega
  have hm3 : ¬ c = m := by omega
  obtain ⟨W2, hr, hg2, hgr, hz2⟩ := copy_run (w := W.drew) (ty := 3) (dLen := 32) (dCap := 32) (sLen := 128 - m) (sCap := c - m) Try.underlying22 s5 (L := z32.toList) (off := 0) a1 (ad := ⟨bb, off + m, none⟩) (cs := (piece b i).map F.bv) (by rw [List.length_map, HL.out]; show 32 = min (128 - m) 32; omega) (by rw [← hm]; exact piece_in H.out ab.drew hi) (by rw [List.length_map, HL.out]; decide) (bv_one _)
  rw [splice_all (by rw [List.length_map, HL.out]; rfl)] at hg2
  have E0 : Hid (W2.heap[w.heap.size]? = some (.cells z11 25 (0, 0))) := (hgr.block _ (by show _ < W.heap.size; omega) (by simp)).trans a0
  have E1 := Lib.hid hg2
  have EB : Hid (Below w.heap.size w W2) := ab.drew.grown hgr (by show _ ≤ W.heap.size; omega) (fun k hk => by cases hk; omega)
  have EZ : Hid (W2.heap.size = w.heap.size + 1 + 1) := hz2.trans az
  clear hm a0 a1 ab az hg2 hgr hz2
  obtain ⟨p, hp⟩ : ∃ p, piece b i = p := ⟨_, rfl⟩
  rw [hp] at HL E1
  have HPI := Lib.hid hp
  clear hp H HC
  have HS : Hid ((Try.prog.info? 44).map (·.size) = some (p.map F.bv).toArray.size) := by show _ = _; rw [List.size_toArray, List.length_map, HL.out]; exact s44
  go_region
  clear hr
  go_wp2_with (first | (refine wpList_load_row rfl 44 _ rfl (w.heap.size + 1) rfl _ _ _ E1.out _ Try.underlying44 rfl HS.out ?_) | fail)
  refine (nodeOf_any p _ HL.out).mono ?_
  rintro e w3 ⟨rfl, hb3⟩
  have F0 : Hid (∀ o, (w3.alloc o).heap[w.heap.size]? = some (.cells z11 25 (0, 0))) := fun o => ((box_below w3 o).block _ (by have := hb3.size; rw [EZ.out] at this; omega)).trans ((hb3.block _ (by rw [EZ.out]; omega)).trans E0.out)
  have F1 : Hid (∀ o, (w3.alloc o).heap[w.heap.size + 1]? = some (.cells (p.map F.bv).toArray 44 (0, 0))) := fun o => ((box_below w3 o).block _ (by have := hb3.size; rw [EZ.out] at this; omega)).trans ((hb3.block _ (by rw [EZ.out]; omega)).trans E1.out)
  have FB : Hid (∀ o, Below w.heap.size w (w3.alloc o)) := fun o => (EB.out.trans (hb3.mono (by rw [EZ.out]; omega))).trans ((box_below w3 o).mono (by have := hb3.size; rw [EZ.out] at this; omega))
  have F2 : Hid ((w3.alloc (Obj.cells (nc (rd p).up).toArray 25)).heap[w3.heap.size]? = some (.cells (nc (rd p).up).toArray 25 (0, 0))) := heap_alloc_new w3 _
  have hw3 : w.heap.size + 1 < w3.heap.size := by have := hb3.size; rw [EZ.out] at this; omega
  clear hb3 E0 E1 EB EZ
  go_upto_region 6 with (first | (refine wpList_store_new rfl 25 _ _ rfl w3 z11 (nc (rd p).up).toArray rfl rfl s25 rfl (all_oneCell_toArray (nc_one _)) ?_) | fail)
  have F0' := Lib.hid (F0.out (Obj.cells (nc (rd p).up).toArray 25))
  have F1' := Lib.hid (F1.out (Obj.cells (nc (rd p).up).toArray 25))
  have FB' := Lib.hid (FB.out (Obj.cells (nc (rd p).up).toArray 25))
  have FZ : Hid ((w3.alloc (Obj.cells (nc (rd p).up).toArray 25)).heap.size = w3.heap.size + 1) := by show _ = _; simp
  clear F0 F1 FB
  generalize w3.alloc (Obj.cells (nc (rd p).up).toArray 25) = W3 at *
  go_wp2_with (first | (refine wpList_load_row rfl 25 _ rfl w3.heap.size rfl _ _ _ F2.out _ Try.underlying25 rfl s25 ?_) | fail)
  refine (sound_any (rd p).up _).mono ?_
  rintro e w4 ⟨rfl, hb4⟩
  have hz4 := hb4.size
  rw [FZ.out] at hz4
  have G0 : Hid (w4.heap[w.heap.size]? = some (.cells z11 25 (0, 0))) := (hb4.block _ (by rw [FZ.out]; omega)).trans F0'.out
  have G1 : Hid (w4.heap[w.heap.size + 1]? = some (.cells (p.map F.bv).toArray 44 (0, 0))) := (hb4.block _ (by rw [FZ.out]; omega)).trans F1'.out
  have G2 : Hid (w4.heap[w3.heap.size]? = some (.cells (nc (rd p).up).toArray 25 (0, 0))) := (hb4.block _ (by rw [FZ.out]; omega)).trans F2.out
  have GB : Hid (Below w.heap.size w w4) := FB'.out.trans (hb4.mono (by rw [FZ.out]; omega))
  clear hb4 F0' F1' F2 FB' FZ
  cases hok : (rd p).up.ok with
  | false =>
    have HG : Hid (good p = false) := by show _ = _; simp [good, hok]
    clear hok
    go_wp2_with (first | (refine wpList_store_row rfl 25 _ _ rfl w.heap.size z11 z11 25 rfl rfl G0.out s25 rfl (all_oneCell_toArray (nc_one zeroN.up)) ?_) | fail)
    refine bodyPost_ret (ret_row2 rfl rfl (setRow_in _ _ _ _ _ G0.out) Try.underlying25 rfl s25) rfl ?_
    obtain rfl := HPI.out
    rw [HG.out]
    exact ⟨rfl, below_setRow GB.out (Nat.le_refl _) _⟩
  | true =>
    have HOK := Lib.hid hok
    clear hok
    go_wp2_with (first | (refine wpList_load_row rfl 25 _ rfl w3.heap.size rfl _ _ _ G2.out _ Try.underlying25 rfl s25 ?_) | fail)
    refine (imageOf_any (rd p) _ (rd_fits p)).mono ?_
    rintro e w5 ⟨rfl, hb5⟩
    have hz5 := hb5.size
    have IL : Hid ((rd p).img.length = 32) := (rd p).img_len
    have HSI : Hid ((Try.prog.info? 44).map (·.size) = some ((rd p).img.map F.bv).toArray.size) := by show _ = _; rw [List.size_toArray, List.length_map, IL.out]; exact s44
    have HSZ : Hid (z32.size = ((rd p).img.map F.bv).toArray.size) := by
      have h := IL.out
      show 32 = _
      simp [h]
    have J0 : Hid ((w5.alloc (Obj.cells ((rd p).img.map F.bv).toArray 44)).heap[w.heap.size]? = some (.cells z11 25 (0, 0))) := ((box_below w5 _).block _ (by omega)).trans ((hb5.block _ (by omega)).trans G0.out)
    have J1 : Hid ((w5.alloc (Obj.cells ((rd p).img.map F.bv).toArray 44)).heap[w.heap.size + 1]? = some (.cells (p.map F.bv).toArray 44 (0, 0))) := ((box_below w5 _).block _ (by omega)).trans ((hb5.block _ (by omega)).trans G1.out)
    have J2 : Hid ((w5.alloc (Obj.cells ((rd p).img.map F.bv).toArray 44)).heap[w3.heap.size]? = some (.cells (nc (rd p).up).toArray 25 (0, 0))) := ((box_below w5 _).block _ (by omega)).trans ((hb5.block _ (by omega)).trans G2.out)
    have J3 : Hid ((w5.alloc (Obj.cells ((rd p).img.map F.bv).toArray 44)).heap[w5.heap.size]? = some (.cells ((rd p).img.map F.bv).toArray 44 (0, 0))) := heap_alloc_new w5 _
    have JB : Hid (Below w.heap.size w (w5.alloc (Obj.cells ((rd p).img.map F.bv).toArray 44))) := (GB.out.trans (hb5.mono (by omega))).trans ((box_below w5 _).mono (by omega))
    clear hb5 G0 G1 G2 GB
    go_upto_region 9 with (first | (refine wpList_store_new rfl 44 _ _ rfl w5 z32 ((rd p).img.map F.bv).toArray rfl rfl HSI.out HSZ.out (all_oneCell_toArray (bv_one _)) ?_) | fail)
    generalize w5.alloc (Obj.cells ((rd p).img.map F.bv).toArray 44) = W5 at *
    have hq := eq44 (rd p).img p IL.out HL.out
    by_cases he : (rd p).img = p
    · have HG : Hid (good p = true) := by show _ = _; rw [good, HOK.out, Bool.true_and]; exact decide_eq_true he
      rw [decide_eq_true he] at hq
      clear he
      go_wp2_with (first | (refine wpList_load_row rfl 44 _ rfl w5.heap.size rfl _ _ _ J3.out _ Try.underlying44 rfl HSI.out ?_) | (refine wpList_load_row rfl 44 _ rfl (w.heap.size + 1) rfl _ _ _ J1.out _ Try.underlying44 rfl HS.out ?_) | (refine wpList_load_row rfl 25 _ rfl w3.heap.size rfl _ _ _ J2.out _ Try.underlying25 rfl s25 ?_) | (refine wpList_store_row rfl 25 _ _ rfl w.heap.size z11 (nc (rd p).up).toArray 25 rfl rfl J0.out s25 rfl (all_oneCell_toArray (nc_one _)) ?_) | fail)
      refine bodyPost_ret (ret_row2 rfl rfl (setRow_in _ _ _ _ _ J0.out) Try.underlying25 rfl s25) rfl ?_
      obtain rfl := HPI.out
      rw [HG.out]
      exact ⟨rfl, below_setRow JB.out (Nat.le_refl _) _⟩
    · have HG : Hid (good p = false) := by show _ = _; rw [good, HOK.out, Bool.true_and]; exact decide_eq_false he
      rw [decide_eq_false he] at hq
      clear he
      go_wp2_with (first | (refine wpList_load_row rfl 44 _ rfl w5.heap.size rfl _ _ _ J3.out _ Try.underlying44 rfl HSI.out ?_) | (refine wpList_load_row rfl 44 _ rfl (w.heap.size + 1) rfl _ _ _ J1.out _ Try.underlying44 rfl HS.out ?_) | (refine wpList_store_row rfl 25 _ _ rfl w.heap.size z11 z11 25 rfl rfl J0.out s25 rfl (all_oneCell_toArray (nc_one zeroN.up)) ?_) | fail)
      refine bodyPost_ret (ret_row2 rfl rfl (setRow_in _ _ _ _ _ J0.out) Try.underlying25 rfl s25) rfl ?_
      obtain rfl := HPI.out
      rw [HG.out]
      exact ⟨rfl, below_setRow JB.out (Nat.le_refl _) _⟩
end Go.Proofs.Ytijphembfohfnaa
