/- bytes.Clone, node.Put, node.Stat, walked. -/
import Derived.Test.YtijphembfohfnaaGet
import Derived.Test.YtijphembfohfnaaEqB
namespace Go.Proofs.Ytijphembfohfnaa
open Go.RowKit
set_option linter.unusedVariables false
set_option maxRecDepth 20000 in
set_option maxHeartbeats 1000000 in
theorem clone_any (A : Option Addr) (n c B : Nat) (l : List UInt8) (w : World) (h : F.Bts w B A n c l) (hB : B ≤ w.heap.size) (hn : n ≤ 140737488355328) :
    Calls Try.prog 16 #[.slice A n c] w (F.GivesMine w l) := by
  have heq := fun W => Lib.run_eql_slice_nil (P := Try.prog) W 22 5 A n c 0 0 Try.underlying22
  have hl0 := h.len
  have H := Lib.hid h
  clear h
  rcases A with _ | a
  · have hc := H.out.nil rfl
    have h0 : l = [] := List.length_eq_zero_iff.1 (by have := H.out.cap; omega)
    subst h0
    subst hc
    simp only [Option.isNone_none] at heq
    clear hl0
    go_enter Try.func16, Try.ntmps16
    go_wp2
    go_ret
    exact ⟨_, rfl, World.ownsRow_nil _ _ _ _, Below.refl _ _⟩
  · simp only [Option.isNone_some] at heq
    have ho := World.ownsRow_made (e := 5) (size := 1) (base := w.heap.size) w #[] 0 (Nat.le_refl _) (by decide) (by rfl)
    have hbl := F.below_alloc w (.cells #[] 5)
    obtain ⟨v', w', hr, ho', hgr⟩ := F.app_run (l := []) 22 ho (H.out.below (hbl.mono hB)) (by simp; omega) (by simp)
    have HR := Lib.hid hr
    clear hr hl0
    go_enter Try.func16, Try.ntmps16
    go_wp2_with (at_builtin; refine Lib.wpList_append_run _ rfl _ _ _ _ rfl _ _ rfl rfl _ _ HR.out ?_)
    go_ret
    exact ⟨_, rfl, ho', hbl.grown hgr (by simp) (fun j hj => (ho.lt j hj).1)⟩
theorem sc_one (n g k l s c : Int) : ∀ v ∈ sc n g k l s c, v.oneCell' = true := by
  intro v hv
  simp only [sc, List.mem_cons, List.not_mem_nil, or_false] at hv
  rcases hv with rfl | rfl | rfl | rfl | rfl | rfl <;> rfl
theorem stat_any (n : Int) (x : Nd) (w : World) : Calls Try.prog 8 #[.int .i64 n, .agg (nc x).toArray] w fun e w' => e = .returned (.agg (sc n x.g x.k x.l x.s x.c).toArray) ∧ Below w.heap.size w w' := by
  go_enter Try.func8, Try.ntmps8
  go_upto_region 1 with fail
  obtain ⟨a0, a1, ab, az⟩ := box2 w (Obj.cells (nc x).toArray 25) (Obj.cells z6 32)
  generalize (w.alloc (Obj.cells (nc x).toArray 25)).alloc (Obj.cells z6 32) = W at *
  have A1 := Lib.hid a1
  have AB := Lib.hid ab
  obtain ⟨c0, c1, c2, c3, c4⟩ := nd_cells a0
  clear a0 a1 ab az
  go_wp2_with (first | (refine wpList_store_row rfl 32 _ _ rfl (w.heap.size + 1) z6 (sc n x.g x.k x.l x.s x.c).toArray 32 rfl rfl A1.out s32 rfl (all_oneCell_toArray (sc_one _ _ _ _ _ _)) ?_) | fail)
  refine bodyPost_ret (ret_row rfl rfl (setRow_in W (w.heap.size + 1) z6 (sc n x.g x.k x.l x.s x.c).toArray 32 A1.out) Try.underlying32 rfl s32) rfl ?_
  exact ⟨rfl, below_setRow AB.out (by omega) _⟩
theorem splice_take {cur : List Value} {b p : List UInt8} {i : Nat} (hb : b.length = 128) (hi : i < 4) (hp : p.length = 32) (ht : cur.take 128 = b.map F.bv) : (splice cur (32 * i) (p.map F.bv)).take 128 = (put b i p).map F.bv := by
  have hl : 128 ≤ cur.length := by
    have := congrArg List.length ht
    simp [hb] at this
    omega
  have e1 : cur.take (32 * i) = (b.take (32 * i)).map F.bv := by rw [List.map_take, ← ht, List.take_take, Nat.min_eq_left (by omega)]
  have e2 : (cur.drop (32 * i + 32)).take (96 - 32 * i) = (b.drop (32 * i + 32)).map F.bv := by
    rw [List.map_drop, ← ht, List.drop_take]
    congr 1
    omega
  unfold splice put
  rw [List.length_map, hp, e1, List.map_append, List.map_append, ← e2, ← List.append_assoc, List.take_append, List.take_of_length_le (by simp [hb, hp]; omega)]
  congr 2
  simp [hb, hp]
  omega
theorem put_arg (A : Option Addr) (n c : Nat) (i : Int) (x : Nd) (w : World) (h : ¬ (n = 128 ∧ 0 ≤ i ∧ i < 4)) : Calls Try.prog 7 #[.slice A n c, .int .i64 i, .agg (nc x).toArray] w fun e w' => e = .returned (.tuple #[.slice none 0 0, .int .i64 1]) ∧ Below w.heap.size w w' := by
  have H := Lib.hid h
  clear h
  obtain ⟨a0, ab, az⟩ := box1 w (Obj.cells (nc x).toArray 25)
  have AB := Lib.hid ab
  clear a0 ab az
  go_enter Try.func7, Try.ntmps7
  go_wp2_with fail
  refine (has_no A n c i _ H.out).mono ?_
  rintro e w1 ⟨rfl, rfl⟩
  go_wp2_with fail
  go_ret2
  exact ⟨rfl, AB.out⟩
theorem put_no (A : Option Addr) (c i : Nat) (x : Nd) (w : World) (hi : i < 4) (h : x.ok = false) : Calls Try.prog 7 #[.slice A 128 c, .int .i64 i, .agg (nc x).toArray] w fun e w' => e = .returned (.tuple #[.slice none 0 0, .int .i64 2]) ∧ Below w.heap.size w w' := by
  have H := Lib.hid h
  clear h
  obtain ⟨a0, ab, az⟩ := box1 w (Obj.cells (nc x).toArray 25)
  have A0 := Lib.hid a0
  have AB := Lib.hid ab
  have AZ := Lib.hid az
  clear a0 ab az
  go_enter Try.func7, Try.ntmps7
  go_wp2_with fail
  refine (has_yes _ 128 c i _ rfl (by omega) (by omega)).mono ?_
  rintro e w1 ⟨rfl, rfl⟩
  go_wp2_with (first | (refine wpList_load_row rfl 25 _ rfl w.heap.size rfl _ _ _ A0.out _ Try.underlying25 rfl s25 ?_) | fail)
  refine (sound_any x _).mono ?_
  rintro e w2 ⟨rfl, hb2⟩
  rw [H.out]
  have HB : Hid (Below w.heap.size w w2) := AB.out.trans (hb2.mono (by rw [AZ.out]; omega))
  clear hb2
  go_wp2_with fail
  go_ret2
  exact ⟨rfl, HB.out⟩
theorem row_in {W : World} {g : Nat} {l : List UInt8} {t : TypeId} {fr : Nat × Nat} (h : W.heap[g]? = some (.cells (l.map F.bv).toArray t fr)) : ∀ j v, (l.map F.bv)[j]? = some v → W.cell? ((⟨g, 0, none⟩ : Addr).add j) = some v := by
  intro j v hv
  rw [Addr.add_mid, Nat.zero_add, cell_of_row W g _ _ t fr h]
  simpa using hv
set_option maxRecDepth 20000 in
set_option maxHeartbeats 4000000 in
theorem put_yes {w : World} {B c i : Nat} {A : Option Addr} {b : List UInt8} (y : Nn) (h : F.Bts w B A 128 c b) (hB : B ≤ w.heap.size) (hi : i < 4) (hok : y.up.ok = true) : Calls Try.prog 7 #[.slice A 128 c, .int .i64 i, .agg (nc y.up).toArray] w (F.Gives2 w (put b i y.img)) := by
  have H := Lib.hid (h.more hB)
  have HOK := Lib.hid hok
  have HLB := Lib.hid h.len
  obtain ⟨a0, ab, az⟩ := box1 w (Obj.cells (nc y.up).toArray 25)
  have A0 := Lib.hid a0
  have AB := Lib.hid ab
  have AZ := Lib.hid az
  clear a0 ab az h hok
  go_enter Try.func7, Try.ntmps7
  go_wp2_with fail
  refine (has_yes _ 128 c i _ rfl (by omega) (by omega)).mono ?_
  rintro e w1 ⟨rfl, rfl⟩
  go_wp2_with (first | (refine wpList_load_row rfl 25 _ rfl w.heap.size rfl _ _ _ A0.out _ Try.underlying25 rfl s25 ?_) | fail)
  refine (sound_any y.up _).mono ?_
  rintro e w2 ⟨rfl, hb2⟩
  rw [HOK.out]
  have hz2 := hb2.size
  rw [AZ.out] at hz2
  have B0 : Hid (w2.heap[w.heap.size]? = some (.cells (nc y.up).toArray 25 (0, 0))) := (hb2.block _ (by rw [AZ.out]; omega)).trans A0.out
  have BB : Hid (Below w.heap.size w w2) := AB.out.trans (hb2.mono (by rw [AZ.out]; omega))
  clear hb2 A0 AB AZ
  go_wp2_with (first | (refine wpList_load_row rfl 25 _ rfl w.heap.size rfl _ _ _ B0.out _ Try.underlying25 rfl s25 ?_) | fail)
  refine (imageOf_any y _ (Nn.fits HOK.out)).mono ?_
  rintro e w3 ⟨rfl, hb3⟩
  have hz3 := hb3.size
  have IL : Hid (y.img.length = 32) := y.img_len
  have HSI : Hid ((Try.prog.info? 44).map (·.size) = some (y.img.map F.bv).toArray.size) := by show _ = _; rw [List.size_toArray, List.length_map, IL.out]; exact s44
  have HSZ : Hid (z32.size = (y.img.map F.bv).toArray.size) := by
    have h := IL.out
    show 32 = _
    simp [h]
  have C1 : Hid ((w3.alloc (Obj.cells (y.img.map F.bv).toArray 44)).heap[w3.heap.size]? = some (.cells (y.img.map F.bv).toArray 44 (0, 0))) := heap_alloc_new w3 _
  have CB : Hid (Below w.heap.size w (w3.alloc (Obj.cells (y.img.map F.bv).toArray 44))) := (BB.out.trans (hb3.mono (by omega))).trans ((box_below w3 _).mono (by omega))
  have CZ : Hid ((w3.alloc (Obj.cells (y.img.map F.bv).toArray 44)).heap.size = w3.heap.size + 1) := by show _ = _; simp
  clear hb3 B0 BB
  go_upto_region 6 with (first | (refine wpList_store_new rfl 44 _ _ rfl w3 z32 (y.img.map F.bv).toArray rfl rfl HSI.out HSZ.out (all_oneCell_toArray (bv_one _)) ?_) | fail)
  generalize w3.alloc (Obj.cells (y.img.map F.bv).toArray 44) = W3 at *
  go_wp2_with fail
  refine (clone_any A 128 c w.heap.size b _ (H.out.below CB.out) (by rw [CZ.out]; omega) (by omega)).mono ?_
  rintro e w4 ⟨v, rfl, hm⟩
  have hz4 := hm.bel.size
  rw [CZ.out] at hz4
  have D1 : Hid (w4.heap[w3.heap.size]? = some (.cells (y.img.map F.bv).toArray 44 (0, 0))) := (hm.bel.block _ (by rw [CZ.out]; omega)).trans C1.out
  have DB : Hid (Below w.heap.size w w4) := CB.out.trans (hm.bel.mono (by rw [CZ.out]; omega))
  obtain ⟨g, cap, cur, e, hg, hh, hnc, hcm, hcs, htk⟩ : ∃ g cap cur, v = .slice (some ⟨g, 0, none⟩) 128 cap ∧ W3.heap.size ≤ g ∧ w4.heap[g]? = some (.cells cur 5 (0, 0)) ∧ 128 ≤ cap ∧ cap ≤ maxLen ∧ cur.size = cap ∧ cur.toList.take 128 = b.map F.bv := by
    have ho := hm.own
    rw [HLB.out] at ho
    rcases ho.2 with ⟨_, h0⟩ | ⟨g, cap, cur, e, h1, h2, h3, h4, h5, h6⟩
    · omega
    · exact ⟨g, cap, cur, e, h1, h2, h3, h4, by simpa using h5, by simpa using h6⟩
  subst e
  clear hm C1 CB H
  rw [CZ.out] at hg
  obtain ⟨m, hmi⟩ : ∃ m, 32 * i = m := ⟨_, rfl⟩
  have hm96 : m ≤ 96 := by omega
  have hmul : (i : Int) * 32 = (m : Int) := by omega
  have hw : IntKind.i64.wrap ((i : Int) * 32) = (m : Int) := by rw [IntKind.wrap_i64]; omega
  have hm0 : (0 : Int) ≤ (m : Int) := by omega
  have hm1 : (m : Int) ≤ 128 := by omega
  have hm2 : (m : Int) ≤ (cap : Int) := by omega
  have hm3 : ¬ cap = m := by omega
  obtain ⟨W5, hr, hg5, hgr, hz5⟩ := copy_run (w := w4.drew) (ty := 3) (dLen := 128 - m) (dCap := cap - m) (sLen := 32) (sCap := 32) Try.underlying22 s5 (L := cur.toList) (off := m) hh (ad := ⟨w3.heap.size, 0, none⟩) (cs := y.img.map F.bv) (by rw [List.length_map, IL.out]; show 32 = min 32 (128 - m); omega) (row_in (W := w4.drew) D1.out) (by rw [List.length_map, IL.out, Array.length_toList, hcs]; omega) (bv_one _)
  have HM : Hid (F.Mine w W5 (.slice (some ⟨g, 0, none⟩) 128 cap) (put b i y.img)) := by
    have hpl : (put b i y.img).length = 128 := put_len HLB.out hi IL.out
    refine ⟨⟨by simp, .inr ⟨g, cap, _, by rw [hpl], by omega, hg5, by rw [hpl]; exact hnc, hcm, ?_, ?_⟩⟩, DB.out.drew.grown hgr (by show _ ≤ w4.heap.size; omega) (fun k hk => by cases hk; omega)⟩
    · rw [List.size_toArray, length_splice _ _ _ (by rw [List.length_map, IL.out, Array.length_toList, hcs]; omega)]
      simp [hcs]
    · rw [hpl, Nat.mul_one, ← hmi]
      exact splice_take HLB.out hi IL.out htk
  clear hg5 hgr hz5 hh htk D1 DB hmi hcs
  go_upto_region 9 with fail
  go_region
  clear hr
  go_wp2_with fail
  go_ret2
  exact ⟨_, rfl, HM.out⟩
end Go.Proofs.Ytijphembfohfnaa
