/- The law StoreMounts, walked. -/
import Derived.Test.YthjjfncpongghaaGreatSMntM
import Derived.BigQuiet
import Derived.Deep.QuietTactic
namespace Go.Proofs.YthjjfncpongghaaGreat
open Go.RowKit
set_option linter.unusedVariables false
set_option maxRecDepth 20000
theorem OnS.now_at {N n : Nat} {s : DS} {X : Secs2} (h : OnS N s X) (hn : n < N) : ∃ v, s.now[n]? = some v ∧ v.length = 128 := by
  obtain ⟨L, hR, hw, hD⟩ := h
  refine ⟨L[n]'(by rw [hw.len]; exact hn), by rw [hR.now]; exact List.getElem?_eq_getElem _, hw.all _ (List.getElem_mem _)⟩
theorem Ons.grown {w0 w w' : World} {d N g : Nat} {O : List Nat} {s : DS} {X : Secs2} (h : Ons w0 w d O N s X) (hg : w.grownBy w' (some g)) (hO : g ∉ O) (h0 : w0.heap.size ≤ g) : Ons w0 w' d O N s X :=
  ⟨⟨h.sit.drv.keep fun b hb => hg.block b (h.sit.drv.lt b hb) (fun e => by cases e; exact hO hb), h.sit.fresh, h.sit.bel.grown hg h.sit.bel.size (fun j hj => by cases hj; exact h0)⟩, h.on, h.len, h.free⟩
theorem Rows1.keep {w w' : World} {b n lo : Nat} {l : List (List UInt8)} {k : Nat} (h : Rows1 w b n lo l k) (hb : lo ≤ b) (he : ∀ q, lo ≤ q → q < w.heap.size → w'.heap[q]? = w.heap[q]?) : Rows1 w' b n lo l k := by
  obtain ⟨C, h1, h2, h3⟩ := h
  refine ⟨C, (he b hb (Array.getElem?_eq_some_iff.1 h1).1).trans h1, h2, fun j x hj hx => ?_⟩
  obtain ⟨bj, g1, g2, g3, g4⟩ := h3 j x hj hx
  exact ⟨bj, g1, g2, g3, (he bj g2 (Array.getElem?_eq_some_iff.1 g4).1).trans g4⟩
set_option maxHeartbeats 8000000 in
theorem storeMounts.walk (w : World) (x : UInt8) (A : Option Addr) (n c : Nat) (bs : List UInt8) (hB : F.Bts w w.heap.size A n c bs) (y : Nat) (hy : y < 65536) : Calls Tryz.prog 3 #[.int .u8 (x.toNat : Int), .slice A n c, .int .u16 (y : Int)] w fun e w' => e = .returned (.bool true) ∧ Below w.heap.size w w' := by
  have HB := Lib.hid hB
  have hcap := hB.cap
  have hlim := hB.lim
  unfold maxLen at hlim
  clear hB
  obtain ⟨k, hk⟩ : ∃ k, x.toNat % 43 = k := ⟨_, rfl⟩
  have hk43 : k < 43 := by omega
  have hrem : (x.toNat : Int).tmod 43 = (k : Int) := by rw [Int.tmod_eq_emod_of_nonneg (by omega)]; omega
  have hw8 : IntKind.u8.wrap (k : Int) = k := by unfold IntKind.wrap; simp [IntKind.bits, IntKind.signed]; omega
  have hw64 : IntKind.i64.wrap (k : Int) = k := by rw [IntKind.wrap_i64]; omega
  clear hk
  generalize (x.toNat : Int) = xi at *
  have hf1 := fld1
  go_enter Tryz.func3, Tryz.ntmps3
  go_wp2_with fail
  refine (new_any 100 w (by omega) (by omega)).mono ?_
  rintro e w1 ⟨d, O, rfl, hd1, hf1', hb1⟩
  have HS : Hid (Sit w w1 d O 100 (newS 100)) := ⟨hd1, hf1', hb1⟩
  clear hd1 hf1' hb1
  go_wp2_with fail
  refine (awake_any w1).mono ?_
  rintro e w2 ⟨rfl, hb⟩
  have HS2 := Lib.hid (HS.out.below hb)
  clear hb HS
  go_wp2_with fail
  refine (make_new HS2.out (by omega)).mono ?_
  rintro e w3 ⟨rfl, O3, s3, h3, _, _⟩
  have H3 := Lib.hid h3
  clear h3 HS2
  have hmk := make128_all w3
  go_upto_region 5 with fail
  clear hmk
  obtain ⟨a0, a1, a2⟩ := D.box1 w3 (Obj.cells (bc zeros).toArray 5)
  have H4 := Lib.hid (H3.out.below a1)
  have hgw : w.heap.size ≤ w3.heap.size := H3.out.sit.bel.size
  have HgO : Hid (w3.heap.size ∉ O3) := fun e => by have := H3.out.sit.drv.lt _ e; omega
  obtain ⟨l5, w5, r5, hr5, hh5, hl5, hg5⟩ := copy_any (A := A) (n := n) (c := c) (bs := bs) a0 zeros_len (HB.out.below H4.out.sit.bel)
  have H5 := Lib.hid (H4.out.grown hg5 HgO.out hgw)
  have HH5 := Lib.hid hh5
  have hgl5 : w3.heap.size < w5.heap.size := (Array.getElem?_eq_some_iff.1 hh5).1
  clear a0 a1 a2 hh5 hg5 H3 H4
  generalize w3.heap.size = g at *
  go_upto_region 6 with fail
  clear hr5
  by_cases hk1 : k = 1
  · subst hk1
    rw [show ((1 : Nat) : Int) = 1 from rfl] at *
    go_wp2_with fail
    go_ret
    exact ⟨rfl, H5.out.sit.bel⟩
  have hk1' : ((k : Int) == 1) = false := by rw [beq_eq_false_iff_ne]; omega
  go_wp2_with fail
  obtain ⟨v, hv, hvl⟩ := H5.out.on.now_at (n := k) (by omega)
  refine (get_ok k H5.out.sit.drv H5.out.on.down hv).mono ?_
  rintro e w6 ⟨b, rfl, hb1, hb2, hb3⟩
  have H6 := Lib.hid (H5.out.below hb3)
  have HH6 := Lib.hid ((hb3.block g hgl5).trans HH5.out)
  have hgl6 : g < w6.heap.size := Nat.lt_of_lt_of_le hgl5 hb3.size
  obtain ⟨l7, w7, r7, hr7, hh7, hl7, hg7⟩ := copy_any HH6.out hl5 (blk_fbts hb2 hvl)
  have H7 := Lib.hid (H6.out.grown hg7 HgO.out hgw)
  have HH7 := Lib.hid hh7
  have hgl7 : g < w7.heap.size := (Array.getElem?_eq_some_iff.1 hh7).1
  clear hh7 hg7 hb1 hb2 hb3 hv hvl
  go_upto_region 10 with fail
  obtain ⟨t3, ht3⟩ : ∃ t, y % 3 = t := ⟨_, rfl⟩
  have hrem3 : (y : Int).tmod 3 = (t3 : Int) := by rw [Int.tmod_eq_emod_of_nonneg (by omega)]; omega
  have hw16 : IntKind.u16.wrap (t3 : Int) = t3 := by unfold IntKind.wrap; simp [IntKind.bits, IntKind.signed]; omega
  have hFIN : ∃ (V : World) (l : List UInt8), True := ⟨w6, l5, trivial⟩
  by_cases h3 : t3 = 0
  case' neg =>
    have h3' : ((t3 : Int) == 0) = false := by rw [beq_eq_false_iff_ne]; omega
    clear hr7 H7 HH7 hgl7
    go_upto_region 13 with fail
    have HV := H6
    have HHV := HH6
    have hlV := hl5
    have hgV := hgl6
    generalize w6 = V at *
    generalize l5 = l at *
  case' pos =>
    subst h3
    rw [show ((0 : Nat) : Int) = 0 from rfl] at *
    go_upto_region 12 with fail
    clear hr7
    obtain ⟨q3, hq3⟩ : ∃ q, y / 3 = q := ⟨_, rfl⟩
    obtain ⟨j, hj⟩ : ∃ j, q3 % 128 = j := ⟨_, rfl⟩
    obtain ⟨r, hr⟩ : ∃ r, y % 7 = r := ⟨_, rfl⟩
    obtain ⟨z, hz⟩ : ∃ z, 1 + r = z := ⟨_, rfl⟩
    have e1 : (y : Int).tdiv 3 = (q3 : Int) := by rw [Int.tdiv_eq_ediv_of_nonneg (by omega)]; omega
    have e2 : IntKind.u16.wrap (q3 : Int) = q3 := by unfold IntKind.wrap; simp [IntKind.bits, IntKind.signed]; omega
    have e3 : IntKind.i64.wrap (q3 : Int) = q3 := by rw [IntKind.wrap_i64]; omega
    have e4 : (q3 : Int).tmod 128 = (j : Int) := by rw [Int.tmod_eq_emod_of_nonneg (by omega)]; omega
    have e5 : IntKind.i64.wrap (j : Int) = j := by rw [IntKind.wrap_i64]; omega
    have e6 : (y : Int).tmod 7 = (r : Int) := by rw [Int.tmod_eq_emod_of_nonneg (by omega)]; omega
    have e7 : IntKind.u16.wrap (r : Int) = r := by unfold IntKind.wrap; simp [IntKind.bits, IntKind.signed]; omega
    have e8 : IntKind.u8.wrap (r : Int) = r := by unfold IntKind.wrap; simp [IntKind.bits, IntKind.signed]; omega
    have e9 : IntKind.u8.wrap (1 + (r : Int)) = z := by unfold IntKind.wrap; simp [IntKind.bits, IntKind.signed]; omega
    have hj128 : j < 128 := by omega
    have hj0 : (0 : Int) ≤ (j : Int) := by omega
    have hj1 : (j : Int) < 128 := by omega
    obtain ⟨u, hu⟩ := xor_val (l7[j]?.getD 0) (z := z) (by omega)
    have hcell : w7.cell? ⟨g, j, none⟩ = some (.int .u8 ((l7[j]?.getD 0).toNat : Int)) := by rw [cell_of HH7.out, List.getElem?_toArray, bc_get (by omega)]
    have hfr := frozen_of HH7.out j
    generalize ((l7[j]?.getD 0).toNat : Int) = lj at *
    clear hq3 hj hr hz ht3
    go_upto_region 13 with fail
    have HV : Hid (Ons w (w7.setCell ⟨g, j, none⟩ (.int .u8 (u.toNat : Int))) d O3 100 s3 (X1 100)) := ⟨H7.out.sit.set _ HgO.out hgw, H7.out.on, H7.out.len, H7.out.free⟩
    have HHV : Hid ((w7.setCell ⟨g, j, none⟩ (.int .u8 (u.toNat : Int))).heap[g]? = some (.cells (bc (l7.set j u)).toArray 5 (0, 0))) := by
      show _ = _
      rw [heap_setCell_at HH7.out]
      congr 2
      simp [bc, List.map_set]
    have hlV : (l7.set j u).length = 128 := by rw [List.length_set]; exact hl7
    have hgV : g < (w7.setCell ⟨g, j, none⟩ (.int .u8 (u.toNat : Int))).heap.size := by simp; exact hgl7
    clear e1 e2 e3 e4 e5 e6 e7 e8 e9 hj0 hj1 hu hcell hfr H7 HH7 hgl7 hl7
    generalize w7.setCell ⟨g, j, none⟩ (.int .u8 (u.toNat : Int)) = V at *
    generalize l7.set j u = l at *
  all_goals
    clear hrem3 hw16 hFIN
    obtain ⟨s1, s2, hp1, hp2, hon2, hfu2⟩ := HV.out.on.spoil (n := k) (l := l) HV.out.free HV.out.len (by omega) (by omega) hk1 hlV
    have HP1 := Lib.hid hp1
    have HP2 := Lib.hid hp2
    have HON2 := Lib.hid hon2
    have HFU2 := Lib.hid hfu2
    clear hp1 hp2 hon2 hfu2
    have HBV : Hid (Bts V (IM g) (some ⟨g, 0, none⟩) 128 128 l) := Own.bts ⟨5, HHV.out⟩ hlV rfl
    go_wp2_with fail
    have hbx := (Below.refl V.heap.size V).alloc (Nat.le_refl _) (.cells #[.int .i64 (k : Int), .slice (some ⟨g, 0, none⟩) 128 128] 34)
    have HPU := Lib.hid (put_any (HV.out.below hbx).sit.drv (wrs_1 (k : Int) HBV.out (fun b hb => by cases hb; exact hgV)) (by
      rintro b (hb | rfl)
      · cases hb; exact ⟨by simp; omega, HgO.out⟩
      · exact ⟨by simp, fun e => by have := HV.out.sit.drv.lt _ e; omega⟩) (by rw [HV.out.on.since]; simp))
    rw [HP1.out] at HPU
    refine HPU.out.mono ?_
    rintro e w8 ⟨rfl, hd8⟩
    obtain ⟨O8, h8, _, _⟩ := (HV.out.below hbx).sit.did hd8
    have H8 := Lib.hid h8
    clear HPU hd8 h8 hbx HBV
    show _
    go_wp2_with fail
    have HFL := Lib.hid (flush_any H8.out.drv)
    rw [HP2.out] at HFL
    refine HFL.out.mono ?_
    rintro e w9 ⟨rfl, hd9⟩
    obtain ⟨O9, h9, _, _⟩ := H8.out.did hd9
    have H9 : Hid (Ons w w9 d O9 100 s2 ((X1 100).set k l)) := ⟨h9, HON2.out, by rw [List.length_set, X1_len], HFU2.out⟩
    clear HFL hd9 h9 H8
    show _
    go_wp2_with fail
    refine (image_any H9.out.sit.drv).mono ?_
    rintro e w10 ⟨bw, rfl, hbw, hrw, hb10⟩
    have H10 := Lib.hid (H9.out.below hb10)
    have HRW := Lib.hid hrw
    have HO9 : Hid (∀ b ∈ O9, b < w9.heap.size) := H9.out.sit.drv.lt
    clear hrw hb10
    go_wp2_with fail
    refine (mount_any H10.out (by omega)).mono ?_
    rintro e w11 (⟨er, her, rfl, O11, h11, hc11, _⟩ | ⟨b', c', hok, p', q', O11, s11, rfl, h11, _, _, _, _⟩)
    · have H11 := Lib.hid h11
      have HRW1 := Lib.hid (HRW.out.keep (w' := w11) hbw fun q hq1 hq2 => hc11.block q hq2 fun e => by have := HO9.out q e; omega)
      have hz11 := hc11.size
      clear h11 hc11
      have her0 : (er == 0) = false := by rcases her with rfl | rfl <;> rfl
      go_wp2_with fail
      refine (image_any H11.out.sit.drv).mono ?_
      rintro e w12 ⟨bn, rfl, hbn, hrn, hb12⟩
      have HB12 := Lib.hid (H11.out.below hb12).sit.bel
      have HRN := Lib.hid hrn
      have HRW2 := Lib.hid (HRW1.out.keep (w' := w12) hbw fun q hq1 hq2 => hb12.block q hq2)
      have HLL : Hid (s2.lasting.length = 100) := H9.out.sit.drv.down_.lasting
      have HLA : Hid (∀ z ∈ s2.lasting, z.length = 128) := by
        obtain ⟨L, hR, hw, hD⟩ := H9.out.on
        intro z hz
        rw [hR.las] at hz
        exact hw.all z hz
      clear hrn hb12
      generalize s2.lasting = LL at *
      go_wp2_with fail
      go_loopw [17] (fun i wr => ∃ j : Nat, j ≤ 100 ∧ i = .int .i64 j ∧ Hid (Below w12.heap.size w12 wr)) (fun i _ => 100 - (intOf i).toNat)
      case atStart => exact ⟨0, Nat.zero_le _, rfl, Below.refl _ _⟩
      case round =>
        obtain ⟨j, hj, rfl, HBR⟩ := hrel
        by_cases hlt : j < 100
        · obtain ⟨z, hz⟩ : ∃ z, LL[j]? = some z := ⟨_, List.getElem?_eq_getElem (by rw [HLL.out]; exact hlt)⟩
          have hzl := HLA.out z (List.mem_of_getElem? hz)
          obtain ⟨C1, k1, _, k3⟩ := HRW2.out
          obtain ⟨b1, m1, m2, m3, m4⟩ := k3 j z hlt hz
          obtain ⟨C2, n1, _, n3⟩ := HRN.out
          obtain ⟨b2, o1, o2, o3, o4⟩ := n3 j z hlt hz
          have cw : wr.cell? ⟨bw, j, none⟩ = some (.slice (some ⟨b1, 0, none⟩) 128 128) := by
            rw [cell_of ((HBR.out.block bw (Array.getElem?_eq_some_iff.1 k1).1).trans k1)]; exact m1
          have cn : wr.cell? ⟨bn, j, none⟩ = some (.slice (some ⟨b2, 0, none⟩) 128 128) := by
            rw [cell_of ((HBR.out.block bn (Array.getElem?_eq_some_iff.1 n1).1).trans n1)]; exact o1
          have f1 := blk_fbts ((HBR.out.block b1 (Array.getElem?_eq_some_iff.1 m4).1).trans m4) hzl
          have f2 := blk_fbts ((HBR.out.block b2 (Array.getElem?_eq_some_iff.1 o4).1).trans o4) hzl
          have v1 : ∀ n, (convert 22 9 (.slice (some ⟨b1, 0, none⟩) 128 128)).run Tryz.prog (wr.drewN n) = .ok (.string (U.sb z)) (wr.drewN n) := fun n => U.fstr f1 _ (U.below_drewN (Below.refl _ _) n)
          have v2 : ∀ n, (convert 22 9 (.slice (some ⟨b2, 0, none⟩) 128 128)).run Tryz.prog (wr.drewN n) = .ok (.string (U.sb z)) (wr.drewN n) := fun n => U.fstr f2 _ (U.below_drewN (Below.refl _ _) n)
          have HBN : Hid (∀ n, Below w12.heap.size w12 (wr.drewN n)) := fun n => U.below_drewN HBR.out n
          have hj0 : (0 : Int) ≤ (j : Int) := by omega
          have hj1 : (j : Int) < 100 := by omega
          generalize U.sb z = sz at *
          clear k1 k3 m1 m2 m3 m4 n1 n3 o1 o2 o3 o4 f1 f2 hz hzl
          go_upto_region 23 with fail
          go_quiet (fail)
          go_wp2_with fail
          go_roundw
          case rel => exact ⟨j + 1, by omega, by go_num, HBN.out _⟩
          case measure => simp [intOf]; omega
        · obtain rfl : j = 100 := by omega
          rw [show ((100 : Nat) : Int) = 100 from rfl]
          have HBF := Lib.hid (HB12.out.trans (HBR.out.mono HB12.out.size))
          rcases her with rfl | rfl
          all_goals
            go_wp2_with fail
            go_ret
            exact ⟨rfl, HBF.out⟩
    · have H11 := Lib.hid h11
      have HOK := Lib.hid hok
      have hoi := U.ok_iff.1 hok
      have hv0 : view (lay ((X1 100).set k l) (toW [(0, U.sec 100 (b' + 1) c')])) [] 0 = U.sec 100 (b' + 1) c' := lay_getD (N := 100) (m := [(0, U.sec 100 (b' + 1) c')]) (by rw [List.length_set, X1_len]) (MOk.one (by omega) (by omega) hok) (by omega)
      have HSU := Lib.hid (super_yes H11.out (by rw [hv0]; exact U.isSec_sec hok))
      rw [hv0, U.num_sec0 100 (b' + 1) c' (by omega), U.num_sec1 100 (b' + 1) c' (by omega), U.num_sec2 100 (b' + 1) c' (by omega)] at HSU
      obtain ⟨e1, he1⟩ : ∃ e1, b' + 1 = e1 := ⟨_, rfl⟩
      rw [he1] at HSU
      have hge : decide ((1 : Int) ≤ (e1 : Int)) = true := by simp; omega
      clear h11 hok hoi hv0 he1
      go_wp2_with fail
      refine HSU.out.mono ?_
      rintro e w12 ⟨rfl, hb⟩
      have HB12 := Lib.hid (H11.out.below hb).ons.sit.bel
      clear hb HSU
      go_wp2_with fail
      go_ret
      exact ⟨rfl, HB12.out⟩
end Go.Proofs.YthjjfncpongghaaGreat
