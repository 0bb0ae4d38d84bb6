/- VerbSpoilt, walked over the bundle of contracts. -/
import Derived.Test.YtfignanjelebaaaVCtr
import Derived.Laws.ShiftsVarLaws
namespace Go.Proofs.Ytfignanjelebaaa.verbSpoilt
open Go.RowKit
set_option linter.unusedVariables false
/-- One byte of a slice of the call's own is stored. -/
theorem own_set {w : World} {base g cap m : Nat} {l : List UInt8} (h : w.ownsRow base 5 1 (.slice (some ⟨g, 0, none⟩) m cap) l.length (l.map bv)) (j : Nat) (y : UInt8) :
    (w.setCell ⟨g, j, none⟩ (bv y)).ownsRow base 5 1 (.slice (some ⟨g, 0, none⟩) m cap) (l.set j y).length ((l.set j y).map bv) := by
  refine ⟨by simp, ?_⟩
  rcases h.2 with ⟨e, _⟩ | ⟨g', cap', cur, e, hg, hh, hn, hm, hs, ht⟩
  · cases e
  · injection e with e1 e2 e3
    injection e1 with e1
    injection e1 with e1
    subst e1 e2 e3
    refine .inr ⟨g, cap, cur.setIfInBounds j (bv y), by rw [List.length_set], hg, heap_set hh j _, by rw [List.length_set]; exact hn, hm, by rw [Array.size_setIfInBounds]; exact hs, ?_⟩
    rw [List.length_set, Array.toList_setIfInBounds, List.take_set, ht, List.map_set]
theorem own_cell {w : World} {base g cap N j : Nat} {l : List UInt8} (h : w.ownsRow base 5 1 (.slice (some ⟨g, 0, none⟩) N cap) l.length (l.map bv)) (hl : l.length = N) (hj : j < N) :
    w.cell? ⟨g, j, none⟩ = some (.int .u8 ((l[j]?.getD 0).toNat : Int)) ∧ w.frozen? ⟨g, j, none⟩ = false := by
  constructor
  · obtain ⟨A, n, c, e, hB⟩ := own_holds h
    cases e
    obtain ⟨b, off, e, _, hc⟩ := hB.cell hj
    cases e
    rw [Nat.zero_add] at hc
    exact hc
  · rcases h.2 with ⟨e, _⟩ | ⟨g', cap', cur, e, hg, hh, _⟩
    · cases e
    · injection e with e1 e2 e3
      injection e1 with e1
      injection e1 with e1
      subst e1
      exact free_in hh j
theorem bit_val (x : UInt8) (e : Nat) : Value.int .u8 (bits .xor .u8 (x.toNat : Int) (2 ^ e % 256)) = bv (x ^^^ UInt8.ofNat (2 ^ e)) := by
  have hx := x.toNat_lt
  have e1 : (2 : Int) ^ e % 256 = ((2 ^ e % 256 : Nat) : Int) := by simp
  have hy : 2 ^ e % 256 < 256 := Nat.mod_lt _ (by omega)
  rw [e1, u8_xor_nat _ _ (by omega) hy]
  unfold bv
  rw [UInt8.toNat_xor, UInt8.toNat_ofNat']
/-- An empty slice that was just built. -/
theorem own_built (w : World) : (w.alloc (.cells #[] 5)).ownsRow w.heap.size 5 1 (.slice (some ⟨w.heap.size, 0, none⟩) 0 0) 0 [] :=
  ⟨rfl, .inr ⟨w.heap.size, 0, #[], rfl, Nat.le_refl _, heap_alloc_new w _, Nat.le_refl _, by decide, rfl, rfl⟩⟩
set_option maxRecDepth 100000 in
set_option maxHeartbeats 4000000 in
theorem walk (H : Verbs) (w : World) (v : Vb) (A : Option Addr) (n c : Nat) (hd : Bts w w.heap.size A n c v.d) (cut : Nat) (hcut : cut < 65536) (bit : Nat) (hbit : bit < 65536) (A' : Option Addr) (n' c' : Nat) (l : List UInt8) (h : Bts w w.heap.size A' n' c' l) (R : c' ≤ 140737488351232) :
    Calls Try.prog 9 #[.agg (vc v A n c).toArray, .int .u16 (cut : Int), .int .u16 (bit : Int), .slice A' n' c'] w fun e w' => e = .returned (.bool true) ∧ Below w.heap.size w w' := by
  obtain ⟨a0, ab, az⟩ := box1 w (Obj.cells (vc v A n c).toArray 26)
  have A0 := Lib.hid a0
  have AB := Lib.hid ab
  have HD := Lib.hid (hd.below ab)
  have HL := Lib.hid (h.below ab)
  have hlen' := h.len
  have hcap' := h.cap
  have hsz := ab.size
  clear a0 ab az hd h
  go_enter Try.func9, Try.ntmps9
  go_wp2_with (first | (refine wpList_load_row rfl 26 _ rfl w.heap.size rfl _ _ _ A0.out _ Try.underlying26 rfl s26 ?_) | fail)
  generalize w.alloc (Obj.cells (vc v A n c).toArray 26) = W at *
  refine (H.enc v A n c _ W HD.out hsz).mono ?_
  rintro e w1 ⟨hb1, ⟨hg, A1, n1, c1, hB1, rfl⟩ | ⟨hg, A1, n1, c1, hB1, rfl⟩⟩
  case inr =>
    have HB1 := Lib.hid (AB.out.trans (hb1.mono AB.out.size))
    clear hb1 hB1 hg A0 AB HD HL
    go_wp2_with fail
    refine (awake_any H _).mono ?_
    rintro e w2 ⟨rfl, hb2⟩
    have HB2 := Lib.hid (HB1.out.trans (hb2.mono HB1.out.size))
    clear hb2
    go_wp2_with fail
    refine (awake_any H _).mono ?_
    rintro e w3 ⟨rfl, hb3⟩
    have HB3 := Lib.hid (HB2.out.trans (hb3.mono HB2.out.size))
    clear hb3
    go_wp2_with fail
    go_ret
    exact ⟨rfl, HB3.out⟩
  have HG := Lib.hid hg
  have HB1 := Lib.hid (AB.out.trans (hb1.mono AB.out.size))
  have HL1 := Lib.hid (HL.out.below (hb1.mono hsz))
  have D1 := Lib.hid hB1
  have hn1 := hB1.len
  have hfl : v.frame.length ≤ 819 := hg.flen
  have hf7 : 7 ≤ v.frame.length := by rw [Vb.frame, fram_length]; omega
  clear hb1 hB1 hg A0 AB HD HL
  go_wp2_with fail
  refine (awake_any H _).mono ?_
  rintro e w2 ⟨rfl, hb2⟩
  have HB2 := Lib.hid (HB1.out.trans (hb2.mono HB1.out.size))
  have D2 := Lib.hid ((D1.out.below hb2).more hb2.size)
  have HL2 := Lib.hid (HL1.out.below (hb2.mono HB1.out.size))
  clear hb2 D1 HL1 HB1
  have hba := below_alloc w2 (.cells #[] 5)
  have hmn : cut % n1 < n1 := Nat.mod_lt _ (by omega)
  have hB3 := ((D2.out.below hba).more hba.size).head (Nat.le_of_lt hmn)
  obtain ⟨v3, w3, hr, ho, hgr⟩ := app_run (l := []) (l' := v.frame.take (cut % n1)) 24 (own_built w2) hB3 (by rw [List.length_nil, List.length_take]; omega) hba.size
  have hb3 : Below w2.heap.size w2 w3 := hba.grown hgr hba.size (fun j hj => by cases hj; exact Nat.le_refl _)
  obtain ⟨A3, n3, c3, rfl, hB4⟩ := own_holds ho
  have HR := Lib.hid hr
  have D3 := Lib.hid hB4
  have D3' := Lib.hid ((D2.out.below hb3).more hb3.size)
  have HB3 := Lib.hid (HB2.out.trans (hb3.mono HB2.out.size))
  have HL3 := Lib.hid (HL2.out.below (hb3.mono HB2.out.size))
  have hn3 : n3 ≤ 819 := by
    have := hB4.len
    rw [List.nil_append, List.length_take] at this
    omega
  have hc1 : n1 ≤ c1 := D2.out.cap
  have hcc : 0 ≤ (cut : Int) % (n1 : Int) ∧ (cut : Int) % (n1 : Int) ≤ (c1 : Int) := by
    have e : (cut : Int) % (n1 : Int) = ((cut % n1 : Nat) : Int) := by simp
    rw [e]
    omega
  clear hr ho hgr hb3 hB4 hba hB3 D2 HL2 HB2
  go_wp2_with (at_builtin; refine Lib.wpList_append_run _ rfl _ _ _ _ rfl _ _ rfl rfl _ _ HR.out ?_)
  clear hcc
  refine (H.dec A3 n3 c3 _ _ w3 D3.out (Nat.le_refl _) (by omega)).mono ?_
  rintro e w4 ⟨hb4, ⟨v', hv', hf', _⟩ | ⟨_, rfl⟩⟩
  case inl =>
    exfalso
    rw [List.nil_append] at hf'
    refine fram_cut (Nat.le_trans HG.out.len (by decide)) (Nat.le_trans hv'.len (by decide)) ?_ hf'
    rw [← Vb.frame, hn1]
    exact hmn
  obtain ⟨b0, bb, bz⟩ := box1 w4 (Obj.cells (vc zeroV none 0 0).toArray 26)
  have hb5 := hb4.trans (bb.mono hb4.size)
  have HB5 := Lib.hid (HB3.out.trans (hb5.mono HB3.out.size))
  have D5 := Lib.hid ((D3'.out.below hb5).more hb5.size)
  have HL5 := Lib.hid (HL3.out.below (hb5.mono HB3.out.size))
  clear hb4 b0 bb bz hb5 D3 D3' HB3 HL3 HR
  go_upto_region 5 with (first | (refine wpList_store_new rfl 26 _ _ rfl w4 _ (vc zeroV none 0 0).toArray rfl rfl s26 rfl (all_oneCell_toArray (vc_one _ _ _ _)) ?_) | fail)
  generalize w4.alloc (Obj.cells (vc zeroV none 0 0).toArray 26) = w5 at *
  have hba := below_alloc w5 (.cells #[] 5)
  have hB5 := (D5.out.below hba).more hba.size
  obtain ⟨v6, w6, hr6, ho6, hgr6⟩ := app_run (l := []) (l' := v.frame) 24 (own_built w5) hB5 (by rw [List.length_nil]; omega) hba.size
  have hb6 : Below w5.heap.size w5 w6 := hba.grown hgr6 hba.size (fun j hj => by cases hj; exact Nat.le_refl _)
  have hL6 := (HL5.out.below (hb6.mono HB5.out.size)).more (Nat.le_trans HB5.out.size hb6.size)
  obtain ⟨v7, w7, hr7, ho7, hgr7⟩ := app_run (l' := l) 24 ho6 hL6 (by rw [List.nil_append]; omega) hb6.size
  have hb7 : Below w5.heap.size w5 w7 := hb6.grown hgr7 hb6.size (fun j hj => (ho6.lt j hj).1)
  have HR6 := Lib.hid hr6
  have HR7 := Lib.hid hr7
  obtain ⟨A7, n7, c7, rfl, hB7⟩ := own_holds ho7
  have D7 := Lib.hid hB7
  have HB7 := Lib.hid (HB5.out.trans (hb7.mono HB5.out.size))
  have D7' := Lib.hid ((D5.out.below hb7).more hb7.size)
  have hn7 : n7 ≤ 281474976700000 := by
    have := hB7.len
    rw [List.nil_append, List.length_append] at this
    omega
  clear hr6 hr7 ho6 ho7 hgr6 hgr7 hb6 hb7 hL6 hB7 hba hB5 D5 HL5 HB5
  go_wp2_with (at_builtin; first | (refine Lib.wpList_append_run _ rfl _ _ _ _ rfl _ _ rfl rfl _ _ HR6.out ?_) | (refine Lib.wpList_append_run _ rfl _ _ _ _ rfl _ _ rfl rfl _ _ HR7.out ?_))
  refine (H.dec A7 n7 c7 _ _ w7 D7.out (Nat.le_refl _) hn7).mono ?_
  rintro e w8 ⟨hb8, hx⟩
  have hx : ∃ (x : Vb) (A8 : Option Addr) (n8 c8 : Nat) (g : Int), e = .returned (.tuple #[.agg (vc x A8 n8 c8).toArray, .int .i64 g]) ∧ ((g = 0 ∧ l = []) ∨ (g = 2 ∧ l ≠ [])) := by
    rcases hx with ⟨v', hv', hf', A8, n8, c8, _, e8⟩ | ⟨hno, e8⟩
    · refine ⟨v', A8, n8, c8, 0, e8, .inl ⟨rfl, ?_⟩⟩
      rw [List.nil_append] at hf'
      by_cases hl : l = []
      · exact hl
      · exact absurd hf' (fram_more (Nat.le_trans HG.out.len (by decide)) (Nat.le_trans hv'.len (by decide)) hl)
    · refine ⟨zeroV, none, 0, 0, 2, e8, .inr ⟨rfl, fun hl => ?_⟩⟩
      subst hl
      refine hno v HG.out ?_
      rw [List.nil_append, List.append_nil]
  obtain ⟨x, A8, n8, c8, gx, rfl, hgx⟩ := hx
  have HGX := Lib.hid hgx
  obtain ⟨b0, bb, bz⟩ := box1 w8 (Obj.cells (vc x A8 n8 c8).toArray 26)
  have hb9 := hb8.trans (bb.mono hb8.size)
  have HB9 := Lib.hid (HB7.out.trans (hb9.mono HB7.out.size))
  have D9 := Lib.hid ((D7'.out.below hb9).more hb9.size)
  clear hb8 b0 bb bz hb9 D7 D7' HB7 HR6 HR7 hgx
  go_upto_region 6 with (first | (refine wpList_store_new rfl 26 _ _ rfl w8 _ (vc x A8 n8 c8).toArray rfl rfl s26 rfl (all_oneCell_toArray (vc_one _ _ _ _)) ?_) | fail)
  generalize w8.alloc (Obj.cells (vc x A8 n8 c8).toArray 26) = w9 at *
  have hba := below_alloc w9 (.cells #[] 5)
  have hB9 := (D9.out.below hba).more hba.size
  obtain ⟨v10, w10, hr10, ho10, hgr10⟩ := app_run (l := []) (l' := v.frame) 24 (own_built w9) hB9 (by rw [List.length_nil]; omega) hba.size
  have hb10 : Below w9.heap.size w9 w10 := hba.grown hgr10 hba.size (fun j hj => by cases hj; exact Nat.le_refl _)
  rw [List.nil_append] at ho10
  obtain ⟨g, cap, rfl, hg⟩ : ∃ g cap, v10 = .slice (some ⟨g, 0, none⟩) n1 cap ∧ w9.heap.size ≤ g := by
    rcases ho10.2 with ⟨_, h0⟩ | ⟨g, cap, cur, e, hg, _⟩
    · omega
    · exact ⟨g, cap, by rw [e, hn1], hg⟩
  have HR10 := Lib.hid hr10
  have HO10 := Lib.hid ho10
  have HB10 := Lib.hid (HB9.out.trans (hb10.mono HB9.out.size))
  have hgw : w.heap.size ≤ g := Nat.le_trans HB9.out.size hg
  clear hr10 ho10 hgr10 hb10 hB9 hba D9 HB9
  go_upto_region 7 with (at_builtin; refine Lib.wpList_append_run _ rfl _ _ _ _ rfl _ _ rfl rfl _ _ HR10.out ?_)
  have hq : bit / 8 % n1 < n1 := Nat.mod_lt _ (by omega)
  obtain ⟨hcell, hfree⟩ := own_cell HO10.out hn1 hq
  obtain ⟨y, hy⟩ : ∃ y, v.frame[bit / 8 % n1]?.getD 0 = y := ⟨_, rfl⟩
  rw [hy] at hcell
  have HY := Lib.hid hy
  have hq2 : 0 ≤ (bit : Int) / 8 % (n1 : Int) ∧ (bit : Int) / 8 % (n1 : Int) < (n1 : Int) := by
    have e : (bit : Int) / 8 % (n1 : Int) = ((bit / 8 % n1 : Nat) : Int) := by simp
    rw [e]
    omega
  clear HR10 hy
  go_wp2_with fail
  rw [bit_val]
  have ho11 := own_set HO10.out (bit / 8 % n1) (y ^^^ UInt8.ofNat (2 ^ (bit % 8)))
  obtain ⟨A11, n11, c11, e11, hB11⟩ := own_holds ho11
  cases e11
  have D11 := Lib.hid hB11
  have HB11 := Lib.hid (HB10.out.setCell (p := ⟨g, bit / 8 % n1, none⟩) hgw (bv (y ^^^ UInt8.ofNat (2 ^ (bit % 8)))))
  clear ho11 hB11 HO10 HB10 hcell hfree hq2
  generalize w10.setCell ⟨g, bit / 8 % n1, none⟩ (bv (y ^^^ UInt8.ofNat (2 ^ (bit % 8)))) = w11 at *
  refine (H.dec _ n1 cap _ _ w11 D11.out (Nat.le_refl _) (by omega)).mono ?_
  rintro e w12 ⟨hb12, ⟨v', hv', hf', _⟩ | ⟨_, rfl⟩⟩
  case inl =>
    exfalso
    have hp1 : (8 * (bit / 8 % n1) + bit % 8) / 8 = bit / 8 % n1 := by omega
    have hp2 : (8 * (bit / 8 % n1) + bit % 8) % 8 = bit % 8 := by omega
    have ht := fram_turned (a := 81) (b := 81) (x := v.body) (y := v'.body) (p := 8 * (bit / 8 % n1) + bit % 8) (by rw [hp1, ← Vb.frame, hn1]; exact hq)
    rw [hp1, hp2, ← Vb.frame, HY.out] at ht
    exact ht hf'
  obtain ⟨b0, bb, bz⟩ := box1 w12 (Obj.cells (vc zeroV none 0 0).toArray 26)
  have HB13 := Lib.hid (HB11.out.trans ((hb12.trans (bb.mono hb12.size)).mono HB11.out.size))
  clear hb12 b0 bb bz D11 HB11
  rcases HGX.out with ⟨rfl, hl⟩ | ⟨rfl, hl⟩
  · subst hl
    obtain rfl : n' = 0 := by rw [← hlen']; rfl
    go_wp2_with (first | (refine wpList_store_new rfl 26 _ _ rfl w12 _ (vc zeroV none 0 0).toArray rfl rfl s26 rfl (all_oneCell_toArray (vc_one _ _ _ _)) ?_) | fail)
    go_ret
    exact ⟨rfl, HB13.out⟩
  · have hz : ((n' : Int) == 0) = false := by
      rw [beq_eq_false_iff_ne]
      have := List.length_pos_iff.2 hl
      omega
    go_wp2_with (first | (refine wpList_store_new rfl 26 _ _ rfl w12 _ (vc zeroV none 0 0).toArray rfl rfl s26 rfl (all_oneCell_toArray (vc_one _ _ _ _)) ?_) | fail)
    go_ret
    exact ⟨rfl, HB13.out⟩
end Go.Proofs.Ytfignanjelebaaa.verbSpoilt
