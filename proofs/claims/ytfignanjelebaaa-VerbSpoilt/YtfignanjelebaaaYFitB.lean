/- package verb: fits, kind by kind. (Written by program.) -/
import Derived.Test.YtfignanjelebaaaYFitP
import Derived.Laws.EntriesVeiled
namespace Go.Proofs.Ytfignanjelebaaa
open Go.RowKit
set_option linter.unusedVariables false
set_option maxRecDepth 100000 in
set_option maxHeartbeats 4000000 in
theorem fits_10 (v : Vb) (A : Option Addr) (n c : Nat) (hn : v.d.length = n) (hk : v.k = 10) (w : World) : Calls Try.prog 41 #[.agg (vc v A n c).toArray] w fun e w' => e = .returned (.bool (decide v.fit)) ∧ Below w.heap.size w w' := by
  rw [fit_10 hn hk]
  clear hn
  obtain ⟨r, hr⟩ : ∃ r, (((((true && decide (wthn v.nd 0 1073741824)) && decide (wthn v.gn 0 1073741824)) && decide (wthn v.a 0 1073741824)) && decide (wthn v.sz 1 256)) && decide (Vb.bare { v with nd := 0, gn := 0, a := 0, sz := 0 } n)) = r := ⟨_, rfl⟩
  rw [hr]
  have HR := Lib.hid hr
  clear hr
  obtain ⟨b1, b2, b3, bb, bz⟩ := box3 w (Obj.cells (vc v A n c).toArray 26) (Obj.cells #[.bool true] 4) (Obj.cells #[.func (.func 66) #[] #[.pointer (some ⟨w.heap.size + 1, 0, none⟩)]] 111)
  have S0 : Hid (St w.heap.size w.heap.size (w.heap.size + 1) (w.heap.size + 1 + 1) (vc v A n c) true w _) := ⟨b1, b2, b3, bb, Nat.le_refl _, by omega, by omega, by omega, by omega⟩
  have hck := (vc_cells b1).1
  clear b1 b2 b3 bb bz
  rw [hk] at hck
  clear hk
  go_enter Try.func41, Try.ntmps41
  go_upto_region 5 with fail
  generalize ((w.alloc (Obj.cells (vc v A n c).toArray 26)).alloc (Obj.cells #[.bool true] 4)).alloc (Obj.cells #[.func (.func 66) #[] #[.pointer (some ⟨w.heap.size + 1, 0, none⟩)]] 111) = W at *
  have hct := cell_in S0.out.fn 0
  go_wp2_with fail
  refine (handle_any v.nd v.gn S0.out rfl rfl).mono ?_
  rintro e w1 ⟨rfl, s1⟩
  have S1 := Lib.hid s1
  have hct := cell_in S1.out.fn 0
  clear s1 S0
  go_wp2_with fail
  refine (take_any (o := 9) v.a 0 1073741824 S1.out rfl).mono ?_
  rintro e w2 ⟨rfl, s2⟩
  have S2 := Lib.hid s2
  have hct := cell_in S2.out.fn 0
  clear s2 S1
  go_wp2_with fail
  refine (take_any (o := 10) v.sz 1 256 S2.out rfl).mono ?_
  rintro e w3 ⟨rfl, s3⟩
  have S3 := Lib.hid s3
  have hct := cell_in S3.out.fn 0
  clear s3 S2
  obtain ⟨q, hq⟩ : ∃ q, ((((true && decide (wthn v.nd 0 1073741824)) && decide (wthn v.gn 0 1073741824)) && decide (wthn v.a 0 1073741824)) && decide (wthn v.sz 1 256)) = q := ⟨_, rfl⟩
  have S : Hid (St w.heap.size w.heap.size (w.heap.size + 1) (w.heap.size + 1 + 1) (vc { v with nd := 0, gn := 0, a := 0, sz := 0 } A n c) q w w3) := by rw [← hq]; exact S3.out
  rw [hq] at HR
  have hok := cell_in S.out.okb 0
  have R := Lib.hid S.out.row
  clear hq S3
  cases q
  case false =>
    obtain rfl : r = false := by rw [← HR.out]; rfl
    go_wp2_with fail
    go_ret
    exact ⟨rfl, S.out.bel⟩
  have hr := HR.out
  rw [Bool.true_and] at hr
  go_wp2_with (first | (refine wpList_load_row rfl 26 _ rfl w.heap.size rfl _ _ _ R.out _ Try.underlying26 rfl s26 ?_) | fail)
  refine (bare_any _ _ _ _ _).mono ?_
  rintro e w9 ⟨rfl, hb⟩
  have HB := Lib.hid (S.out.bel.trans (hb.mono S.out.bel.size))
  clear hb S R hok
  rw [hr]
  clear hr
  go_wp2_with fail
  go_ret
  exact ⟨rfl, HB.out⟩
set_option maxRecDepth 100000 in
set_option maxHeartbeats 4000000 in
theorem fits_11 (v : Vb) (A : Option Addr) (n c : Nat) (hn : v.d.length = n) (hk : v.k = 11) (w : World) : Calls Try.prog 41 #[.agg (vc v A n c).toArray] w fun e w' => e = .returned (.bool (decide v.fit)) ∧ Below w.heap.size w w' := by
  rw [fit_11 hn hk]
  clear hn
  obtain ⟨r, hr⟩ : ∃ r, (((((true && decide (wthn v.nd 0 1073741824)) && decide (wthn v.gn 0 1073741824)) && decide (wthn v.a 0 1073741824)) && decide (wthn (n : Int) 1 256)) && decide (Vb.bare { v with nd := 0, gn := 0, a := 0 } 0)) = r := ⟨_, rfl⟩
  rw [hr]
  have HR := Lib.hid hr
  clear hr
  obtain ⟨b1, b2, b3, bb, bz⟩ := box3 w (Obj.cells (vc v A n c).toArray 26) (Obj.cells #[.bool true] 4) (Obj.cells #[.func (.func 66) #[] #[.pointer (some ⟨w.heap.size + 1, 0, none⟩)]] 111)
  have S0 : Hid (St w.heap.size w.heap.size (w.heap.size + 1) (w.heap.size + 1 + 1) (vc v A n c) true w _) := ⟨b1, b2, b3, bb, Nat.le_refl _, by omega, by omega, by omega, by omega⟩
  have hck := (vc_cells b1).1
  clear b1 b2 b3 bb bz
  rw [hk] at hck
  clear hk
  go_enter Try.func41, Try.ntmps41
  go_upto_region 5 with fail
  generalize ((w.alloc (Obj.cells (vc v A n c).toArray 26)).alloc (Obj.cells #[.bool true] 4)).alloc (Obj.cells #[.func (.func 66) #[] #[.pointer (some ⟨w.heap.size + 1, 0, none⟩)]] 111) = W at *
  have hct := cell_in S0.out.fn 0
  go_wp2_with fail
  refine (handle_any v.nd v.gn S0.out rfl rfl).mono ?_
  rintro e w1 ⟨rfl, s1⟩
  have S1 := Lib.hid s1
  have hct := cell_in S1.out.fn 0
  clear s1 S0
  go_wp2_with fail
  refine (take_any (o := 9) v.a 0 1073741824 S1.out rfl).mono ?_
  rintro e w2 ⟨rfl, s2⟩
  have S2 := Lib.hid s2
  have hct := cell_in S2.out.fn 0
  clear s2 S1
  obtain ⟨q0, hq0⟩ : ∃ q, (((true && decide (wthn v.nd 0 1073741824)) && decide (wthn v.gn 0 1073741824)) && decide (wthn v.a 0 1073741824)) = q := ⟨_, rfl⟩
  rw [hq0] at HR S2
  have hok := cell_in S2.out.okb 0
  have hfo := free_in S2.out.okb 0
  have hda : w2.cell? ⟨w.heap.size, 12, none⟩ = some (.slice A n c) := cell_in S2.out.row 12
  have HT : ∀ r, Hid (St w.heap.size w.heap.size (w.heap.size + 1) (w.heap.size + 1 + 1) (vc { v with nd := 0, gn := 0, a := 0 } none 0 0) r w ((w2.setCell ⟨w.heap.size + 1, 0, none⟩ (.bool r)).setCell ⟨w.heap.size, 12, none⟩ (.slice none 0 0))) := fun r => S2.out.put 12 (.slice none 0 0) r
  have H12 : ∀ r, Hid ((w2.setCell ⟨w.heap.size + 1, 0, none⟩ (.bool r)).heap[w.heap.size]? = some (.cells (vc { v with nd := 0, gn := 0, a := 0 } A n c).toArray 26 (0, 0))) := fun r => (Below.heap_setCell _ _ _ _ S2.out.gk).trans S2.out.row
  clear hq0 S2
  cases q0
  case false =>
    obtain rfl : r = false := by rw [← HR.out]; rfl
    have S := HT false
    have hd2 : (w2.setCell ⟨w.heap.size + 1, 0, none⟩ (.bool false)).cell? ⟨w.heap.size, 12, none⟩ = some (.slice A n c) := cell_in (H12 false).out 12
    have hf2 := free_in (H12 false).out 12
    have hok2 := cell_in S.out.okb 0
    have R := Lib.hid S.out.row
    clear HT H12
    go_wp2_with fail
    go_ret
    exact ⟨rfl, S.out.bel⟩
  have hr := HR.out
  rw [Bool.true_and] at hr
  by_cases hw : wthn (n : Int) 1 256
  case neg =>
    obtain rfl : r = false := by rw [← hr, decide_eq_false hw]; rfl
    clear hr
    have S := HT false
    have hd2 : (w2.setCell ⟨w.heap.size + 1, 0, none⟩ (.bool false)).cell? ⟨w.heap.size, 12, none⟩ = some (.slice A n c) := cell_in (H12 false).out 12
    have hf2 := free_in (H12 false).out 12
    have hok2 := cell_in S.out.okb 0
    have R := Lib.hid S.out.row
    clear HT H12
    go_wp2_with fail
    refine (within_any _ 1 256 _).mono ?_
    rintro e w8 ⟨rfl, rfl⟩
    rw [decide_eq_false hw]
    go_wp2_with fail
    go_ret
    exact ⟨rfl, S.out.bel⟩
  rw [decide_eq_true hw, Bool.true_and] at hr
  have S := HT true
  have hd2 : (w2.setCell ⟨w.heap.size + 1, 0, none⟩ (.bool true)).cell? ⟨w.heap.size, 12, none⟩ = some (.slice A n c) := cell_in (H12 true).out 12
  have hf2 := free_in (H12 true).out 12
  have hok2 := cell_in S.out.okb 0
  have R := Lib.hid S.out.row
  clear HT H12
  go_wp2_with fail
  refine (within_any _ 1 256 _).mono ?_
  rintro e w8 ⟨rfl, rfl⟩
  rw [decide_eq_true hw]
  go_wp2_with (first | (refine wpList_load_row rfl 26 _ rfl w.heap.size rfl _ _ _ R.out _ Try.underlying26 rfl s26 ?_) | fail)
  refine (bare_any _ _ _ _ _).mono ?_
  rintro e w9 ⟨rfl, hb⟩
  have HB := Lib.hid (S.out.bel.trans (hb.mono S.out.bel.size))
  clear hb S R hok
  rw [hr]
  clear hr
  go_wp2_with fail
  go_ret
  exact ⟨rfl, HB.out⟩
set_option maxRecDepth 100000 in
set_option maxHeartbeats 4000000 in
theorem fits_12 (v : Vb) (A : Option Addr) (n c : Nat) (hn : v.d.length = n) (hk : v.k = 12) (w : World) : Calls Try.prog 41 #[.agg (vc v A n c).toArray] w fun e w' => e = .returned (.bool (decide v.fit)) ∧ Below w.heap.size w w' := by
  rw [fit_12 hn hk]
  clear hn
  obtain ⟨r, hr⟩ : ∃ r, ((((true && decide (wthn v.nd 0 1073741824)) && decide (wthn v.gn 0 1073741824)) && decide (wthn v.sz 0 1073741824)) && decide (Vb.bare { v with nd := 0, gn := 0, sz := 0 } n)) = r := ⟨_, rfl⟩
  rw [hr]
  have HR := Lib.hid hr
  clear hr
  obtain ⟨b1, b2, b3, bb, bz⟩ := box3 w (Obj.cells (vc v A n c).toArray 26) (Obj.cells #[.bool true] 4) (Obj.cells #[.func (.func 66) #[] #[.pointer (some ⟨w.heap.size + 1, 0, none⟩)]] 111)
  have S0 : Hid (St w.heap.size w.heap.size (w.heap.size + 1) (w.heap.size + 1 + 1) (vc v A n c) true w _) := ⟨b1, b2, b3, bb, Nat.le_refl _, by omega, by omega, by omega, by omega⟩
  have hck := (vc_cells b1).1
  clear b1 b2 b3 bb bz
  rw [hk] at hck
  clear hk
  go_enter Try.func41, Try.ntmps41
  go_upto_region 5 with fail
  generalize ((w.alloc (Obj.cells (vc v A n c).toArray 26)).alloc (Obj.cells #[.bool true] 4)).alloc (Obj.cells #[.func (.func 66) #[] #[.pointer (some ⟨w.heap.size + 1, 0, none⟩)]] 111) = W at *
  have hct := cell_in S0.out.fn 0
  go_wp2_with fail
  refine (handle_any v.nd v.gn S0.out rfl rfl).mono ?_
  rintro e w1 ⟨rfl, s1⟩
  have S1 := Lib.hid s1
  have hct := cell_in S1.out.fn 0
  clear s1 S0
  go_wp2_with fail
  refine (take_any (o := 10) v.sz 0 1073741824 S1.out rfl).mono ?_
  rintro e w2 ⟨rfl, s2⟩
  have S2 := Lib.hid s2
  have hct := cell_in S2.out.fn 0
  clear s2 S1
  obtain ⟨q, hq⟩ : ∃ q, (((true && decide (wthn v.nd 0 1073741824)) && decide (wthn v.gn 0 1073741824)) && decide (wthn v.sz 0 1073741824)) = q := ⟨_, rfl⟩
  have S : Hid (St w.heap.size w.heap.size (w.heap.size + 1) (w.heap.size + 1 + 1) (vc { v with nd := 0, gn := 0, sz := 0 } A n c) q w w2) := by rw [← hq]; exact S2.out
  rw [hq] at HR
  have hok := cell_in S.out.okb 0
  have R := Lib.hid S.out.row
  clear hq S2
  cases q
  case false =>
    obtain rfl : r = false := by rw [← HR.out]; rfl
    go_wp2_with fail
    go_ret
    exact ⟨rfl, S.out.bel⟩
  have hr := HR.out
  rw [Bool.true_and] at hr
  go_wp2_with (first | (refine wpList_load_row rfl 26 _ rfl w.heap.size rfl _ _ _ R.out _ Try.underlying26 rfl s26 ?_) | fail)
  refine (bare_any _ _ _ _ _).mono ?_
  rintro e w9 ⟨rfl, hb⟩
  have HB := Lib.hid (S.out.bel.trans (hb.mono S.out.bel.size))
  clear hb S R hok
  rw [hr]
  clear hr
  go_wp2_with fail
  go_ret
  exact ⟨rfl, HB.out⟩
set_option maxRecDepth 100000 in
set_option maxHeartbeats 4000000 in
theorem fits_13 (v : Vb) (A : Option Addr) (n c : Nat) (hn : v.d.length = n) (hk : v.k = 13) (w : World) : Calls Try.prog 41 #[.agg (vc v A n c).toArray] w fun e w' => e = .returned (.bool (decide v.fit)) ∧ Below w.heap.size w w' := by
  rw [fit_13 hn hk]
  clear hn
  obtain ⟨r, hr⟩ : ∃ r, ((((true && decide (wthn v.nd 0 1073741824)) && decide (wthn v.gn 0 1073741824)) && decide (wthn v.md 1 2)) && decide (Vb.bare { v with nd := 0, gn := 0, md := 0 } n)) = r := ⟨_, rfl⟩
  rw [hr]
  have HR := Lib.hid hr
  clear hr
  obtain ⟨b1, b2, b3, bb, bz⟩ := box3 w (Obj.cells (vc v A n c).toArray 26) (Obj.cells #[.bool true] 4) (Obj.cells #[.func (.func 66) #[] #[.pointer (some ⟨w.heap.size + 1, 0, none⟩)]] 111)
  have S0 : Hid (St w.heap.size w.heap.size (w.heap.size + 1) (w.heap.size + 1 + 1) (vc v A n c) true w _) := ⟨b1, b2, b3, bb, Nat.le_refl _, by omega, by omega, by omega, by omega⟩
  have hck := (vc_cells b1).1
  clear b1 b2 b3 bb bz
  rw [hk] at hck
  clear hk
  go_enter Try.func41, Try.ntmps41
  go_upto_region 5 with fail
  generalize ((w.alloc (Obj.cells (vc v A n c).toArray 26)).alloc (Obj.cells #[.bool true] 4)).alloc (Obj.cells #[.func (.func 66) #[] #[.pointer (some ⟨w.heap.size + 1, 0, none⟩)]] 111) = W at *
  have hct := cell_in S0.out.fn 0
  go_wp2_with fail
  refine (handle_any v.nd v.gn S0.out rfl rfl).mono ?_
  rintro e w1 ⟨rfl, s1⟩
  have S1 := Lib.hid s1
  have hct := cell_in S1.out.fn 0
  clear s1 S0
  go_wp2_with fail
  refine (take_any (o := 11) v.md 1 2 S1.out rfl).mono ?_
  rintro e w2 ⟨rfl, s2⟩
  have S2 := Lib.hid s2
  have hct := cell_in S2.out.fn 0
  clear s2 S1
  obtain ⟨q, hq⟩ : ∃ q, (((true && decide (wthn v.nd 0 1073741824)) && decide (wthn v.gn 0 1073741824)) && decide (wthn v.md 1 2)) = q := ⟨_, rfl⟩
  have S : Hid (St w.heap.size w.heap.size (w.heap.size + 1) (w.heap.size + 1 + 1) (vc { v with nd := 0, gn := 0, md := 0 } A n c) q w w2) := by rw [← hq]; exact S2.out
  rw [hq] at HR
  have hok := cell_in S.out.okb 0
  have R := Lib.hid S.out.row
  clear hq S2
  cases q
  case false =>
    obtain rfl : r = false := by rw [← HR.out]; rfl
    go_wp2_with fail
    go_ret
    exact ⟨rfl, S.out.bel⟩
  have hr := HR.out
  rw [Bool.true_and] at hr
  go_wp2_with (first | (refine wpList_load_row rfl 26 _ rfl w.heap.size rfl _ _ _ R.out _ Try.underlying26 rfl s26 ?_) | fail)
  refine (bare_any _ _ _ _ _).mono ?_
  rintro e w9 ⟨rfl, hb⟩
  have HB := Lib.hid (S.out.bel.trans (hb.mono S.out.bel.size))
  clear hb S R hok
  rw [hr]
  clear hr
  go_wp2_with fail
  go_ret
  exact ⟨rfl, HB.out⟩
set_option maxRecDepth 100000 in
set_option maxHeartbeats 4000000 in
theorem fits_14 (v : Vb) (A : Option Addr) (n c : Nat) (hn : v.d.length = n) (hk : v.k = 14) (w : World) : Calls Try.prog 41 #[.agg (vc v A n c).toArray] w fun e w' => e = .returned (.bool (decide v.fit)) ∧ Below w.heap.size w w' := by
  rw [fit_14 hn hk]
  clear hn
  obtain ⟨r, hr⟩ : ∃ r, (((true && decide (wthn v.nd 0 1073741824)) && decide (wthn v.gn 0 1073741824)) && decide (Vb.bare { v with nd := 0, gn := 0 } n)) = r := ⟨_, rfl⟩
  rw [hr]
  have HR := Lib.hid hr
  clear hr
  obtain ⟨b1, b2, b3, bb, bz⟩ := box3 w (Obj.cells (vc v A n c).toArray 26) (Obj.cells #[.bool true] 4) (Obj.cells #[.func (.func 66) #[] #[.pointer (some ⟨w.heap.size + 1, 0, none⟩)]] 111)
  have S0 : Hid (St w.heap.size w.heap.size (w.heap.size + 1) (w.heap.size + 1 + 1) (vc v A n c) true w _) := ⟨b1, b2, b3, bb, Nat.le_refl _, by omega, by omega, by omega, by omega⟩
  have hck := (vc_cells b1).1
  clear b1 b2 b3 bb bz
  rw [hk] at hck
  clear hk
  go_enter Try.func41, Try.ntmps41
  go_upto_region 5 with fail
  generalize ((w.alloc (Obj.cells (vc v A n c).toArray 26)).alloc (Obj.cells #[.bool true] 4)).alloc (Obj.cells #[.func (.func 66) #[] #[.pointer (some ⟨w.heap.size + 1, 0, none⟩)]] 111) = W at *
  have hct := cell_in S0.out.fn 0
  go_wp2_with fail
  refine (handle_any v.nd v.gn S0.out rfl rfl).mono ?_
  rintro e w1 ⟨rfl, s1⟩
  have S1 := Lib.hid s1
  have hct := cell_in S1.out.fn 0
  clear s1 S0
  obtain ⟨q, hq⟩ : ∃ q, ((true && decide (wthn v.nd 0 1073741824)) && decide (wthn v.gn 0 1073741824)) = q := ⟨_, rfl⟩
  have S : Hid (St w.heap.size w.heap.size (w.heap.size + 1) (w.heap.size + 1 + 1) (vc { v with nd := 0, gn := 0 } A n c) q w w1) := by rw [← hq]; exact S1.out
  rw [hq] at HR
  have hok := cell_in S.out.okb 0
  have R := Lib.hid S.out.row
  clear hq S1
  cases q
  case false =>
    obtain rfl : r = false := by rw [← HR.out]; rfl
    go_wp2_with fail
    go_ret
    exact ⟨rfl, S.out.bel⟩
  have hr := HR.out
  rw [Bool.true_and] at hr
  go_wp2_with (first | (refine wpList_load_row rfl 26 _ rfl w.heap.size rfl _ _ _ R.out _ Try.underlying26 rfl s26 ?_) | fail)
  refine (bare_any _ _ _ _ _).mono ?_
  rintro e w9 ⟨rfl, hb⟩
  have HB := Lib.hid (S.out.bel.trans (hb.mono S.out.bel.size))
  clear hb S R hok
  rw [hr]
  clear hr
  go_wp2_with fail
  go_ret
  exact ⟨rfl, HB.out⟩
set_option maxRecDepth 100000 in
set_option maxHeartbeats 4000000 in
theorem fits_15 (v : Vb) (A : Option Addr) (n c : Nat) (hn : v.d.length = n) (hk : v.k = 15) (w : World) : Calls Try.prog 41 #[.agg (vc v A n c).toArray] w fun e w' => e = .returned (.bool (decide v.fit)) ∧ Below w.heap.size w w' := by
  rw [fit_15 hn hk]
  clear hn
  obtain ⟨r, hr⟩ : ∃ r, ((((true && decide (wthn v.nd 0 1073741824)) && decide (wthn v.gn 0 1073741824)) && decide (wthn v.md 1 2)) && decide (Vb.bare { v with nd := 0, gn := 0, md := 0 } n)) = r := ⟨_, rfl⟩
  rw [hr]
  have HR := Lib.hid hr
  clear hr
  obtain ⟨b1, b2, b3, bb, bz⟩ := box3 w (Obj.cells (vc v A n c).toArray 26) (Obj.cells #[.bool true] 4) (Obj.cells #[.func (.func 66) #[] #[.pointer (some ⟨w.heap.size + 1, 0, none⟩)]] 111)
  have S0 : Hid (St w.heap.size w.heap.size (w.heap.size + 1) (w.heap.size + 1 + 1) (vc v A n c) true w _) := ⟨b1, b2, b3, bb, Nat.le_refl _, by omega, by omega, by omega, by omega⟩
  have hck := (vc_cells b1).1
  clear b1 b2 b3 bb bz
  rw [hk] at hck
  clear hk
  go_enter Try.func41, Try.ntmps41
  go_upto_region 5 with fail
  generalize ((w.alloc (Obj.cells (vc v A n c).toArray 26)).alloc (Obj.cells #[.bool true] 4)).alloc (Obj.cells #[.func (.func 66) #[] #[.pointer (some ⟨w.heap.size + 1, 0, none⟩)]] 111) = W at *
  have hct := cell_in S0.out.fn 0
  go_wp2_with fail
  refine (handle_any v.nd v.gn S0.out rfl rfl).mono ?_
  rintro e w1 ⟨rfl, s1⟩
  have S1 := Lib.hid s1
  have hct := cell_in S1.out.fn 0
  clear s1 S0
  go_wp2_with fail
  refine (take_any (o := 11) v.md 1 2 S1.out rfl).mono ?_
  rintro e w2 ⟨rfl, s2⟩
  have S2 := Lib.hid s2
  have hct := cell_in S2.out.fn 0
  clear s2 S1
  obtain ⟨q, hq⟩ : ∃ q, (((true && decide (wthn v.nd 0 1073741824)) && decide (wthn v.gn 0 1073741824)) && decide (wthn v.md 1 2)) = q := ⟨_, rfl⟩
  have S : Hid (St w.heap.size w.heap.size (w.heap.size + 1) (w.heap.size + 1 + 1) (vc { v with nd := 0, gn := 0, md := 0 } A n c) q w w2) := by rw [← hq]; exact S2.out
  rw [hq] at HR
  have hok := cell_in S.out.okb 0
  have R := Lib.hid S.out.row
  clear hq S2
  cases q
  case false =>
    obtain rfl : r = false := by rw [← HR.out]; rfl
    go_wp2_with fail
    go_ret
    exact ⟨rfl, S.out.bel⟩
  have hr := HR.out
  rw [Bool.true_and] at hr
  go_wp2_with (first | (refine wpList_load_row rfl 26 _ rfl w.heap.size rfl _ _ _ R.out _ Try.underlying26 rfl s26 ?_) | fail)
  refine (bare_any _ _ _ _ _).mono ?_
  rintro e w9 ⟨rfl, hb⟩
  have HB := Lib.hid (S.out.bel.trans (hb.mono S.out.bel.size))
  clear hb S R hok
  rw [hr]
  clear hr
  go_wp2_with fail
  go_ret
  exact ⟨rfl, HB.out⟩
theorem fit_none {v : Vb} (hk : v.k ≠ 1 ∧ v.k ≠ 2 ∧ v.k ≠ 3 ∧ v.k ≠ 4 ∧ v.k ≠ 5 ∧ v.k ≠ 6 ∧ v.k ≠ 7 ∧ v.k ≠ 8 ∧ v.k ≠ 9 ∧ v.k ≠ 10 ∧ v.k ≠ 11 ∧ v.k ≠ 12 ∧ v.k ≠ 13 ∧ v.k ≠ 14 ∧ v.k ≠ 15) : decide v.fit = false := by
  refine decide_eq_false fun h => ?_
  have := hs_kind h.1
  omega
set_option maxRecDepth 100000 in
set_option maxHeartbeats 4000000 in
theorem fits_none (v : Vb) (A : Option Addr) (n c : Nat) (hk : v.k ≠ 1 ∧ v.k ≠ 2 ∧ v.k ≠ 3 ∧ v.k ≠ 4 ∧ v.k ≠ 5 ∧ v.k ≠ 6 ∧ v.k ≠ 7 ∧ v.k ≠ 8 ∧ v.k ≠ 9 ∧ v.k ≠ 10 ∧ v.k ≠ 11 ∧ v.k ≠ 12 ∧ v.k ≠ 13 ∧ v.k ≠ 14 ∧ v.k ≠ 15) (w : World) : Calls Try.prog 41 #[.agg (vc v A n c).toArray] w fun e w' => e = .returned (.bool (decide v.fit)) ∧ Below w.heap.size w w' := by
  rw [fit_none hk]
  obtain ⟨k1, k2, k3, k4, k5, k6, k7, k8, k9, k10, k11, k12, k13, k14, k15⟩ := hk
  have b1 := ib_f k1
  have b2 := ib_f k2
  have b3 := ib_f k3
  have b4 := ib_f k4
  have b5 := ib_f k5
  have b6 := ib_f k6
  have b7 := ib_f k7
  have b8 := ib_f k8
  have b9 := ib_f k9
  have b10 := ib_f k10
  have b11 := ib_f k11
  have b12 := ib_f k12
  have b13 := ib_f k13
  have b14 := ib_f k14
  have b15 := ib_f k15
  clear k1 k2 k3 k4 k5 k6 k7 k8 k9 k10 k11 k12 k13 k14 k15
  obtain ⟨b1, b2, b3, bb, bz⟩ := box3 w (Obj.cells (vc v A n c).toArray 26) (Obj.cells #[.bool true] 4) (Obj.cells #[.func (.func 66) #[] #[.pointer (some ⟨w.heap.size + 1, 0, none⟩)]] 111)
  have hck := (vc_cells b1).1
  have BB := Lib.hid bb
  clear b1 b2 b3 bb bz
  go_enter Try.func41, Try.ntmps41
  go_upto_region 5 with fail
  generalize ((w.alloc (Obj.cells (vc v A n c).toArray 26)).alloc (Obj.cells #[.bool true] 4)).alloc (Obj.cells #[.func (.func 66) #[] #[.pointer (some ⟨w.heap.size + 1, 0, none⟩)]] 111) = W at *
  go_wp2_with fail
  go_ret
  exact ⟨rfl, BB.out⟩
end Go.Proofs.Ytfignanjelebaaa
