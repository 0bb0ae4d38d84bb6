/- package verb: fits, kind by kind. (Written by program.) -/
import Derived.Test.YtfignanjelebaaaYFitP
import Derived.Laws.EntriesVeiled
namespace Go.Proofs.Ytfignanjelebaaa
open Go.RowKit
set_option linter.unusedVariables false
set_option maxRecDepth 100000 in
set_option maxHeartbeats 4000000 in
theorem fits_1 (v : Vb) (A : Option Addr) (n c : Nat) (hn : v.d.length = n) (hk : v.k = 1) (w : World) : Calls Try.prog 41 #[.agg (vc v A n c).toArray] w fun e w' => e = .returned (.bool (decide v.fit)) ∧ Below w.heap.size w w' := by
  rw [fit_1 hn hk]
  clear hn
  obtain ⟨r, hr⟩ : ∃ r, (true && decide (Vb.bare v n)) = r := ⟨_, rfl⟩
  rw [hr]
  have HR := Lib.hid hr
  clear hr
  obtain ⟨b1, b2, b3, bb, bz⟩ := box3 w (Obj.cells (vc v A n c).toArray 26) (Obj.cells #[.bool true] 4) (Obj.cells #[.func (.func 66) #[] #[.pointer (some ⟨w.heap.size + 1, 0, none⟩)]] 111)
  have S0 : Hid (St w.heap.size w.heap.size (w.heap.size + 1) (w.heap.size + 1 + 1) (vc v A n c) true w _) := ⟨b1, b2, b3, bb, Nat.le_refl _, by omega, by omega, by omega, by omega⟩
  have hck := (vc_cells b1).1
  clear b1 b2 b3 bb bz
  rw [hk] at hck
  clear hk
  go_enter Try.func41, Try.ntmps41
  go_upto_region 5 with fail
  generalize ((w.alloc (Obj.cells (vc v A n c).toArray 26)).alloc (Obj.cells #[.bool true] 4)).alloc (Obj.cells #[.func (.func 66) #[] #[.pointer (some ⟨w.heap.size + 1, 0, none⟩)]] 111) = W at *
  have hct := cell_in S0.out.fn 0
  obtain ⟨q, hq⟩ : ∃ q, true = q := ⟨_, rfl⟩
  have S : Hid (St w.heap.size w.heap.size (w.heap.size + 1) (w.heap.size + 1 + 1) (vc v A n c) q w W) := by rw [← hq]; exact S0.out
  rw [hq] at HR
  have hok := cell_in S.out.okb 0
  have R := Lib.hid S.out.row
  clear hq S0
  cases q
  case false =>
    obtain rfl : r = false := by rw [← HR.out]; rfl
    go_wp2_with fail
    go_ret
    exact ⟨rfl, S.out.bel⟩
  have hr := HR.out
  rw [Bool.true_and] at hr
  go_wp2_with (first | (refine wpList_load_row rfl 26 _ rfl w.heap.size rfl _ _ _ R.out _ Try.underlying26 rfl s26 ?_) | fail)
  refine (bare_any _ _ _ _ _).mono ?_
  rintro e w9 ⟨rfl, hb⟩
  have HB := Lib.hid (S.out.bel.trans (hb.mono S.out.bel.size))
  clear hb S R hok
  rw [hr]
  clear hr
  go_wp2_with fail
  go_ret
  exact ⟨rfl, HB.out⟩
set_option maxRecDepth 100000 in
set_option maxHeartbeats 4000000 in
theorem fits_2 (v : Vb) (A : Option Addr) (n c : Nat) (hn : v.d.length = n) (hk : v.k = 2) (w : World) : Calls Try.prog 41 #[.agg (vc v A n c).toArray] w fun e w' => e = .returned (.bool (decide v.fit)) ∧ Below w.heap.size w w' := by
  rw [fit_2 hn hk]
  clear hn
  obtain ⟨r, hr⟩ : ∃ r, ((true && decide (v.p.length ≤ 255)) && decide (Vb.bare { v with p := [] } n)) = r := ⟨_, rfl⟩
  rw [hr]
  have HR := Lib.hid hr
  clear hr
  obtain ⟨b1, b2, b3, bb, bz⟩ := box3 w (Obj.cells (vc v A n c).toArray 26) (Obj.cells #[.bool true] 4) (Obj.cells #[.func (.func 66) #[] #[.pointer (some ⟨w.heap.size + 1, 0, none⟩)]] 111)
  have S0 : Hid (St w.heap.size w.heap.size (w.heap.size + 1) (w.heap.size + 1 + 1) (vc v A n c) true w _) := ⟨b1, b2, b3, bb, Nat.le_refl _, by omega, by omega, by omega, by omega⟩
  have hck := (vc_cells b1).1
  clear b1 b2 b3 bb bz
  rw [hk] at hck
  clear hk
  go_enter Try.func41, Try.ntmps41
  go_upto_region 5 with fail
  generalize ((w.alloc (Obj.cells (vc v A n c).toArray 26)).alloc (Obj.cells #[.bool true] 4)).alloc (Obj.cells #[.func (.func 66) #[] #[.pointer (some ⟨w.heap.size + 1, 0, none⟩)]] 111) = W at *
  have hct := cell_in S0.out.fn 0
  go_wp2_with fail
  refine (path_any (o := 5) v.p S0.out rfl).mono ?_
  rintro e w1 ⟨rfl, s1⟩
  have S1 := Lib.hid s1
  have hct := cell_in S1.out.fn 0
  clear s1 S0
  obtain ⟨q, hq⟩ : ∃ q, (true && decide (v.p.length ≤ 255)) = q := ⟨_, rfl⟩
  have S : Hid (St w.heap.size w.heap.size (w.heap.size + 1) (w.heap.size + 1 + 1) (vc { v with p := [] } A n c) q w w1) := by rw [← hq]; exact S1.out
  rw [hq] at HR
  have hok := cell_in S.out.okb 0
  have R := Lib.hid S.out.row
  clear hq S1
  cases q
  case false =>
    obtain rfl : r = false := by rw [← HR.out]; rfl
    go_wp2_with fail
    go_ret
    exact ⟨rfl, S.out.bel⟩
  have hr := HR.out
  rw [Bool.true_and] at hr
  go_wp2_with (first | (refine wpList_load_row rfl 26 _ rfl w.heap.size rfl _ _ _ R.out _ Try.underlying26 rfl s26 ?_) | fail)
  refine (bare_any _ _ _ _ _).mono ?_
  rintro e w9 ⟨rfl, hb⟩
  have HB := Lib.hid (S.out.bel.trans (hb.mono S.out.bel.size))
  clear hb S R hok
  rw [hr]
  clear hr
  go_wp2_with fail
  go_ret
  exact ⟨rfl, HB.out⟩
set_option maxRecDepth 100000 in
set_option maxHeartbeats 4000000 in
theorem fits_3 (v : Vb) (A : Option Addr) (n c : Nat) (hn : v.d.length = n) (hk : v.k = 3) (w : World) : Calls Try.prog 41 #[.agg (vc v A n c).toArray] w fun e w' => e = .returned (.bool (decide v.fit)) ∧ Below w.heap.size w w' := by
  rw [fit_3 hn hk]
  clear hn
  obtain ⟨r, hr⟩ : ∃ r, ((true && decide (v.p.length ≤ 255)) && decide (Vb.bare { v with p := [] } n)) = r := ⟨_, rfl⟩
  rw [hr]
  have HR := Lib.hid hr
  clear hr
  obtain ⟨b1, b2, b3, bb, bz⟩ := box3 w (Obj.cells (vc v A n c).toArray 26) (Obj.cells #[.bool true] 4) (Obj.cells #[.func (.func 66) #[] #[.pointer (some ⟨w.heap.size + 1, 0, none⟩)]] 111)
  have S0 : Hid (St w.heap.size w.heap.size (w.heap.size + 1) (w.heap.size + 1 + 1) (vc v A n c) true w _) := ⟨b1, b2, b3, bb, Nat.le_refl _, by omega, by omega, by omega, by omega⟩
  have hck := (vc_cells b1).1
  clear b1 b2 b3 bb bz
  rw [hk] at hck
  clear hk
  go_enter Try.func41, Try.ntmps41
  go_upto_region 5 with fail
  generalize ((w.alloc (Obj.cells (vc v A n c).toArray 26)).alloc (Obj.cells #[.bool true] 4)).alloc (Obj.cells #[.func (.func 66) #[] #[.pointer (some ⟨w.heap.size + 1, 0, none⟩)]] 111) = W at *
  have hct := cell_in S0.out.fn 0
  go_wp2_with fail
  refine (path_any (o := 5) v.p S0.out rfl).mono ?_
  rintro e w1 ⟨rfl, s1⟩
  have S1 := Lib.hid s1
  have hct := cell_in S1.out.fn 0
  clear s1 S0
  obtain ⟨q, hq⟩ : ∃ q, (true && decide (v.p.length ≤ 255)) = q := ⟨_, rfl⟩
  have S : Hid (St w.heap.size w.heap.size (w.heap.size + 1) (w.heap.size + 1 + 1) (vc { v with p := [] } A n c) q w w1) := by rw [← hq]; exact S1.out
  rw [hq] at HR
  have hok := cell_in S.out.okb 0
  have R := Lib.hid S.out.row
  clear hq S1
  cases q
  case false =>
    obtain rfl : r = false := by rw [← HR.out]; rfl
    go_wp2_with fail
    go_ret
    exact ⟨rfl, S.out.bel⟩
  have hr := HR.out
  rw [Bool.true_and] at hr
  go_wp2_with (first | (refine wpList_load_row rfl 26 _ rfl w.heap.size rfl _ _ _ R.out _ Try.underlying26 rfl s26 ?_) | fail)
  refine (bare_any _ _ _ _ _).mono ?_
  rintro e w9 ⟨rfl, hb⟩
  have HB := Lib.hid (S.out.bel.trans (hb.mono S.out.bel.size))
  clear hb S R hok
  rw [hr]
  clear hr
  go_wp2_with fail
  go_ret
  exact ⟨rfl, HB.out⟩
set_option maxRecDepth 100000 in
set_option maxHeartbeats 4000000 in
theorem fits_4 (v : Vb) (A : Option Addr) (n c : Nat) (hn : v.d.length = n) (hk : v.k = 4) (w : World) : Calls Try.prog 41 #[.agg (vc v A n c).toArray] w fun e w' => e = .returned (.bool (decide v.fit)) ∧ Below w.heap.size w w' := by
  rw [fit_4 hn hk]
  clear hn
  obtain ⟨r, hr⟩ : ∃ r, ((true && decide (v.p.length ≤ 255)) && decide (Vb.bare { v with p := [] } n)) = r := ⟨_, rfl⟩
  rw [hr]
  have HR := Lib.hid hr
  clear hr
  obtain ⟨b1, b2, b3, bb, bz⟩ := box3 w (Obj.cells (vc v A n c).toArray 26) (Obj.cells #[.bool true] 4) (Obj.cells #[.func (.func 66) #[] #[.pointer (some ⟨w.heap.size + 1, 0, none⟩)]] 111)
  have S0 : Hid (St w.heap.size w.heap.size (w.heap.size + 1) (w.heap.size + 1 + 1) (vc v A n c) true w _) := ⟨b1, b2, b3, bb, Nat.le_refl _, by omega, by omega, by omega, by omega⟩
  have hck := (vc_cells b1).1
  clear b1 b2 b3 bb bz
  rw [hk] at hck
  clear hk
  go_enter Try.func41, Try.ntmps41
  go_upto_region 5 with fail
  generalize ((w.alloc (Obj.cells (vc v A n c).toArray 26)).alloc (Obj.cells #[.bool true] 4)).alloc (Obj.cells #[.func (.func 66) #[] #[.pointer (some ⟨w.heap.size + 1, 0, none⟩)]] 111) = W at *
  have hct := cell_in S0.out.fn 0
  go_wp2_with fail
  refine (path_any (o := 5) v.p S0.out rfl).mono ?_
  rintro e w1 ⟨rfl, s1⟩
  have S1 := Lib.hid s1
  have hct := cell_in S1.out.fn 0
  clear s1 S0
  obtain ⟨q, hq⟩ : ∃ q, (true && decide (v.p.length ≤ 255)) = q := ⟨_, rfl⟩
  have S : Hid (St w.heap.size w.heap.size (w.heap.size + 1) (w.heap.size + 1 + 1) (vc { v with p := [] } A n c) q w w1) := by rw [← hq]; exact S1.out
  rw [hq] at HR
  have hok := cell_in S.out.okb 0
  have R := Lib.hid S.out.row
  clear hq S1
  cases q
  case false =>
    obtain rfl : r = false := by rw [← HR.out]; rfl
    go_wp2_with fail
    go_ret
    exact ⟨rfl, S.out.bel⟩
  have hr := HR.out
  rw [Bool.true_and] at hr
  go_wp2_with (first | (refine wpList_load_row rfl 26 _ rfl w.heap.size rfl _ _ _ R.out _ Try.underlying26 rfl s26 ?_) | fail)
  refine (bare_any _ _ _ _ _).mono ?_
  rintro e w9 ⟨rfl, hb⟩
  have HB := Lib.hid (S.out.bel.trans (hb.mono S.out.bel.size))
  clear hb S R hok
  rw [hr]
  clear hr
  go_wp2_with fail
  go_ret
  exact ⟨rfl, HB.out⟩
set_option maxRecDepth 100000 in
set_option maxHeartbeats 4000000 in
theorem fits_5 (v : Vb) (A : Option Addr) (n c : Nat) (hn : v.d.length = n) (hk : v.k = 5) (w : World) : Calls Try.prog 41 #[.agg (vc v A n c).toArray] w fun e w' => e = .returned (.bool (decide v.fit)) ∧ Below w.heap.size w w' := by
  rw [fit_5 hn hk]
  clear hn
  obtain ⟨r, hr⟩ : ∃ r, (((true && decide (v.p.length ≤ 255)) && decide (v.o.length ≤ 255)) && decide (Vb.bare { v with p := [], o := [] } n)) = r := ⟨_, rfl⟩
  rw [hr]
  have HR := Lib.hid hr
  clear hr
  obtain ⟨b1, b2, b3, bb, bz⟩ := box3 w (Obj.cells (vc v A n c).toArray 26) (Obj.cells #[.bool true] 4) (Obj.cells #[.func (.func 66) #[] #[.pointer (some ⟨w.heap.size + 1, 0, none⟩)]] 111)
  have S0 : Hid (St w.heap.size w.heap.size (w.heap.size + 1) (w.heap.size + 1 + 1) (vc v A n c) true w _) := ⟨b1, b2, b3, bb, Nat.le_refl _, by omega, by omega, by omega, by omega⟩
  have hck := (vc_cells b1).1
  clear b1 b2 b3 bb bz
  rw [hk] at hck
  clear hk
  go_enter Try.func41, Try.ntmps41
  go_upto_region 5 with fail
  generalize ((w.alloc (Obj.cells (vc v A n c).toArray 26)).alloc (Obj.cells #[.bool true] 4)).alloc (Obj.cells #[.func (.func 66) #[] #[.pointer (some ⟨w.heap.size + 1, 0, none⟩)]] 111) = W at *
  have hct := cell_in S0.out.fn 0
  go_wp2_with fail
  refine (path_any (o := 5) v.p S0.out rfl).mono ?_
  rintro e w1 ⟨rfl, s1⟩
  have S1 := Lib.hid s1
  have hct := cell_in S1.out.fn 0
  clear s1 S0
  go_wp2_with fail
  refine (path_any (o := 6) v.o S1.out rfl).mono ?_
  rintro e w2 ⟨rfl, s2⟩
  have S2 := Lib.hid s2
  have hct := cell_in S2.out.fn 0
  clear s2 S1
  obtain ⟨q, hq⟩ : ∃ q, ((true && decide (v.p.length ≤ 255)) && decide (v.o.length ≤ 255)) = q := ⟨_, rfl⟩
  have S : Hid (St w.heap.size w.heap.size (w.heap.size + 1) (w.heap.size + 1 + 1) (vc { v with p := [], o := [] } A n c) q w w2) := by rw [← hq]; exact S2.out
  rw [hq] at HR
  have hok := cell_in S.out.okb 0
  have R := Lib.hid S.out.row
  clear hq S2
  cases q
  case false =>
    obtain rfl : r = false := by rw [← HR.out]; rfl
    go_wp2_with fail
    go_ret
    exact ⟨rfl, S.out.bel⟩
  have hr := HR.out
  rw [Bool.true_and] at hr
  go_wp2_with (first | (refine wpList_load_row rfl 26 _ rfl w.heap.size rfl _ _ _ R.out _ Try.underlying26 rfl s26 ?_) | fail)
  refine (bare_any _ _ _ _ _).mono ?_
  rintro e w9 ⟨rfl, hb⟩
  have HB := Lib.hid (S.out.bel.trans (hb.mono S.out.bel.size))
  clear hb S R hok
  rw [hr]
  clear hr
  go_wp2_with fail
  go_ret
  exact ⟨rfl, HB.out⟩
set_option maxRecDepth 100000 in
set_option maxHeartbeats 4000000 in
theorem fits_6 (v : Vb) (A : Option Addr) (n c : Nat) (hn : v.d.length = n) (hk : v.k = 6) (w : World) : Calls Try.prog 41 #[.agg (vc v A n c).toArray] w fun e w' => e = .returned (.bool (decide v.fit)) ∧ Below w.heap.size w w' := by
  rw [fit_6 hn hk]
  clear hn
  obtain ⟨r, hr⟩ : ∃ r, ((true && decide (v.p.length ≤ 255)) && decide (Vb.bare { v with p := [] } n)) = r := ⟨_, rfl⟩
  rw [hr]
  have HR := Lib.hid hr
  clear hr
  obtain ⟨b1, b2, b3, bb, bz⟩ := box3 w (Obj.cells (vc v A n c).toArray 26) (Obj.cells #[.bool true] 4) (Obj.cells #[.func (.func 66) #[] #[.pointer (some ⟨w.heap.size + 1, 0, none⟩)]] 111)
  have S0 : Hid (St w.heap.size w.heap.size (w.heap.size + 1) (w.heap.size + 1 + 1) (vc v A n c) true w _) := ⟨b1, b2, b3, bb, Nat.le_refl _, by omega, by omega, by omega, by omega⟩
  have hck := (vc_cells b1).1
  clear b1 b2 b3 bb bz
  rw [hk] at hck
  clear hk
  go_enter Try.func41, Try.ntmps41
  go_upto_region 5 with fail
  generalize ((w.alloc (Obj.cells (vc v A n c).toArray 26)).alloc (Obj.cells #[.bool true] 4)).alloc (Obj.cells #[.func (.func 66) #[] #[.pointer (some ⟨w.heap.size + 1, 0, none⟩)]] 111) = W at *
  have hct := cell_in S0.out.fn 0
  go_wp2_with fail
  refine (path_any (o := 5) v.p S0.out rfl).mono ?_
  rintro e w1 ⟨rfl, s1⟩
  have S1 := Lib.hid s1
  have hct := cell_in S1.out.fn 0
  clear s1 S0
  obtain ⟨q, hq⟩ : ∃ q, (true && decide (v.p.length ≤ 255)) = q := ⟨_, rfl⟩
  have S : Hid (St w.heap.size w.heap.size (w.heap.size + 1) (w.heap.size + 1 + 1) (vc { v with p := [] } A n c) q w w1) := by rw [← hq]; exact S1.out
  rw [hq] at HR
  have hok := cell_in S.out.okb 0
  have R := Lib.hid S.out.row
  clear hq S1
  cases q
  case false =>
    obtain rfl : r = false := by rw [← HR.out]; rfl
    go_wp2_with fail
    go_ret
    exact ⟨rfl, S.out.bel⟩
  have hr := HR.out
  rw [Bool.true_and] at hr
  go_wp2_with (first | (refine wpList_load_row rfl 26 _ rfl w.heap.size rfl _ _ _ R.out _ Try.underlying26 rfl s26 ?_) | fail)
  refine (bare_any _ _ _ _ _).mono ?_
  rintro e w9 ⟨rfl, hb⟩
  have HB := Lib.hid (S.out.bel.trans (hb.mono S.out.bel.size))
  clear hb S R hok
  rw [hr]
  clear hr
  go_wp2_with fail
  go_ret
  exact ⟨rfl, HB.out⟩
set_option maxRecDepth 100000 in
set_option maxHeartbeats 4000000 in
theorem fits_7 (v : Vb) (A : Option Addr) (n c : Nat) (hn : v.d.length = n) (hk : v.k = 7) (w : World) : Calls Try.prog 41 #[.agg (vc v A n c).toArray] w fun e w' => e = .returned (.bool (decide v.fit)) ∧ Below w.heap.size w w' := by
  rw [fit_7 hn hk]
  clear hn
  obtain ⟨r, hr⟩ : ∃ r, ((true && decide (v.p.length ≤ 255)) && decide (Vb.bare { v with p := [] } n)) = r := ⟨_, rfl⟩
  rw [hr]
  have HR := Lib.hid hr
  clear hr
  obtain ⟨b1, b2, b3, bb, bz⟩ := box3 w (Obj.cells (vc v A n c).toArray 26) (Obj.cells #[.bool true] 4) (Obj.cells #[.func (.func 66) #[] #[.pointer (some ⟨w.heap.size + 1, 0, none⟩)]] 111)
  have S0 : Hid (St w.heap.size w.heap.size (w.heap.size + 1) (w.heap.size + 1 + 1) (vc v A n c) true w _) := ⟨b1, b2, b3, bb, Nat.le_refl _, by omega, by omega, by omega, by omega⟩
  have hck := (vc_cells b1).1
  clear b1 b2 b3 bb bz
  rw [hk] at hck
  clear hk
  go_enter Try.func41, Try.ntmps41
  go_upto_region 5 with fail
  generalize ((w.alloc (Obj.cells (vc v A n c).toArray 26)).alloc (Obj.cells #[.bool true] 4)).alloc (Obj.cells #[.func (.func 66) #[] #[.pointer (some ⟨w.heap.size + 1, 0, none⟩)]] 111) = W at *
  have hct := cell_in S0.out.fn 0
  go_wp2_with fail
  refine (path_any (o := 5) v.p S0.out rfl).mono ?_
  rintro e w1 ⟨rfl, s1⟩
  have S1 := Lib.hid s1
  have hct := cell_in S1.out.fn 0
  clear s1 S0
  obtain ⟨q, hq⟩ : ∃ q, (true && decide (v.p.length ≤ 255)) = q := ⟨_, rfl⟩
  have S : Hid (St w.heap.size w.heap.size (w.heap.size + 1) (w.heap.size + 1 + 1) (vc { v with p := [] } A n c) q w w1) := by rw [← hq]; exact S1.out
  rw [hq] at HR
  have hok := cell_in S.out.okb 0
  have R := Lib.hid S.out.row
  clear hq S1
  cases q
  case false =>
    obtain rfl : r = false := by rw [← HR.out]; rfl
    go_wp2_with fail
    go_ret
    exact ⟨rfl, S.out.bel⟩
  have hr := HR.out
  rw [Bool.true_and] at hr
  go_wp2_with (first | (refine wpList_load_row rfl 26 _ rfl w.heap.size rfl _ _ _ R.out _ Try.underlying26 rfl s26 ?_) | fail)
  refine (bare_any _ _ _ _ _).mono ?_
  rintro e w9 ⟨rfl, hb⟩
  have HB := Lib.hid (S.out.bel.trans (hb.mono S.out.bel.size))
  clear hb S R hok
  rw [hr]
  clear hr
  go_wp2_with fail
  go_ret
  exact ⟨rfl, HB.out⟩
set_option maxRecDepth 100000 in
set_option maxHeartbeats 4000000 in
theorem fits_8 (v : Vb) (A : Option Addr) (n c : Nat) (hn : v.d.length = n) (hk : v.k = 8) (w : World) : Calls Try.prog 41 #[.agg (vc v A n c).toArray] w fun e w' => e = .returned (.bool (decide v.fit)) ∧ Below w.heap.size w w' := by
  rw [fit_8 hn hk]
  clear hn
  obtain ⟨r, hr⟩ : ∃ r, (((true && decide (v.p.length ≤ 255)) && decide (v.o.length ≤ 255)) && decide (Vb.bare { v with p := [], o := [] } n)) = r := ⟨_, rfl⟩
  rw [hr]
  have HR := Lib.hid hr
  clear hr
  obtain ⟨b1, b2, b3, bb, bz⟩ := box3 w (Obj.cells (vc v A n c).toArray 26) (Obj.cells #[.bool true] 4) (Obj.cells #[.func (.func 66) #[] #[.pointer (some ⟨w.heap.size + 1, 0, none⟩)]] 111)
  have S0 : Hid (St w.heap.size w.heap.size (w.heap.size + 1) (w.heap.size + 1 + 1) (vc v A n c) true w _) := ⟨b1, b2, b3, bb, Nat.le_refl _, by omega, by omega, by omega, by omega⟩
  have hck := (vc_cells b1).1
  clear b1 b2 b3 bb bz
  rw [hk] at hck
  clear hk
  go_enter Try.func41, Try.ntmps41
  go_upto_region 5 with fail
  generalize ((w.alloc (Obj.cells (vc v A n c).toArray 26)).alloc (Obj.cells #[.bool true] 4)).alloc (Obj.cells #[.func (.func 66) #[] #[.pointer (some ⟨w.heap.size + 1, 0, none⟩)]] 111) = W at *
  have hct := cell_in S0.out.fn 0
  go_wp2_with fail
  refine (path_any (o := 5) v.p S0.out rfl).mono ?_
  rintro e w1 ⟨rfl, s1⟩
  have S1 := Lib.hid s1
  have hct := cell_in S1.out.fn 0
  clear s1 S0
  go_wp2_with fail
  refine (path_any (o := 6) v.o S1.out rfl).mono ?_
  rintro e w2 ⟨rfl, s2⟩
  have S2 := Lib.hid s2
  have hct := cell_in S2.out.fn 0
  clear s2 S1
  obtain ⟨q, hq⟩ : ∃ q, ((true && decide (v.p.length ≤ 255)) && decide (v.o.length ≤ 255)) = q := ⟨_, rfl⟩
  have S : Hid (St w.heap.size w.heap.size (w.heap.size + 1) (w.heap.size + 1 + 1) (vc { v with p := [], o := [] } A n c) q w w2) := by rw [← hq]; exact S2.out
  rw [hq] at HR
  have hok := cell_in S.out.okb 0
  have R := Lib.hid S.out.row
  clear hq S2
  cases q
  case false =>
    obtain rfl : r = false := by rw [← HR.out]; rfl
    go_wp2_with fail
    go_ret
    exact ⟨rfl, S.out.bel⟩
  have hr := HR.out
  rw [Bool.true_and] at hr
  go_wp2_with (first | (refine wpList_load_row rfl 26 _ rfl w.heap.size rfl _ _ _ R.out _ Try.underlying26 rfl s26 ?_) | fail)
  refine (bare_any _ _ _ _ _).mono ?_
  rintro e w9 ⟨rfl, hb⟩
  have HB := Lib.hid (S.out.bel.trans (hb.mono S.out.bel.size))
  clear hb S R hok
  rw [hr]
  clear hr
  go_wp2_with fail
  go_ret
  exact ⟨rfl, HB.out⟩
set_option maxRecDepth 100000 in
set_option maxHeartbeats 4000000 in
theorem fits_9 (v : Vb) (A : Option Addr) (n c : Nat) (hn : v.d.length = n) (hk : v.k = 9) (w : World) : Calls Try.prog 41 #[.agg (vc v A n c).toArray] w fun e w' => e = .returned (.bool (decide v.fit)) ∧ Below w.heap.size w w' := by
  rw [fit_9 hn hk]
  clear hn
  obtain ⟨r, hr⟩ : ∃ r, ((true && decide (v.p.length ≤ 255)) && decide (Vb.bare { v with p := [] } n)) = r := ⟨_, rfl⟩
  rw [hr]
  have HR := Lib.hid hr
  clear hr
  obtain ⟨b1, b2, b3, bb, bz⟩ := box3 w (Obj.cells (vc v A n c).toArray 26) (Obj.cells #[.bool true] 4) (Obj.cells #[.func (.func 66) #[] #[.pointer (some ⟨w.heap.size + 1, 0, none⟩)]] 111)
  have S0 : Hid (St w.heap.size w.heap.size (w.heap.size + 1) (w.heap.size + 1 + 1) (vc v A n c) true w _) := ⟨b1, b2, b3, bb, Nat.le_refl _, by omega, by omega, by omega, by omega⟩
  have hck := (vc_cells b1).1
  clear b1 b2 b3 bb bz
  rw [hk] at hck
  clear hk
  go_enter Try.func41, Try.ntmps41
  go_upto_region 5 with fail
  generalize ((w.alloc (Obj.cells (vc v A n c).toArray 26)).alloc (Obj.cells #[.bool true] 4)).alloc (Obj.cells #[.func (.func 66) #[] #[.pointer (some ⟨w.heap.size + 1, 0, none⟩)]] 111) = W at *
  have hct := cell_in S0.out.fn 0
  go_wp2_with fail
  refine (path_any (o := 5) v.p S0.out rfl).mono ?_
  rintro e w1 ⟨rfl, s1⟩
  have S1 := Lib.hid s1
  have hct := cell_in S1.out.fn 0
  clear s1 S0
  obtain ⟨q, hq⟩ : ∃ q, (true && decide (v.p.length ≤ 255)) = q := ⟨_, rfl⟩
  have S : Hid (St w.heap.size w.heap.size (w.heap.size + 1) (w.heap.size + 1 + 1) (vc { v with p := [] } A n c) q w w1) := by rw [← hq]; exact S1.out
  rw [hq] at HR
  have hok := cell_in S.out.okb 0
  have R := Lib.hid S.out.row
  clear hq S1
  cases q
  case false =>
    obtain rfl : r = false := by rw [← HR.out]; rfl
    go_wp2_with fail
    go_ret
    exact ⟨rfl, S.out.bel⟩
  have hr := HR.out
  rw [Bool.true_and] at hr
  go_wp2_with (first | (refine wpList_load_row rfl 26 _ rfl w.heap.size rfl _ _ _ R.out _ Try.underlying26 rfl s26 ?_) | fail)
  refine (bare_any _ _ _ _ _).mono ?_
  rintro e w9 ⟨rfl, hb⟩
  have HB := Lib.hid (S.out.bel.trans (hb.mono S.out.bel.size))
  clear hb S R hok
  rw [hr]
  clear hr
  go_wp2_with fail
  go_ret
  exact ⟨rfl, HB.out⟩
end Go.Proofs.Ytfignanjelebaaa
