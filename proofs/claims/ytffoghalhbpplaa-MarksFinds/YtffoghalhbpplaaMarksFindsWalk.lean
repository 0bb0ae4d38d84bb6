/- MarksFinds, walked. -/
import Derived.Test.YtffoghalhbpplaaRefs
namespace Go.Proofs.Ytffoghalhbpplaa.marksFinds
open Go.RowKit
set_option linter.unusedVariables false

set_option maxRecDepth 20000 in
set_option maxHeartbeats 2000000 in
theorem walk_no (w : World) (A : Option Addr) (n c : Nat) (l : List UInt8) (h : Bts w w.heap.size A n c l) (x y : Int) (hno : someE n x y ≠ 0) :
    Calls Try.prog 4 #[.slice A n c, .int .i64 x, .int .i64 y] w fun e W' => e = .returned (.bool true) ∧ Below w.heap.size w W' := by
  have H := Lib.hid h
  have HF1 : Hid (firstN l n x y = 0) := by show _ = _; unfold firstN; rw [if_neg hno]
  have HF2 : Hid (firstE l n x y = someE n x y) := by show _ = _; unfold firstE; rw [if_neg hno]
  have HC1 : Hid (countN l n x y = 0) := by show _ = _; unfold countN; rw [if_neg hno]
  have HNO := Lib.hid hno
  clear h hno
  by_cases hn : n = 128
  · subst hn
    have he : someE 128 x y = 4 := by
      rcases someE_cases 128 x y with h | h | h
      · exact absurd h HNO.out
      · unfold someE at h; rw [if_pos rfl] at h; split at h <;> cases h
      · exact h
    have hr : x < 0 ∨ (¬ x < 0 ∧ 1024 < y) ∨ (¬ x < 0 ∧ ¬ 1024 < y ∧ y < x) := by
      have := HNO.out
      unfold someE at this
      rw [if_pos rfl] at this
      split at this
      · exact absurd rfl this
      · omega
    have HE := Lib.hid he
    clear he
    rcases hr with hr | ⟨hr, hr1⟩ | ⟨hr, hr1, hr2⟩
    all_goals
      go_enter Try.func4, Try.ntmps4
      go_wp2_with fail
      refine (first_any x y H.out (Nat.le_refl _)).mono ?_
      rintro e w1 ⟨rfl, hb1⟩
      rw [HF1.out, HF2.out, HE.out]
      have HB1 := Lib.hid hb1
      clear hb1
      go_wp2_with fail
      refine (count_any x y (H.out.below HB1.out) HB1.out.size).mono ?_
      rintro e w2 ⟨rfl, hb2⟩
      rw [HC1.out, HE.out]
      have HB2 := Lib.hid (HB1.out.trans (hb2.mono HB1.out.size))
      clear hb2
      go_wp2_with fail
      refine (awake_any _).mono ?_
      rintro e w3 ⟨rfl, hb3⟩
      have HB3 := Lib.hid (HB2.out.trans (hb3.mono HB2.out.size))
      clear hb3
      go_wp2_with fail
      go_ret
      exact ⟨rfl, HB3.out⟩
  · have HE : Hid (someE n x y = 1) := by show _ = _; unfold someE; rw [if_neg hn]
    have hn1 : ((n : Int) != 128) = true := by simp; omega
    go_enter Try.func4, Try.ntmps4
    go_wp2_with fail
    refine (first_any x y H.out (Nat.le_refl _)).mono ?_
    rintro e w1 ⟨rfl, hb1⟩
    rw [HF1.out, HF2.out, HE.out]
    have HB1 := Lib.hid hb1
    clear hb1
    go_wp2_with fail
    refine (count_any x y (H.out.below HB1.out) HB1.out.size).mono ?_
    rintro e w2 ⟨rfl, hb2⟩
    rw [HC1.out, HE.out]
    have HB2 := Lib.hid (HB1.out.trans (hb2.mono HB1.out.size))
    clear hb2
    go_wp2_with fail
    refine (awake_any _).mono ?_
    rintro e w3 ⟨rfl, hb3⟩
    have HB3 := Lib.hid (HB2.out.trans (hb3.mono HB2.out.size))
    clear hb3
    go_wp2_with fail
    go_ret
    exact ⟨rfl, HB3.out⟩
/-- The first as the law reckons it. -/
def fm (o : Option Nat) : Int := match o with | some n => n | none => -1
theorem back_at {l : List UInt8} {j z : Nat} (hj : j < z) : fm (first l j (z - j)) = (if bt l j then fm (first l (j + 1) (z - (j + 1))) else (j : Int)) ∧ count l j (z - j) = (if bt l j then 1 else 0) + count l (j + 1) (z - (j + 1)) := by
  obtain ⟨k, hk⟩ : ∃ k, z - j = k + 1 := ⟨z - j - 1, by omega⟩
  have hk' : z - (j + 1) = k := by omega
  rw [hk, hk', first, count]
  refine ⟨?_, rfl⟩
  split <;> rfl
theorem fm_ge {o : Option Nat} : -1 ≤ fm o := by
  cases o with
  | none => exact Int.le_refl _
  | some n => show (-1 : Int) ≤ n; omega
set_option maxRecDepth 20000 in
set_option maxHeartbeats 2000000 in
theorem walk_yes (w : World) (A : Option Addr) (c : Nat) (l : List UInt8) (h : Bts w w.heap.size A 128 c l) (a z : Nat) (haz : a ≤ z) (hz : z ≤ 1024) :
    Calls Try.prog 4 #[.slice A 128 c, .int .i64 a, .int .i64 z] w fun e W' => e = .returned (.bool true) ∧ Below w.heap.size w W' := by
  have H := Lib.hid h
  clear h
  have h1 : ¬ (a : Int) < 0 := by omega
  have h2 : ¬ 1024 < (z : Int) := by omega
  have h3 : ¬ (z : Int) < (a : Int) := by omega
  go_enter Try.func4, Try.ntmps4
  go_wp2_with fail
  refine (first_yes a z H.out (Nat.le_refl _) haz hz).mono ?_
  rintro e w1 ⟨rfl, hb1⟩
  have HB1 := Lib.hid hb1
  clear hb1
  obtain ⟨R, hR⟩ : ∃ R, first l a (z - a) = R := ⟨_, rfl⟩
  have HR := Lib.hid hR
  rw [hR]
  clear hR
  generalize hfn : fn R = f1
  generalize hfe : fe R = f2
  have HFN := Lib.hid hfn
  have HFE := Lib.hid hfe
  clear hfn hfe
  go_wp2_with fail
  refine (count_yes a z (H.out.below HB1.out) HB1.out.size haz hz).mono ?_
  rintro e w2 ⟨rfl, hb2⟩
  have HB2 := Lib.hid (HB1.out.trans (hb2.mono HB1.out.size))
  clear hb2 HB1
  obtain ⟨C, hC⟩ : ∃ C, count l a (z - a) = C := ⟨_, rfl⟩
  have hC1 : C ≤ 1024 := by have := count_le l a (z - a); omega
  have HC := Lib.hid hC
  rw [hC]
  clear hC
  go_wp2_with fail
  refine (bits_any (H.out.below HB2.out) HB2.out.size).mono ?_
  rintro e w3 ⟨v, rfl, ho, hb3⟩
  obtain ⟨g, cap, rfl, hg, hgs⟩ := ownB_form ho (bitsL_length _ _)
  have HB3 := Lib.hid (HB2.out.trans (hb3.mono HB2.out.size))
  have HCL : ∀ j, Hid (j < 1024 → w3.cell? ⟨g, j, none⟩ = some (.bool (bt l j))) := fun j hj => by rw [(ownB_cell ho (bitsL_length _ _) hj).1, bitsL_get _ hj]
  clear ho hb3 HB2 H hg hgs
  go_wp2_with fail
  go_loop [12, 13, 14] (fun f k i => ∃ j : Nat, a ≤ j ∧ j ≤ z ∧ i = .int .i64 ((j : Int) - 1) ∧ f = .int .i64 (fm (first l j (z - j))) ∧ k = .int .i64 ((count l j (z - j) : Nat) : Int)) (fun _ _ i => (intOf i + 1).toNat)
  case atStart =>
    refine ⟨z, haz, Nat.le_refl _, rfl, ?_, ?_⟩
    · rw [Nat.sub_self]; rfl
    · rw [Nat.sub_self]; rfl
  case round =>
    obtain ⟨j, ha, hj, rfl, rfl, rfl⟩ := hrel
    by_cases hlt : a < j
    · obtain ⟨i, rfl⟩ : ∃ i, j = i + 1 := ⟨j - 1, by omega⟩
      have hcell := (HCL i).out (by omega)
      obtain ⟨hm1, hm2⟩ := back_at (l := l) (j := i) (z := z) (by omega)
      have HM1 := Lib.hid hm1
      have HM2 := Lib.hid hm2
      have hcl := count_le l (i + 1) (z - (i + 1))
      have hi : ((i + 1 : Nat) : Int) - 1 = (i : Int) := by omega
      have hge : (a : Int) ≤ (i : Int) := by omega
      rw [hi]
      clear hm1 hm2 hi
      generalize count l (i + 1) (z - (i + 1)) = q at *
      generalize fm (first l (i + 1) (z - (i + 1))) = r at *
      generalize bt l i = o at *
      cases o with
      | true =>
        have HM3 : Hid (fm (first l i (z - i)) = r) := HM1.out
        have HM4 : Hid (count l i (z - i) = 1 + q) := HM2.out
        clear HM1 HM2
        go_wp2_with fail
        go_round
        case rel => exact ⟨i, by omega, by omega, rfl, by rw [HM3.out], by rw [HM4.out]; go_num⟩
        case measure => simp [intOf]
      | false =>
        have HM3 : Hid (fm (first l i (z - i)) = (i : Int)) := HM1.out
        have HM4 : Hid (count l i (z - i) = q) := by have := HM2.out; rw [if_neg (by simp), Nat.zero_add] at this; exact this
        clear HM1 HM2
        go_wp2_with fail
        go_round
        case rel => exact ⟨i, by omega, by omega, rfl, by rw [HM3.out], by rw [HM4.out]⟩
        case measure => simp [intOf]
    · obtain rfl : j = a := by omega
      rw [HR.out, HC.out]
      have hge : ¬ (j : Int) ≤ (j : Int) - 1 := by omega
      have hw3 := HB3.out.size
      cases R with
      | none =>
        obtain rfl : f1 = 0 := HFN.out.symm
        obtain rfl : f2 = 10 := HFE.out.symm
        have hfm : fm none = -1 := rfl
        rw [hfm]
        clear hfm
        go_wp2_with fail
        refine (awake_any _).mono ?_
        rintro e w4 ⟨rfl, hb4⟩
        have HB4 := Lib.hid (HB3.out.trans (hb4.mono hw3))
        clear hb4
        go_wp2_with fail
        go_ret
        exact ⟨rfl, HB4.out⟩
      | some m =>
        obtain rfl : f1 = (m : Int) := HFN.out.symm
        obtain rfl : f2 = 0 := HFE.out.symm
        have hfm : fm (some m) = (m : Int) := rfl
        rw [hfm]
        have hm0 : ¬ (m : Int) < 0 := by omega
        clear hfm
        go_wp2_with fail
        refine (awake_any _).mono ?_
        rintro e w4 ⟨rfl, hb4⟩
        have HB4 := Lib.hid (HB3.out.trans (hb4.mono hw3))
        clear hb4
        go_wp2_with fail
        go_ret
        exact ⟨rfl, HB4.out⟩
theorem walk (w : World) (A : Option Addr) (n c : Nat) (l : List UInt8) (h : Bts w w.heap.size A n c l) (x y : Int) :
    Calls Try.prog 4 #[.slice A n c, .int .i64 x, .int .i64 y] w fun e W' => e = .returned (.bool true) ∧ Below w.heap.size w W' := by
  by_cases h0 : someE n x y = 0
  · obtain ⟨rfl, h1, h2, h3⟩ := someE_zero h0
    obtain ⟨a, rfl⟩ := Int.eq_ofNat_of_zero_le h1
    obtain ⟨z, rfl⟩ := Int.eq_ofNat_of_zero_le (a := y) (by omega)
    exact walk_yes w A c l h a z (by omega) (by omega)
  · exact walk_no w A n c l h x y h0
end Go.Proofs.Ytffoghalhbpplaa.marksFinds
