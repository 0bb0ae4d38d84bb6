/- MarksBack, walked. -/
import Derived.Test.YtffoghalhbpplaaRefs
namespace Go.Proofs.Ytffoghalhbpplaa.marksBack
open Go.RowKit
set_option linter.unusedVariables false

set_option maxRecDepth 20000 in
set_option maxHeartbeats 2000000 in
theorem walk_no (w : World) (A : Option Addr) (n c : Nat) (x y : Nat) (hn : n ≠ 128) :
    Calls Try.prog 6 #[.slice A n c, .int .u16 x, .int .u16 y] w fun e W' => e = .returned (.bool true) ∧ Below w.heap.size w W' := by
  have hn1 : ((n : Int) != 128) = true := by simp; omega
  go_enter Try.func6, Try.ntmps6
  go_wp2_with fail
  refine (awake_any _).mono ?_
  rintro e w1 ⟨rfl, hb1⟩
  go_wp2_with fail
  go_ret
  exact ⟨rfl, hb1⟩
set_option maxRecDepth 20000 in
set_option maxHeartbeats 2000000 in
theorem walk_yes (w : World) (A : Option Addr) (c : Nat) (l : List UInt8) (h : Bts w w.heap.size A 128 c l) (x : Nat) (hx : x < 65536) (y : Nat) (hy : y < 65536) :
    Calls Try.prog 6 #[.slice A 128 c, .int .u16 x, .int .u16 y] w fun e W' => e = .returned (.bool true) ∧ Below w.heap.size w W' := by
  have H := Lib.hid h
  have HL : Hid (x % 1024 < 8 * l.length) := by show _ < _; rw [h.len]; omega
  clear h
  go_enter Try.func6, Try.ntmps6
  go_wp2_with fail
  refine (awake_any _).mono ?_
  rintro e w1 ⟨rfl, hb1⟩
  have HB1 := Lib.hid hb1
  clear hb1
  go_wp2_with fail
  have hi : (x : Int) % 1024 = ((x % 1024 : Nat) : Int) := by omega
  have hk : (y : Int) % 1024 = ((y % 1024 : Nat) : Int) := by omega
  rw [hi, hk]
  have hi1 : x % 1024 < 1024 := by omega
  have hk1 : y % 1024 < 1024 := by omega
  clear hi hk
  generalize x % 1024 = i at *
  generalize y % 1024 = k at *
  refine (has_yes i hi1 (H.out.below HB1.out)).mono ?_
  rintro e w2 ⟨rfl, hb2⟩
  have HB2 := Lib.hid (HB1.out.trans (hb2.mono HB1.out.size))
  clear hb2 HB1
  have HSI : Hid (bt (setb l i (!bt l i)) i = !bt l i) := by show _ = _; rw [bt_setb _ HL.out, if_pos rfl]
  have HSK : Hid (i ≠ k → bt (setb l i (!bt l i)) k = bt l k) := fun hne => by rw [bt_setb _ HL.out, if_neg (Ne.symm hne)]
  have HSB : Hid (setb (setb l i (!bt l i)) i (bt l i) = l) := setb_back HL.out
  generalize bt l i = old at *
  go_wp2_with fail
  refine (has_yes k hk1 (H.out.below HB2.out)).mono ?_
  rintro e w3 ⟨rfl, hb3⟩
  have HB3 := Lib.hid (HB2.out.trans (hb3.mono HB2.out.size))
  clear hb3 HB2
  generalize bt l k = other at *
  go_wp2_with fail
  refine (set_yes i (!old) (H.out.below HB3.out) HB3.out.size hi1).mono ?_
  rintro e w4 ⟨g4, c4, rfl, h4, hb4⟩
  have HB4 := Lib.hid (HB3.out.trans (hb4.mono HB3.out.size))
  have H4 := Lib.hid h4
  clear hb4 HB3 h4
  go_wp2_with fail
  refine (set_yes i old H4.out (Nat.le_refl _) hi1).mono ?_
  rintro e w5 ⟨g5, c5, rfl, h5, hb5⟩
  rw [HSB.out] at h5
  have HB5 := Lib.hid (HB4.out.trans (hb5.mono HB4.out.size))
  have H45 := Lib.hid ((H4.out.below hb5).more hb5.size)
  have H5 := Lib.hid h5
  clear hb5 HB4 h5 H4
  go_wp2_with fail
  refine (has_yes i hi1 H45.out).mono ?_
  rintro e w6 ⟨rfl, hb6⟩
  rw [HSI.out]
  have HB6 := Lib.hid (HB5.out.trans (hb6.mono HB5.out.size))
  have H46 := Lib.hid ((H45.out.below hb6).more hb6.size)
  have H56 := Lib.hid ((H5.out.below hb6).more hb6.size)
  clear hb6 HB5 H5 H45
  go_wp2_with fail
  refine (has_yes k hk1 H46.out).mono ?_
  rintro e w7 ⟨rfl, hb7⟩
  have HB7 := Lib.hid (HB6.out.trans (hb7.mono HB6.out.size))
  have hc5 := fstr H56.out w7 hb7
  have hc0 := fstr H.out w7 HB7.out
  clear hb7 HB6 H56 H46 H
  by_cases hik : i = k
  · subst hik
    generalize bt (setb l i (!old)) i = q at *
    cases old
    all_goals
      go_wp2_with fail
      go_ret
      exact ⟨rfl, HB7.out⟩
  · rw [HSK.out hik]
    have hne : ((i : Int) == (k : Int)) = false := by simp; omega
    cases old <;> cases other
    all_goals
      go_wp2_with fail
      go_ret
      exact ⟨rfl, HB7.out⟩
theorem walk (w : World) (A : Option Addr) (n c : Nat) (l : List UInt8) (h : Bts w w.heap.size A n c l) (x : Nat) (hx : x < 65536) (y : Nat) (hy : y < 65536) :
    Calls Try.prog 6 #[.slice A n c, .int .u16 x, .int .u16 y] w fun e W' => e = .returned (.bool true) ∧ Below w.heap.size w W' := by
  by_cases hn : n = 128
  · subst hn
    exact walk_yes w A c l h x hx y hy
  · exact walk_no w A n c x y hn
end Go.Proofs.Ytffoghalhbpplaa.marksBack
