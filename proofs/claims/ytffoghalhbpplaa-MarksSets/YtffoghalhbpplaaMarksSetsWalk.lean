/- MarksSets, walked. -/
import Derived.Test.YtffoghalhbpplaaRefs
namespace Go.Proofs.Ytffoghalhbpplaa.marksSets
open Go.RowKit
set_option linter.unusedVariables false

set_option maxRecDepth 20000 in
set_option maxHeartbeats 2000000 in
theorem walk_no (w : World) (A : Option Addr) (n c : Nat) (l : List UInt8) (h : Bts w w.heap.size A n c l) (x : Int) (on : Bool) (hno : oneE n x ≠ 0) :
    Calls Try.prog 3 #[.slice A n c, .int .i64 x, .bool on] w fun e W' => e = .returned (.bool true) ∧ Below w.heap.size w W' := by
  have H := Lib.hid h
  have HNO := Lib.hid hno
  have HHAS : Hid (hasB l n x = false) := by show _ = _; unfold hasB; rw [if_neg hno]
  clear h hno
  by_cases hn : n = 128
  · subst hn
    have he : oneE 128 x = 4 := by
      rcases oneE_cases 128 x with h | h | h
      · exact absurd h HNO.out
      · unfold oneE at h; rw [if_pos rfl] at h; split at h <;> cases h
      · exact h
    have hr : x < 0 ∨ 1023 < x := by
      have := HNO.out
      unfold oneE at this
      rw [if_pos rfl] at this
      split at this
      · exact absurd rfl this
      · omega
    have HE := Lib.hid he
    clear he
    rcases hr with hr | hr
    all_goals
      go_enter Try.func3, Try.ntmps3
      go_wp2_with fail
      refine (set_no x on HNO.out).mono ?_
      rintro e w1 ⟨rfl, rfl⟩
      rw [HE.out]
      go_wp2_with fail
      refine (has_any x H.out).mono ?_
      rintro e w1 ⟨rfl, hb1⟩
      rw [HE.out, HHAS.out]
      have HB1 := Lib.hid hb1
      clear hb1
      go_wp2_with fail
      refine (awake_any _).mono ?_
      rintro e w2 ⟨rfl, hb2⟩
      have HB2 := Lib.hid (HB1.out.trans (hb2.mono HB1.out.size))
      clear hb2
      go_wp2_with fail
      go_ret
      exact ⟨rfl, HB2.out⟩
  · have HE : Hid (oneE n x = 1) := by show _ = _; unfold oneE; rw [if_neg hn]
    have hn1 : ((n : Int) != 128) = true := by simp; omega
    go_enter Try.func3, Try.ntmps3
    go_wp2_with fail
    refine (set_no x on HNO.out).mono ?_
    rintro e w1 ⟨rfl, rfl⟩
    rw [HE.out]
    go_wp2_with fail
    refine (has_any x H.out).mono ?_
    rintro e w1 ⟨rfl, hb1⟩
    rw [HE.out, HHAS.out]
    have HB1 := Lib.hid hb1
    clear hb1
    go_wp2_with fail
    refine (awake_any _).mono ?_
    rintro e w2 ⟨rfl, hb2⟩
    have HB2 := Lib.hid (HB1.out.trans (hb2.mono HB1.out.size))
    clear hb2
    go_wp2_with fail
    go_ret
    exact ⟨rfl, HB2.out⟩
set_option maxRecDepth 20000 in
set_option maxHeartbeats 2000000 in
theorem walk_yes (w : World) (A : Option Addr) (c : Nat) (l : List UInt8) (h : Bts w w.heap.size A 128 c l) (k : Nat) (on : Bool) (hk : k < 1024) :
    Calls Try.prog 3 #[.slice A 128 c, .int .i64 k, .bool on] w fun e W' => e = .returned (.bool true) ∧ Below w.heap.size w W' := by
  have H := Lib.hid h
  have HL : Hid (k < 8 * l.length) := by show _ < _; rw [h.len]; omega
  have HSL : Hid ((setb l k on).length = 128) := by show _ = _; rw [setb_length, h.len]
  have HBS : Hid ((bitsL l 1024).set k on = bitsL (setb l k on) 1024) := bitsL_set on HL.out
  have HBG : Hid ((bitsL l 1024)[k]?.getD false = bt l k) := bitsL_get l hk
  have hk1 : (k : Int) < 1024 := by omega
  clear h
  go_enter Try.func3, Try.ntmps3
  go_wp2_with fail
  refine (set_yes k on H.out (Nat.le_refl _) hk).mono ?_
  rintro e w1 ⟨g1, cap1, rfl, hX, hb1⟩
  have HX := Lib.hid hX
  have HB1 := Lib.hid hb1
  clear hX hb1
  go_wp2_with fail
  refine (has_yes k hk (H.out.below HB1.out)).mono ?_
  rintro e w2 ⟨rfl, hb2⟩
  have HX2 := Lib.hid ((HX.out.below hb2).more hb2.size)
  have HB2 := Lib.hid (HB1.out.trans (hb2.mono HB1.out.size))
  clear hb2 HX HB1
  go_wp2_with fail
  refine (bits_any (H.out.below HB2.out) HB2.out.size).mono ?_
  rintro e w3 ⟨v, rfl, ho, hb3⟩
  obtain ⟨g, cap, rfl, hg, hgs⟩ := ownB_form ho (bitsL_length _ _)
  have HB3 := Lib.hid (HB2.out.trans (hb3.mono HB2.out.size))
  have HX3 := Lib.hid (HX2.out.below hb3)
  have HO3 := Lib.hid ho
  have hgw : w.heap.size ≤ g := Nat.le_trans HB2.out.size hg
  obtain ⟨hcell, hfree⟩ := ownB_cell ho (bitsL_length _ _) hk
  rw [HBG.out] at hcell
  have HO4 := Lib.hid (ownB_set ho k on)
  rw [HBS.out] at HO4
  have HX4 := Lib.hid (HX3.out.below ((Below.refl w2.heap.size w3).setCell (p := ⟨g, k, none⟩) hg (.bool on)))
  have HB4 := Lib.hid (HB3.out.setCell (p := ⟨g, k, none⟩) hgw (.bool on))
  have hgs4 : g < (w3.setCell ⟨g, k, none⟩ (.bool on)).heap.size := by simpa [World.setCell] using hgs
  have hs4 : w2.heap.size ≤ (w3.setCell ⟨g, k, none⟩ (.bool on)).heap.size := Nat.le_of_lt (Nat.lt_of_le_of_lt hg hgs4)
  have HST : ∀ W, Hid (Below (w3.setCell ⟨g, k, none⟩ (.bool on)).heap.size (w3.setCell ⟨g, k, none⟩ (.bool on)) W → (convert 22 9 (.slice (some ⟨g1, 0, none⟩) 128 cap1)).run Try.prog W = .ok (.string (sb (setb l k on))) W) := fun W hW => fstr HX4.out W (hW.mono hs4)
  have HBY : ∀ W, Hid (Below (w3.setCell ⟨g, k, none⟩ (.bool on)).heap.size (w3.setCell ⟨g, k, none⟩ (.bool on)) W → Calls Try.prog 11 #[.slice (some ⟨g, 0, none⟩) 1024 cap] W fun e w' => e = .returned (.string (sb (setb l k on))) ∧ Below W.heap.size W w') := fun W hW => bytes_any HSL.out (Nat.lt_of_lt_of_le hgs4 hW.size) fun j hj => by
    rw [hW.cell (p := ⟨g, j, none⟩) hgs4, (ownB_cell HO4.out (bitsL_length _ _) hj).1, bitsL_get _ hj]
  clear ho hb3 HX2 HX3 HX4 HB2 HB3 HO3 HO4 HBG HBS H HL hs4 hgs4 hgs hg
  generalize bt l k = o at *
  generalize setb l k on = X at *
  cases o
  all_goals
    go_wp2_with fail
    generalize w3.setCell { block := g, off := k } (Value.bool on) = w4 at *
    have HBD : Hid (Below w4.heap.size w4 w4.drew) := (Below.refl _ _).drew
    go_region_held3 (fun w' => (convert 22 9 (.slice (some ⟨g1, 0, none⟩) 128 cap1)).run Try.prog w' = .ok (.string (sb X)) w') (first | (with_reducible exact (HST _).out HBD.out) | (with_reducible exact (HST _).out HB5.out) | (with_reducible exact (HST _).out HB6.out)) (first
      | (go_at_call 9; (with_reducible refine (awake_any _).mono ?_); rintro e w5 ⟨rfl, hb5⟩; have HB5 := Lib.hid (HBD.out.trans (hb5.mono HBD.out.size)); clear hb5)
      | (go_at_call 11; (with_reducible refine ((HBY _).out HB5.out).mono ?_); rintro e w6 ⟨rfl, hb6⟩; have HB6 := Lib.hid (HB5.out.trans (hb6.mono HB5.out.size)); clear hb6))
    go_wp2_with fail
    go_ret
    exact ⟨rfl, HB4.out.trans (HB6.out.mono HB4.out.size)⟩
theorem walk (w : World) (A : Option Addr) (n c : Nat) (l : List UInt8) (h : Bts w w.heap.size A n c l) (x : Int) (on : Bool) :
    Calls Try.prog 3 #[.slice A n c, .int .i64 x, .bool on] w fun e W' => e = .returned (.bool true) ∧ Below w.heap.size w W' := by
  by_cases h0 : oneE n x = 0
  · obtain ⟨rfl, h1, h2⟩ := oneE_zero h0
    obtain ⟨k, rfl⟩ := Int.eq_ofNat_of_zero_le h1
    exact walk_yes w A c l h k on (by omega)
  · exact walk_no w A n c l h x on h0
end Go.Proofs.Ytffoghalhbpplaa.marksSets
