/- PathNames, walked: it returns true. -/
import Derived.Test.YtkkfndilgoamkaaAwake
namespace Go.Proofs.Ytkkfndilgoamkaa.pathNames
open Go.RowKit
set_option linter.unusedVariables false

theorem joined (l : List (List UInt8)) (h : joinE l = 0) : joinS l = joinL l ∧ split (joinL l) = (l, 0) ∧ cleanS (joinL l) = joinL l := by
  have h1 : joinS l = joinL l := by unfold joinS; rw [if_pos h]
  have h2 : split (joinL l) = (l, 0) := by
    unfold joinE at h
    split at h
    · cases h
    · split at h
      · cases h
      · split at h
        · cases h
        · rename_i a b c
          exact split_joinL l (by simpa using b) (by omega) (by omega)
  refine ⟨h1, h2, ?_⟩
  unfold cleanS
  rw [h2]
  simp
set_option maxHeartbeats 4000000 in
set_option maxRecDepth 100000 in
theorem walk (w : World) (A : Option Addr) (n c : Nat) (l : List (List UInt8)) (h : Strs w w.heap.size A n c l) : Calls Try.prog 9 #[.slice A n c] w fun e w' => e = .returned (.bool true) ∧ Below w.heap.size w w' := by
  have S0 := Lib.hid h
  clear h
  go_enter Try.func9, Try.ntmps9
  go_wp2_with fail
  refine (pathJoin_any A n c _ l w S0.out (Nat.le_refl _)).mono ?_
  rintro e w1 ⟨rfl, hb1⟩
  have B1 := Lib.hid hb1
  have hz1 := hb1.size
  clear hb1
  go_wp2_with fail
  refine (awake_any w1).mono ?_
  rintro e w2 ⟨rfl, hb2⟩
  have B2 := Lib.hid (B1.out.trans (hb2.mono hz1))
  have hz2 := hb2.size
  clear B1 hb2
  by_cases h0 : joinE l = 0
  · obtain ⟨j1, j2, j3⟩ := joined l h0
    have J2 := Lib.hid j2
    have J3 := Lib.hid j3
    rw [h0, j1]
    clear h0 j1 j2 j3
    go_wp2_with fail
    refine (split_any (joinL l) w2).mono ?_
    rw [J2.out]
    rintro e w3 ⟨A', c', rfl, hs3, hb3⟩
    have B3 := Lib.hid (B2.out.trans (hb3.mono (by omega)))
    have S3 := Lib.hid hs3
    have hz3 := hb3.size
    clear B2 hb3 hs3
    go_wp2_with fail
    refine (clean_any (joinL l) w3).mono ?_
    rw [J2.out, J3.out]
    rintro e w4 ⟨rfl, hb4⟩
    have B4 := Lib.hid (B3.out.trans (hb4.mono (by omega)))
    have S4 := Lib.hid ((S3.out.below hb4).more hb4.size)
    have hz4 := hb4.size
    have S5 := Lib.hid ((S0.out.below B4.out).more B4.out.size)
    clear B3 hb4 S3
    generalize joinL l = j at *
    go_wp2_with fail
    refine (same_any _ _ _ _ _ _ _ _ _ w4 S5.out S4.out (Nat.le_refl _)).mono ?_
    rintro e w5 ⟨rfl, hb5⟩
    rw [show decide (l = l) = true by simp]
    go_wp2
    go_ret
    exact ⟨rfl, B4.out.trans (hb5.mono (by omega))⟩
  · generalize joinE l = x at *
    have hx : (x == 0) = false := by simpa using h0
    go_wp2_with fail
    refine (awake_any w2).mono ?_
    rintro e w3 ⟨rfl, hb3⟩
    go_wp2
    go_ret
    exact ⟨rfl, B2.out.trans (hb3.mono (by omega))⟩
end Go.Proofs.Ytkkfndilgoamkaa.pathNames
