/- PathSplits, walked: it returns true. -/
import Derived.Test.YtkkfndilgoamkaaAwake
namespace Go.Proofs.Ytkkfndilgoamkaa.pathSplits
open Go.RowKit
set_option linter.unusedVariables false

set_option maxHeartbeats 2000000 in
theorem walkL (w : World) (s : List UInt8) : Calls Try.prog 3 #[.string (bs s)] w fun e w' => e = .returned (.bool true) ∧ Below w.heap.size w w' := by
  go_enter Try.func3, Try.ntmps3
  go_wp2_with fail
  refine (split_any s w).mono ?_
  rintro e w1 ⟨A, c, rfl, hs1, hb1⟩
  have B1 := Lib.hid hb1
  have S1 := Lib.hid hs1
  have hz1 := hb1.size
  clear hb1 hs1
  go_wp2_with fail
  refine (refSplit_any s w1).mono ?_
  rintro e w2 ⟨A', c', rfl, hs2, hb2⟩
  have B2 := Lib.hid (B1.out.trans (hb2.mono hz1))
  have S1' := Lib.hid ((S1.out.below hb2).more hb2.size)
  have S2 := Lib.hid hs2
  have hz2 := hb2.size
  clear B1 S1 hb2 hs2
  go_wp2_with fail
  refine (awake_any w2).mono ?_
  rintro e w3 ⟨rfl, hb3⟩
  have B3 := Lib.hid (B2.out.trans (hb3.mono (Nat.le_trans hz1 hz2)))
  have T1 := Lib.hid ((S1'.out.below hb3).more hb3.size)
  have T2 := Lib.hid ((S2.out.below hb3).more hb3.size)
  have hz3 := hb3.size
  clear B2 S1' S2 hb3
  generalize (split s).1 = ns at *
  generalize (split s).2 = x at *
  go_wp2_with fail
  refine (same_any _ _ _ _ _ _ _ _ _ w3 T1.out T2.out (Nat.le_refl _)).mono ?_
  rintro e w4 ⟨rfl, hb4⟩
  have B4 := Lib.hid (B3.out.trans (hb4.mono (by omega)))
  have hz4 := hb4.size
  rw [show decide (ns = ns) = true by simp]
  clear B3 hb4
  go_wp2_with fail
  refine (pathName_any _ w4).mono ?_
  rintro e w5 ⟨rfl, hb5⟩
  have B5 := Lib.hid (B4.out.trans (hb5.mono (by omega)))
  clear B4 hb5
  generalize hnb : nameB (bs s).data.toList = y
  have HNB := Lib.hid hnb
  clear hnb
  go_wp2_with fail
  refine (refName_any _ w5).mono ?_
  rintro e w6 ⟨rfl, rfl⟩
  rw [HNB.out]
  cases y
  all_goals
    go_wp2
    go_ret
    exact ⟨rfl, B5.out⟩
theorem walk (w : World) (s : ByteArray) : Calls Try.prog 3 #[.string s] w fun e w' => e = .returned (.bool true) ∧ Below w.heap.size w w' := by
  have := walkL w s.data.toList
  rwa [data_bs] at this
end Go.Proofs.Ytkkfndilgoamkaa.pathSplits
