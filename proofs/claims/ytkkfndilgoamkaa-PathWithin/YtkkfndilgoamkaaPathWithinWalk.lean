/- PathWithin, walked: it returns true. -/
import Derived.Test.YtkkfndilgoamkaaAwake
namespace Go.Proofs.Ytkkfndilgoamkaa.pathWithin
open Go.RowKit
set_option linter.unusedVariables false

theorem bool_eq (a : Bool) : (a == a) = true := by cases a <;> rfl
set_option maxHeartbeats 2000000 in
theorem walkL (w : World) (s t : List UInt8) : Calls Try.prog 6 #[.string (bs s), .string (bs t)] w fun e w' => e = .returned (.bool true) ∧ Below w.heap.size w w' := by
  go_enter Try.func6, Try.ntmps6
  go_wp2_with fail
  refine (within_any s t w).mono ?_
  rintro e w1 ⟨rfl, hb1⟩
  have B1 := Lib.hid hb1
  have hz1 := hb1.size
  clear hb1
  go_wp2_with fail
  refine (refSplit_any s w1).mono ?_
  rintro e w2 ⟨A, c, rfl, hs2, hb2⟩
  have B2 := Lib.hid (B1.out.trans (hb2.mono hz1))
  have S2 := Lib.hid hs2
  have hz2 := hb2.size
  clear B1 hb2 hs2
  go_wp2_with fail
  refine (refSplit_any t w2).mono ?_
  rintro e w3 ⟨A', c', rfl, hs3, hb3⟩
  have B3 := Lib.hid (B2.out.trans (hb3.mono (by omega)))
  have S2' := Lib.hid ((S2.out.below hb3).more hb3.size)
  have S3 := Lib.hid hs3
  have hz3 := hb3.size
  clear B2 S2 hb3 hs3
  have hwE : withinE s t = if (split s).2 ≠ 0 then (split s).2 else (split t).2 := rfl
  have hwR : withinR s t = if withinE s t = 0 then withinB (split s).1 (split t).1 else false := rfl
  have E := Lib.hid hwE
  have R := Lib.hid hwR
  clear hwE hwR
  generalize withinE s t = we at *
  generalize withinR s t = wr at *
  generalize (split s).1 = ns at *
  generalize (split s).2 = x at *
  generalize (split t).1 = ms at *
  generalize (split t).2 = y at *
  by_cases hx : x = 0
  · subst hx
    have E1 : we = y := by have := E.out; simpa using this
    subst E1
    by_cases hy : we = 0
    · subst hy
      have R1 : wr = withinB ns ms := by have := R.out; simpa using this
      subst R1
      clear E R
      have hcap := S2'.out.cap
      have hlim := S2'.out.lim
      have hcap' := S3.out.cap
      have hlim' := S3.out.lim
      unfold maxLen at hlim hlim'
      go_wp2_with fail
      refine (awake_any w3).mono ?_
      rintro e w4 ⟨rfl, hb4⟩
      have B4 := Lib.hid (B3.out.trans (hb4.mono (by omega)))
      have T2 := Lib.hid ((S2'.out.below hb4).more hb4.size)
      have T3 := Lib.hid ((S3.out.below hb4).more hb4.size)
      have hz4 := hb4.size
      clear B3 S2' S3 hb4
      by_cases hlt : ms.length < ns.length
      · have HW : Hid (withinB ns ms = decide (ns.take ms.length = ms)) := by
          show _ = _
          unfold withinB
          simp [hlt]
          rw [Bool.eq_iff_iff]
          simp
        have HD := Lib.hid (T2.out.head (s := ms.length) (by omega))
        have hbb := bool_eq (withinB ns ms)
        go_wp2_with fail
        refine (same_any _ _ _ _ _ _ _ _ ms w4 HD.out T3.out (Nat.le_refl _)).mono ?_
        rintro e w5 ⟨rfl, hb5⟩
        rw [← HW.out]
        generalize withinB ns ms = z at *
        cases z
        all_goals
          go_wp2
          go_ret
          exact ⟨rfl, B4.out.trans (hb5.mono (by omega))⟩
      · have HW : withinB ns ms = false := by
          unfold withinB
          simp [hlt]
        rw [HW]
        clear HW
        go_wp2
        go_ret
        exact ⟨rfl, B4.out⟩
    · have R1 : wr = false := by have := R.out; rwa [if_neg hy] at this
      subst R1
      have hx : (we == 0) = false := by simpa using hy
      clear E R
      go_wp2_with fail
      refine (awake_any w3).mono ?_
      rintro e w4 ⟨rfl, hb4⟩
      go_wp2
      go_ret
      exact ⟨rfl, B3.out.trans (hb4.mono (by omega))⟩
  · have E1 : we = x := by have := E.out; rwa [if_pos hx] at this
    subst E1
    have R1 : wr = false := by have := R.out; rwa [if_neg hx] at this
    subst R1
    have hx' : (we == 0) = false := by simpa using hx
    clear E R
    go_wp2_with fail
    refine (awake_any w3).mono ?_
    rintro e w4 ⟨rfl, hb4⟩
    go_wp2
    go_ret
    exact ⟨rfl, B3.out.trans (hb4.mono (by omega))⟩
theorem walk (w : World) (s t : ByteArray) : Calls Try.prog 6 #[.string s, .string t] w fun e w' => e = .returned (.bool true) ∧ Below w.heap.size w w' := by
  have := walkL w s.data.toList t.data.toList
  rwa [data_bs, data_bs] at this
end Go.Proofs.Ytkkfndilgoamkaa.pathWithin
