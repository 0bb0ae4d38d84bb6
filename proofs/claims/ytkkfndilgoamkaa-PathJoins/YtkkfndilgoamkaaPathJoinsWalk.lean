/- PathJoins, walked: it returns true. -/
import Derived.Test.YtkkfndilgoamkaaAwake
namespace Go.Proofs.Ytkkfndilgoamkaa.pathJoins
open Go.RowKit
set_option linter.unusedVariables false

/-- What holds at the loop's head. -/
def Turn (l : List (List UInt8)) (n : Nat) (want i : Value) : Prop := ∃ (k : Nat) (x : Int), k ≤ n ∧ i = .int .i64 k ∧ want = .int .i64 x ∧ ((x = 0 ∧ (l.take k).all nameB = true) ∨ (x = 6 ∧ l.all nameB = false))
set_option maxHeartbeats 4000000 in
set_option maxRecDepth 100000 in
theorem walk (w : World) (A : Option Addr) (n c : Nat) (l : List (List UInt8)) (h : Strs w w.heap.size A n c l) : Calls Try.prog 4 #[.slice A n c] w fun e w' => e = .returned (.bool true) ∧ Below w.heap.size w w' := by
  have S0 := Lib.hid h
  have hcap := h.cap
  have hlim := h.lim
  have HLN := Lib.hid h.len
  unfold maxLen at hlim
  clear h
  have k0 : (bs []).toList = [] := bs_list _
  go_enter Try.func4, Try.ntmps4
  go_wp2_with fail
  refine (pathJoin_any A n c _ l w S0.out (Nat.le_refl _)).mono ?_
  rintro e w1 ⟨rfl, hb1⟩
  have B1 := Lib.hid hb1
  have S1 := Lib.hid (S0.out.below hb1)
  have hz1 := hb1.size
  clear hb1
  by_cases h8 : 8 < n
  · have HE : joinE l = 4 := by unfold joinE; rw [if_pos (by rw [HLN.out]; exact h8)]
    have HS : joinS l = [] := by unfold joinS; rw [if_neg (by rw [HE]; decide)]
    rw [HE, HS]
    clear HE HS
    go_wp2
    go_loop [5, 6] (fun want i => want = .int .i64 4 ∧ i = .int .i64 0) (fun _ _ => 0)
    case atStart => exact ⟨rfl, rfl⟩
    case round =>
      obtain ⟨rfl, rfl⟩ := hrel
      go_wp2_with fail
      refine (awake_any w1).mono ?_
      rintro e w2 ⟨rfl, hb2⟩
      go_wp2
      go_ret
      exact ⟨rfl, B1.out.trans (hb2.mono hz1)⟩
  · go_wp2
    go_loop [5, 6] (fun want i => Turn l n want i) (fun _ i => n - (intOf i).toNat)
    case atStart => exact ⟨0, 0, Nat.zero_le _, rfl, rfl, .inl ⟨rfl, rfl⟩⟩
    case round =>
      obtain ⟨k, x, hk, rfl, rfl, ht⟩ := hrel
      rcases ht with ⟨rfl, ht⟩ | ⟨rfl, ht⟩
      · have HT := Lib.hid ht
        clear ht
        by_cases hlt : k < n
        · obtain ⟨b, off, rfl, hb, hcell⟩ := S1.out.cell hlt
          have hkl : k < l.length := by rw [HLN.out]; exact hlt
          have HT2 := Lib.hid (all_takeN hkl)
          have HNN : Hid (nameB (l[k]?.getD []) = false → l.all nameB = false) := all_notN hkl
          clear hkl
          generalize l[k]?.getD [] = p at *
          by_cases hs : nameB p = false
          · have H3 := Lib.hid hs
            have HN := Lib.hid (HNN.out hs)
            clear hs
            go_wp2_with (go_at_call 15; refine (refName_any _ _).mono ?_; rintro e w2 ⟨rfl, rfl⟩; rw [bs_data, H3.out])
            go_round
            case rel => exact ⟨k + 1, 6, by omega, by go_num, rfl, .inr ⟨rfl, HN.out⟩⟩
            case measure => simp [intOf]; omega
          · have H3 : Hid (nameB p = true) := by show _ = _; simpa using hs
            clear hs
            go_wp2_with (go_at_call 15; refine (refName_any _ _).mono ?_; rintro e w2 ⟨rfl, rfl⟩; rw [bs_data, H3.out])
            go_round
            case rel => exact ⟨k + 1, 0, by omega, by go_num, rfl, .inl ⟨rfl, by rw [HT2.out, HT.out, H3.out]; rfl⟩⟩
            case measure => simp [intOf]; omega
        · obtain rfl : k = n := by omega
          have HAll : Hid (l.all nameB = true) := by
            show _ = _
            have := HT.out
            rwa [List.take_of_length_le (by rw [HLN.out]; omega)] at this
          have hsm : (joinT l).length ≤ 1000000 := by
            have h1 := joinT_small l HAll.out
            rw [HLN.out] at h1
            omega
          go_wp2_with fail
          refine (refJoin_any _ _ _ _ l w1 S1.out hsm).mono ?_
          rintro e w2 ⟨rfl, rfl⟩
          by_cases h96 : 96 < (joinL l).length
          · have HE : joinE l = 17 := by unfold joinE; rw [if_neg (by rw [HLN.out]; omega), if_neg (by rw [HAll.out]; decide), if_pos h96]
            have HS : joinS l = [] := by unfold joinS; rw [if_neg (by rw [HE]; decide)]
            have hq : 96 < (bs (joinL l)).size := by rw [bs_size]; exact h96
            have HE' := Lib.hid HE
            have HS' := Lib.hid HS
            clear h96
            go_wp2_with fail
            refine (awake_any w1).mono ?_
            rintro e w3 ⟨rfl, hb3⟩
            go_wp2
            go_ret
            exact ⟨rfl, B1.out.trans (hb3.mono hz1)⟩
          · have HE : joinE l = 0 := by unfold joinE; rw [if_neg (by rw [HLN.out]; omega), if_neg (by rw [HAll.out]; decide), if_neg h96]
            have HS : joinS l = joinL l := by unfold joinS; rw [if_pos HE]
            have hq : (bs (joinL l)).size ≤ 96 := by rw [bs_size]; omega
            have HE' := Lib.hid HE
            have HS' := Lib.hid HS
            clear h96
            go_wp2_with fail
            refine (awake_any w1).mono ?_
            rintro e w3 ⟨rfl, hb3⟩
            have S3 := Lib.hid (S1.out.below (hb3.mono hz1))
            go_wp2_with fail
            refine (refJoin_any _ _ _ _ l w3 S3.out hsm).mono ?_
            rintro e w4 ⟨rfl, rfl⟩
            go_wp2
            go_ret
            exact ⟨rfl, B1.out.trans (hb3.mono hz1)⟩
      · have HE : joinE l = 6 := by unfold joinE; rw [if_neg (by rw [HLN.out]; omega), if_pos ht]
        have HS : joinS l = [] := by unfold joinS; rw [if_neg (by rw [HE]; decide)]
        clear ht
        by_cases hlt : k < n
        all_goals
          go_wp2_with fail
          refine (awake_any w1).mono ?_
          rintro e w3 ⟨rfl, hb3⟩
          go_wp2
          go_ret
          exact ⟨rfl, B1.out.trans (hb3.mono hz1)⟩
end Go.Proofs.Ytkkfndilgoamkaa.pathJoins
