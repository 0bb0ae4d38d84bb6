/- TreeParts, walked. -/
import Derived.Test.YtolooiaeoloimaaAwake
namespace Go.Proofs.Ytolooiaeoloimaa.treeParts
open Go.RowKit
set_option linter.unusedVariables false

set_option maxRecDepth 20000 in
set_option maxHeartbeats 1000000 in
theorem walk_no (w : World) (x y : Int) (h : x < 0 ∨ y < 0 ∨ 0 < y ∧ (9728 < x ∨ 9728 - x < y)) (hx : -9223372036854775808 ≤ x ∧ x ≤ 9223372036854775807) (hy : -9223372036854775808 ≤ y ∧ y ≤ 9223372036854775807) :
    Calls Try.prog 6 #[.int .i64 x, .int .i64 y] w fun e W' => e = .returned (.bool true) ∧ Below w.heap.size w W' := by
  have HP := Lib.hid (parts_no x y w h hx hy)
  have HBK := Lib.hid (blocks_any y w hy)
  by_cases h1 : 0 < y
  · have e1 : blocks y = (y - 1) / 128 + 1 := by unfold blocks; rw [if_neg (by omega)]
    rw [e1] at HBK
    have h2 : x < 0 ∨ ¬ x < 0 ∧ 9728 < x ∨ ¬ x < 0 ∧ ¬ 9728 < x ∧ 9728 - x < y := by omega
    clear h e1
    rcases h2 with h2 | ⟨h2, h3⟩ | ⟨h2, h3, h4⟩
    all_goals
      go_enter Try.func6, Try.ntmps6
      go_wp2_with fail
      refine HP.out.mono ?_
      rintro e w1 ⟨rfl, rfl⟩
      go_wp2_with fail
      refine HBK.out.mono ?_
      rintro e w1 ⟨rfl, rfl⟩
      go_wp2_with fail
      refine (awake_any _).mono ?_
      rintro e w2 ⟨rfl, hb2⟩
      have HB2 := Lib.hid hb2
      clear hb2
      go_wp2_with fail
      go_ret
      exact ⟨rfl, HB2.out⟩
  · have e1 : blocks y = 0 := by unfold blocks; rw [if_pos (by omega)]
    rw [e1] at HBK
    have h2 : x < 0 ∨ ¬ x < 0 ∧ y < 0 := by omega
    clear h e1
    rcases h2 with h2 | ⟨h2, h3⟩
    all_goals
      go_enter Try.func6, Try.ntmps6
      go_wp2_with fail
      refine HP.out.mono ?_
      rintro e w1 ⟨rfl, rfl⟩
      go_wp2_with fail
      refine HBK.out.mono ?_
      rintro e w1 ⟨rfl, rfl⟩
      go_wp2_with fail
      refine (awake_any _).mono ?_
      rintro e w2 ⟨rfl, hb2⟩
      have HB2 := Lib.hid hb2
      clear hb2
      go_wp2_with fail
      go_ret
      exact ⟨rfl, HB2.out⟩
set_option maxRecDepth 20000 in
set_option maxHeartbeats 1000000 in
theorem walk_nil (w : World) (x : Int) (h : 0 ≤ x) (hx : x ≤ 9223372036854775807) :
    Calls Try.prog 6 #[.int .i64 x, .int .i64 0] w fun e W' => e = .returned (.bool true) ∧ Below w.heap.size w W' := by
  have HP := Lib.hid (parts_nil x w h)
  have HBK := Lib.hid (blocks_any 0 w (by omega))
  rw [show blocks 0 = 0 from rfl] at HBK
  go_enter Try.func6, Try.ntmps6
  go_wp2_with fail
  refine HP.out.mono ?_
  rintro e w1 ⟨rfl, rfl⟩
  go_wp2_with fail
  refine HBK.out.mono ?_
  rintro e w1 ⟨rfl, rfl⟩
  go_wp2_with fail
  go_loopw [8, 9] (fun u i wr => u = .int .i64 0 ∧ i = .int .i64 0 ∧ wr = w) (fun _ _ _ => 0)
  case atStart => exact ⟨rfl, rfl, rfl⟩
  case round =>
    obtain ⟨rfl, rfl, rfl⟩ := hrel
    go_wp2_with fail
    refine (awake_any _).mono ?_
    rintro e w2 ⟨rfl, hb2⟩
    have HB2 := Lib.hid hb2
    clear hb2
    go_wp2_with fail
    go_ret
    exact ⟨rfl, HB2.out⟩
set_option maxRecDepth 20000 in
set_option maxHeartbeats 2000000 in
theorem walk_some (w : World) (a s : Nat) (hs : 0 < s) (has : a + s ≤ 9728) :
    Calls Try.prog 6 #[.int .i64 a, .int .i64 s] w fun e W' => e = .returned (.bool true) ∧ Below w.heap.size w W' := by
  have HP := Lib.hid (parts_some a s w hs has)
  have HBK : ∀ w, Hid (Calls Try.prog 15 #[.int .i64 (s : Int)] w fun e w' => e = .returned (.int .i64 (((s : Int) - 1) / 128 + 1)) ∧ w = w') := fun w => by
    have e1 : blocks (s : Int) = ((s : Int) - 1) / 128 + 1 := by unfold blocks; rw [if_neg (by omega)]
    have := blocks_any (s : Int) w (by omega)
    rw [e1] at this
    exact this
  have HOK : ∀ k, Hid (k < np a s → pf a k < pt a s k ∧ 0 ≤ pf a k ∧ pt a s k ≤ 128 ∧ 128 * pb a k + pf a k = a + upto a s k ∧ (k + 1 < np a s → pt a s k = 128) ∧ 0 ≤ upto a s k ∧ upto a s k ≤ s ∧ 0 ≤ pb a k) := fun k h => part_ok h
  have HUS : ∀ k, Hid (k < np a s → upto a s (k + 1) = upto a s k + (pt a s k - pf a k)) := fun k h => upto_succ h
  have HUA := Lib.hid (upto_all a s)
  have HU0 := Lib.hid (upto_zero a s)
  have hM1 := np_le (.inl has)
  go_enter Try.func6, Try.ntmps6
  go_wp2_with fail
  refine HP.out.mono ?_
  rintro e w1 ⟨A, c, rfl, hP, hb1⟩
  have HPT := Lib.hid hP
  have HB1 := Lib.hid hb1
  have hcap := hP.cap
  have hlim := hP.lim
  unfold maxLen at hlim
  clear hP hb1 HP
  generalize np a s = M at *
  go_wp2_with fail
  refine (HBK _).out.mono ?_
  rintro e w2 ⟨rfl, rfl⟩
  go_wp2_with fail
  go_loopw [8, 9] (fun u i wr => ∃ k : Nat, k ≤ M ∧ i = .int .i64 k ∧ u = .int .i64 (upto a s k) ∧ Hid (Below w1.heap.size w1 wr)) (fun _ i _ => M - (intOf i).toNat)
  case atStart => exact ⟨0, Nat.zero_le _, rfl, by rw [HU0.out], Below.refl _ _⟩
  case round =>
    obtain ⟨k, hk, rfl, rfl, HB⟩ := hrel
    by_cases hlt : k < M
    · obtain ⟨b, rfl, hbb, hc⟩ := (HPT.out.below HB.out).at_ (by omega)
      obtain ⟨hc0, hc1, hc2⟩ := hc k hlt
      obtain ⟨g1, g2, g3, g4, g5, g6, g7, g8⟩ := (HOK k).out hlt
      have HU := Lib.hid ((HUS k).out hlt)
      clear hc
      generalize upto a s k = U at *
      generalize pb a k = P at *
      generalize pf a k = F at *
      generalize pt a s k = T at *
      have g10 : P ≤ 9728 := by omega
      have g11 : (P * 128 + F != (a : Int) + U) = false := by simp; omega
      have HB2 : ∀ o, Hid (Below w1.heap.size w1 (wr.alloc o)) := fun o => HB.out.alloc HB.out.size o
      by_cases hl : k + 1 < M
      · have h128 := g5 hl
        subst h128
        clear g4 g5
        go_wp2_with fail
        exact ⟨⟨k + 1, by omega, by go_num, by rw [HU.out], (HB2 _).out⟩, by simp [intOf]; omega⟩
      · clear g4 g5
        go_wp2_with fail
        exact ⟨⟨k + 1, by omega, by go_num, by rw [HU.out], (HB2 _).out⟩, by simp [intOf]; omega⟩
    · obtain rfl : k = M := by omega
      rw [HUA.out]
      go_wp2_with fail
      refine (awake_any _).mono ?_
      rintro e w2 ⟨rfl, hb2⟩
      have HB3 := Lib.hid (HB1.out.trans (HB.out.mono HB1.out.size))
      have HB4 := Lib.hid (HB3.out.trans (hb2.mono HB3.out.size))
      clear hb2
      go_wp2_with fail
      go_ret
      exact ⟨rfl, HB4.out⟩
theorem walk (w : World) (x : Int) (hx : -9223372036854775808 ≤ x ∧ x ≤ 9223372036854775807) (y : Int) (hy : -9223372036854775808 ≤ y ∧ y ≤ 9223372036854775807) :
    Calls Try.prog 6 #[.int .i64 x, .int .i64 y] w fun e W' => e = .returned (.bool true) ∧ Below w.heap.size w W' := by
  by_cases h : x < 0 ∨ y < 0 ∨ 0 < y ∧ (9728 < x ∨ 9728 - x < y)
  · exact walk_no w x y h hx hy
  · by_cases h0 : y = 0
    · subst h0
      exact walk_nil w x (by omega) hx.2
    · obtain ⟨a, rfl⟩ : ∃ a : Nat, x = a := ⟨x.toNat, by omega⟩
      obtain ⟨s, rfl⟩ : ∃ s : Nat, y = s := ⟨y.toNat, by omega⟩
      exact walk_some w a s (by omega) (by omega)
end Go.Proofs.Ytolooiaeoloimaa.treeParts
