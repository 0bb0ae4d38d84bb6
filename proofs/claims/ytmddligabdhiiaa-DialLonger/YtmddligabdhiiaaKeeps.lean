/- What 'Keeps' of the document's answer returns, and how the nearest number stands to the bounds of step. -/
import Derived.Test.YtmddligabdhiiaaAwakeB
namespace Go.Proofs.Ytmddligabdhiiaa
open Go.ChangeShapes Go.WideShapes Go.ChangeAt Go.RowKit

set_option maxHeartbeats 400000 in
theorem keeps_yes (g s : Int) (w : World) (g0 : 0 ≤ g) (g1 : g ≤ 2000000000000) (s0 : 0 ≤ s) (s1 : s ≤ 2000000000000) (ha : 4 * g ≤ 5 * s) (hb : 4 * s ≤ 5 * g) :
    Calls Try.prog 7 #[.int .i64 g, .int .i64 s] w fun e w' => e = .returned (.bool true) ∧ w = w' := by
  go_enter Try.func7, Try.ntmps7
  go_wp2
  all_goals
    go_ret
    exact ⟨by simp [*], rfl⟩

set_option maxHeartbeats 400000 in
theorem keeps_no (g s : Int) (w : World) (g0 : 0 ≤ g) (g1 : g ≤ 2000000000000) (s0 : 0 ≤ s) (s1 : s ≤ 2000000000000) (h : 5 * s < 4 * g ∨ 5 * g < 4 * s) :
    Calls Try.prog 7 #[.int .i64 g, .int .i64 s] w fun e w' => e = .returned (.bool false) ∧ w = w' := by
  by_cases h1 : 5 * s < 4 * g
  · clear h
    go_enter Try.func7, Try.ntmps7
    go_wp2
    all_goals
      go_ret
      exact ⟨by simp [*], rfl⟩
  · have h2 : 5 * g < 4 * s := by omega
    clear h
    go_enter Try.func7, Try.ntmps7
    go_wp2
    all_goals
      go_ret
      exact ⟨by simp; omega, rfl⟩

theorem least_most (g : Int) (h0 : 0 ≤ g) : (g * 4 + 4) / 5 ≤ g * 5 / 4 := by
  by_cases h : g ≤ 3
  · have : g = 0 ∨ g = 1 ∨ g = 2 ∨ g = 3 := by omega
    rcases this with rfl | rfl | rfl | rfl <;> decide
  · omega
theorem near_bd (g x : Int) (h0 : 0 ≤ g) (h1 : g ≤ 1099511627776) : 0 ≤ near g x ∧ near g x ≤ 1374389534720 ∧ 4 * g ≤ 5 * near g x ∧ 4 * near g x ≤ 5 * g := by
  have := least_most g h0
  unfold near; omega
theorem near_below (g x : Int) (h : near g x < x) : 5 * g < 4 * (near g x + 1) := by
  unfold near at *; omega
theorem near_above (g x : Int) (h0 : 0 ≤ g) (h : x < near g x) (hn : near g x ≠ 0) : 5 * (near g x - 1) < 4 * g := by
  unfold near at *; omega
end Go.Proofs.Ytmddligabdhiiaa
