/- TreeRoutes, walked. -/
import Derived.Test.YtolooiaeoloimaaAwake
import Derived.Test.YtolooiaeoloimaaRefs
namespace Go.Proofs.Ytolooiaeoloimaa.treeRoutes
open Go.RowKit
set_option linter.unusedVariables false

set_option maxRecDepth 20000 in
set_option maxHeartbeats 1000000 in
theorem walk_no (w : World) (n : Int) (h : n < 0 ∨ 76 ≤ n) (hb : -9223372036854775808 ≤ n ∧ n ≤ 9223372036854775807) :
    Calls Try.prog 3 #[.int .i64 n] w fun e W' => e = .returned (.bool true) ∧ Below w.heap.size w W' := by
  go_enter Try.func3, Try.ntmps3
  go_wp2_with fail
  refine (route_no n w h hb).mono ?_
  rintro e w1 ⟨rfl, rfl⟩
  go_wp2_with fail
  refine (routes_any w).mono ?_
  rintro e w1 ⟨v, rfl, hR, hb1⟩
  have HB1 := Lib.hid hb1
  obtain ⟨A, cap, rfl, hcap, hlim⟩ := hR.size
  rw [routes_len] at hcap ⊢
  unfold maxLen at hlim
  clear hR hb1
  rcases h with h | h
  all_goals
    go_wp2_with fail
    refine (awake_any _).mono ?_
    rintro e w2 ⟨rfl, hb2⟩
    have HB2 := Lib.hid (HB1.out.trans (hb2.mono HB1.out.size))
    clear hb2
    go_wp2_with fail
    go_ret
    exact ⟨rfl, HB2.out⟩
set_option maxRecDepth 20000 in
set_option maxHeartbeats 1000000 in
theorem walk_yes (w : World) (k : Nat) (hk : k < 76) :
    Calls Try.prog 3 #[.int .i64 k] w fun e W' => e = .returned (.bool true) ∧ Below w.heap.size w W' := by
  go_enter Try.func3, Try.ntmps3
  go_wp2_with fail
  refine (route_yes k w hk).mono ?_
  rintro e w1 ⟨g1, rfl, h1, hb1⟩
  have H1 := Lib.hid h1
  have HB1 := Lib.hid hb1
  clear h1 hb1
  go_wp2_with fail
  refine (routes_any w1).mono ?_
  rintro e w2 ⟨v, rfl, hR, hb2⟩
  obtain ⟨b, cap, g, rfl, hb, hc, hI⟩ := hR.get (routes_get hk)
  obtain ⟨A, cap', e, hcap, hlim⟩ := hR.size
  cases e
  rw [routes_len] at hcap ⊢
  unfold maxLen at hlim
  have HC := Lib.hid hc
  have HI := Lib.hid hI
  have H12 := Lib.hid (H1.out.below hb2)
  have HB2 := Lib.hid (HB1.out.trans (hb2.mono HB1.out.size))
  have hs12 := hb2.size
  clear hR hb2 hc hI H1
  have hk1 : decide ((76 : Int) ≤ k) = false := by simp; omega
  go_wp2_with fail
  refine (awake_any _).mono ?_
  rintro e w3 ⟨rfl, hb3⟩
  have hc3 := (hb3.cell (p := ⟨b, k, none⟩) hb).trans HC.out
  have HIN := Lib.hid (ints_any ((H12.out.more hs12).below hb3) (HI.out.below hb3))
  rw [show decide (route k = route k) = true by simp] at HIN
  have HB3 := Lib.hid (HB2.out.trans (hb3.mono HB2.out.size))
  clear hb3 HB2 HC HI H12 HB1
  go_wp2_with fail
  refine HIN.out.mono ?_
  rintro e w4 ⟨rfl, hb4⟩
  have HB4 := Lib.hid (HB3.out.trans (hb4.mono HB3.out.size))
  clear hb4
  go_wp2_with fail
  go_ret
  exact ⟨rfl, HB4.out⟩
theorem walk (w : World) (n : Int) (hb : -9223372036854775808 ≤ n ∧ n ≤ 9223372036854775807) :
    Calls Try.prog 3 #[.int .i64 n] w fun e W' => e = .returned (.bool true) ∧ Below w.heap.size w W' := by
  by_cases h : 0 ≤ n ∧ n < 76
  · obtain ⟨k, rfl⟩ : ∃ k : Nat, n = k := ⟨n.toNat, by omega⟩
    exact walk_yes w k (by omega)
  · exact walk_no w n (by omega) hb
end Go.Proofs.Ytolooiaeoloimaa.treeRoutes
