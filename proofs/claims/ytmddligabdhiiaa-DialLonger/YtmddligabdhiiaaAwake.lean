/- The little facts that every law of layer 1 asks first ('awake') hold: the call returns true, in every world. -/
import Derived.Test.YtmddligabdhiiaaRows
import Derived.WalkKit
import Derived.ProofKit
import Derived.OpenShut
import Derived.WalkLawsBesides
import Derived.Laws.ComplexArith
import Derived.Outline
namespace Go.Proofs.Ytmddligabdhiiaa
open Go.ChangeShapes Go.WideShapes Go.ChangeAt Go.RowKit

theorem ret1 {a b : Int} (h : a = b) : Ending.returned (.int .i64 a) = .returned (.int .i64 b) := by rw [h]
theorem ret2 {a b : Int} (h : a = b) : Ending.returned (.tuple #[.int .i64 a, .int .i64 0]) = .returned (.tuple #[.int .i64 b, .int .i64 0]) := by rw [h]

set_option maxHeartbeats 400000 in
theorem most_any (n : Int) (w : World) (h0 : 0 ≤ n) (h1 : n ≤ 2000000000000) :
    Calls Try.prog 10 #[.int .i64 n] w fun e w' => e = .returned (.int .i64 (n * 5 / 4)) ∧ w = w' := by
  go_enter Try.func10, Try.ntmps10
  go_wp2
  go_ret
  exact ⟨rfl, rfl⟩

set_option maxHeartbeats 400000 in
theorem least_any (n : Int) (w : World) (h0 : 0 ≤ n) (h1 : n ≤ 2000000000000) :
    Calls Try.prog 9 #[.int .i64 n] w fun e w' => e = .returned (.int .i64 ((n * 4 + 4) / 5)) ∧ w = w' := by
  go_enter Try.func9, Try.ntmps9
  go_wp2
  go_ret
  exact ⟨ret1 (by omega), rfl⟩


/-- The nearest number to 'wish' within 4/5 and 5/4 of 'gone'. -/
def near (g w : Int) : Int := min (max w ((g * 4 + 4) / 5)) (g * 5 / 4)

set_option maxHeartbeats 400000 in
theorem near_yes (g x : Int) (w : World) (h0 : 0 ≤ g) (h1 : g ≤ 1099511627776) :
    Calls Try.prog 5 #[.int .i64 g, .int .i64 x] w fun e w' => e = .returned (.tuple #[.int .i64 (near g x), .int .i64 0]) ∧ w = w' := by
  go_enter Try.func5, Try.ntmps5
  go_wp2_with (first | (go_at_call 9; refine (least_any _ _ (by omega) (by omega)).mono ?_; rintro e w' ⟨rfl, rfl⟩) | (go_at_call 10; refine (most_any _ _ (by omega) (by omega)).mono ?_; rintro e w' ⟨rfl, rfl⟩))
  all_goals
    go_ret2
    exact ⟨ret2 (by unfold near; omega), rfl⟩

set_option maxHeartbeats 400000 in
theorem near_no (g x : Int) (w : World) (h0 : g < 0 ∨ 1099511627776 < g) :
    Calls Try.prog 5 #[.int .i64 g, .int .i64 x] w fun e w' => e = .returned (.tuple #[.int .i64 0, .int .i64 1]) ∧ w = w' := by
  rcases h0 with h | h
  all_goals
    go_enter Try.func5, Try.ntmps5
    go_wp2
    go_ret2
    exact ⟨rfl, rfl⟩

set_option maxHeartbeats 400000 in
theorem longer_yes (t : Int) (w : World) (h0 : 1 ≤ t) (h1 : t ≤ 1099511627776) :
    Calls Try.prog 8 #[.int .i64 t] w fun e w' => e = .returned (.tuple #[.int .i64 ((t - 1) * 5 / 4 * 5 / 4 + 1), .int .i64 0]) ∧ w = w' := by
  go_enter Try.func8, Try.ntmps8
  go_wp2_with (go_at_call 10; refine (most_any _ _ (by omega) (by omega)).mono ?_; rintro e w' ⟨rfl, rfl⟩)
  go_ret2
  exact ⟨rfl, rfl⟩

set_option maxHeartbeats 400000 in
theorem longer_no (t : Int) (w : World) (h0 : t < 1 ∨ 1099511627776 < t) :
    Calls Try.prog 8 #[.int .i64 t] w fun e w' => e = .returned (.tuple #[.int .i64 0, .int .i64 1]) ∧ w = w' := by
  rcases h0 with h | h
  all_goals
    go_enter Try.func8, Try.ntmps8
    go_wp2
    go_ret2
    exact ⟨rfl, rfl⟩



set_option maxHeartbeats 400000 in
theorem sound_0 (w : World) : Calls Try.prog 16 #[.float .f64 0] w fun e w' => e = .returned (.bool true) ∧ w = w' := by
  have o1 : FloatKind.f64.format.order 0 0 = some .eq := by decide +kernel
  have o2 : FloatKind.f64.format.order 0 4787326403894837248 = some .lt := by decide +kernel
  have o3 : FloatKind.f64.format.order 0 0 = some .eq := by decide +kernel
  have x1 : ∀ w, (callFunc 18 #[.float .f64 0]).run Try.prog w = .ok (.value (.float .f64 0)) w := fun _ => by kernel_rfl
  go_enter Try.func16, Try.ntmps16
  go_wp2
  go_ret
  exact ⟨rfl, rfl⟩

set_option maxHeartbeats 400000 in
theorem sound_3 (w : World) : Calls Try.prog 16 #[.float .f64 4613937818241073152] w fun e w' => e = .returned (.bool true) ∧ w = w' := by
  have o1 : FloatKind.f64.format.order 4613937818241073152 0 = some .gt := by decide +kernel
  have o2 : FloatKind.f64.format.order 4613937818241073152 4787326403894837248 = some .lt := by decide +kernel
  have o3 : FloatKind.f64.format.order 4613937818241073152 4613937818241073152 = some .eq := by decide +kernel
  have x1 : ∀ w, (callFunc 18 #[.float .f64 4613937818241073152]).run Try.prog w = .ok (.value (.float .f64 4613937818241073152)) w := fun _ => by kernel_rfl
  go_enter Try.func16, Try.ntmps16
  go_wp2
  go_ret
  exact ⟨rfl, rfl⟩

set_option maxHeartbeats 400000 in
theorem sound_4 (w : World) : Calls Try.prog 16 #[.float .f64 4616189618054758400] w fun e w' => e = .returned (.bool true) ∧ w = w' := by
  have o1 : FloatKind.f64.format.order 4616189618054758400 0 = some .gt := by decide +kernel
  have o2 : FloatKind.f64.format.order 4616189618054758400 4787326403894837248 = some .lt := by decide +kernel
  have o3 : FloatKind.f64.format.order 4616189618054758400 4616189618054758400 = some .eq := by decide +kernel
  have x1 : ∀ w, (callFunc 18 #[.float .f64 4616189618054758400]).run Try.prog w = .ok (.value (.float .f64 4616189618054758400)) w := fun _ => by kernel_rfl
  go_enter Try.func16, Try.ntmps16
  go_wp2
  go_ret
  exact ⟨rfl, rfl⟩

set_option maxHeartbeats 400000 in
theorem sound_7 (w : World) : Calls Try.prog 16 #[.float .f64 4619567317775286272] w fun e w' => e = .returned (.bool true) ∧ w = w' := by
  have o1 : FloatKind.f64.format.order 4619567317775286272 0 = some .gt := by decide +kernel
  have o2 : FloatKind.f64.format.order 4619567317775286272 4787326403894837248 = some .lt := by decide +kernel
  have o3 : FloatKind.f64.format.order 4619567317775286272 4619567317775286272 = some .eq := by decide +kernel
  have x1 : ∀ w, (callFunc 18 #[.float .f64 4619567317775286272]).run Try.prog w = .ok (.value (.float .f64 4619567317775286272)) w := fun _ => by kernel_rfl
  go_enter Try.func16, Try.ntmps16
  go_wp2
  go_ret
  exact ⟨rfl, rfl⟩

set_option maxHeartbeats 400000 in
theorem sound_9 (w : World) : Calls Try.prog 16 #[.float .f64 4621256167635550208] w fun e w' => e = .returned (.bool true) ∧ w = w' := by
  have o1 : FloatKind.f64.format.order 4621256167635550208 0 = some .gt := by decide +kernel
  have o2 : FloatKind.f64.format.order 4621256167635550208 4787326403894837248 = some .lt := by decide +kernel
  have o3 : FloatKind.f64.format.order 4621256167635550208 4621256167635550208 = some .eq := by decide +kernel
  have x1 : ∀ w, (callFunc 18 #[.float .f64 4621256167635550208]).run Try.prog w = .ok (.value (.float .f64 4621256167635550208)) w := fun _ => by kernel_rfl
  go_enter Try.func16, Try.ntmps16
  go_wp2
  go_ret
  exact ⟨rfl, rfl⟩

set_option maxHeartbeats 400000 in
theorem sound_18 (w : World) : Calls Try.prog 16 #[.float .f64 4625759767262920704] w fun e w' => e = .returned (.bool true) ∧ w = w' := by
  have o1 : FloatKind.f64.format.order 4625759767262920704 0 = some .gt := by decide +kernel
  have o2 : FloatKind.f64.format.order 4625759767262920704 4787326403894837248 = some .lt := by decide +kernel
  have o3 : FloatKind.f64.format.order 4625759767262920704 4625759767262920704 = some .eq := by decide +kernel
  have x1 : ∀ w, (callFunc 18 #[.float .f64 4625759767262920704]).run Try.prog w = .ok (.value (.float .f64 4625759767262920704)) w := fun _ => by kernel_rfl
  go_enter Try.func16, Try.ntmps16
  go_wp2
  go_ret
  exact ⟨rfl, rfl⟩

set_option maxHeartbeats 400000 in
theorem sound_19 (w : World) : Calls Try.prog 16 #[.float .f64 4626041242239631360] w fun e w' => e = .returned (.bool true) ∧ w = w' := by
  have o1 : FloatKind.f64.format.order 4626041242239631360 0 = some .gt := by decide +kernel
  have o2 : FloatKind.f64.format.order 4626041242239631360 4787326403894837248 = some .lt := by decide +kernel
  have o3 : FloatKind.f64.format.order 4626041242239631360 4626041242239631360 = some .eq := by decide +kernel
  have x1 : ∀ w, (callFunc 18 #[.float .f64 4626041242239631360]).run Try.prog w = .ok (.value (.float .f64 4626041242239631360)) w := fun _ => by kernel_rfl
  go_enter Try.func16, Try.ntmps16
  go_wp2
  go_ret
  exact ⟨rfl, rfl⟩

end Go.Proofs.Ytmddligabdhiiaa
