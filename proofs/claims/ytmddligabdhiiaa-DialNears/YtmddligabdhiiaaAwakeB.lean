/- The little facts that every law of layer 1 asks first ('awake') hold: the call returns true, in every world. -/
import Derived.Test.YtmddligabdhiiaaAwake
namespace Go.Proofs.Ytmddligabdhiiaa
open Go.ChangeShapes Go.WideShapes Go.ChangeAt Go.RowKit

set_option maxHeartbeats 400000 in
theorem Sound_3_4 (w : World) : Calls Try.prog 12 #[.complex .f64 4613937818241073152 4616189618054758400] w fun e w' => e = .returned (.bool true) ∧ w = w' := by
  go_enter Try.func12, Try.ntmps12
  go_wp2_with fail
  refine (sound_3 _).mono ?_
  rintro e w' ⟨rfl, rfl⟩
  go_wp2_with fail
  refine (sound_4 _).mono ?_
  rintro e w' ⟨rfl, rfl⟩
  go_wp2
  go_ret
  exact ⟨rfl, rfl⟩

set_option maxHeartbeats 400000 in
theorem Parts_3_4 (w : World) : Calls Try.prog 14 #[.complex .f64 4613937818241073152 4616189618054758400] w fun e w' => e = .returned (.tuple #[.int .i64 3, .int .i64 4, .int .i64 0]) ∧ w = w' := by
  have x1 : ∀ w, (convert 38 3 (.float .f64 4613937818241073152)).run Try.prog w = .ok (.int .i64 3) w := fun _ => by kernel_rfl
  have x2 : ∀ w, (convert 38 3 (.float .f64 4616189618054758400)).run Try.prog w = .ok (.int .i64 4) w := fun _ => by kernel_rfl
  go_enter Try.func14, Try.ntmps14
  go_wp2_with (go_at_call 12; refine (Sound_3_4 _).mono ?_; rintro e w' ⟨rfl, rfl⟩)
  go_ret3
  exact ⟨rfl, rfl⟩

set_option maxHeartbeats 400000 in
theorem Sound_7_9 (w : World) : Calls Try.prog 12 #[.complex .f64 4619567317775286272 4621256167635550208] w fun e w' => e = .returned (.bool true) ∧ w = w' := by
  go_enter Try.func12, Try.ntmps12
  go_wp2_with fail
  refine (sound_7 _).mono ?_
  rintro e w' ⟨rfl, rfl⟩
  go_wp2_with fail
  refine (sound_9 _).mono ?_
  rintro e w' ⟨rfl, rfl⟩
  go_wp2
  go_ret
  exact ⟨rfl, rfl⟩

set_option maxHeartbeats 400000 in
theorem Parts_7_9 (w : World) : Calls Try.prog 14 #[.complex .f64 4619567317775286272 4621256167635550208] w fun e w' => e = .returned (.tuple #[.int .i64 7, .int .i64 9, .int .i64 0]) ∧ w = w' := by
  have x1 : ∀ w, (convert 38 3 (.float .f64 4619567317775286272)).run Try.prog w = .ok (.int .i64 7) w := fun _ => by kernel_rfl
  have x2 : ∀ w, (convert 38 3 (.float .f64 4621256167635550208)).run Try.prog w = .ok (.int .i64 9) w := fun _ => by kernel_rfl
  go_enter Try.func14, Try.ntmps14
  go_wp2_with (go_at_call 12; refine (Sound_7_9 _).mono ?_; rintro e w' ⟨rfl, rfl⟩)
  go_ret3
  exact ⟨rfl, rfl⟩

set_option maxHeartbeats 400000 in
theorem Sound_3_0 (w : World) : Calls Try.prog 12 #[.complex .f64 4613937818241073152 0] w fun e w' => e = .returned (.bool true) ∧ w = w' := by
  go_enter Try.func12, Try.ntmps12
  go_wp2_with fail
  refine (sound_3 _).mono ?_
  rintro e w' ⟨rfl, rfl⟩
  go_wp2_with fail
  refine (sound_0 _).mono ?_
  rintro e w' ⟨rfl, rfl⟩
  go_wp2
  go_ret
  exact ⟨rfl, rfl⟩

set_option maxHeartbeats 400000 in
theorem Parts_3_0 (w : World) : Calls Try.prog 14 #[.complex .f64 4613937818241073152 0] w fun e w' => e = .returned (.tuple #[.int .i64 3, .int .i64 0, .int .i64 0]) ∧ w = w' := by
  have x1 : ∀ w, (convert 38 3 (.float .f64 4613937818241073152)).run Try.prog w = .ok (.int .i64 3) w := fun _ => by kernel_rfl
  have x2 : ∀ w, (convert 38 3 (.float .f64 0)).run Try.prog w = .ok (.int .i64 0) w := fun _ => by kernel_rfl
  go_enter Try.func14, Try.ntmps14
  go_wp2_with (go_at_call 12; refine (Sound_3_0 _).mono ?_; rintro e w' ⟨rfl, rfl⟩)
  go_ret3
  exact ⟨rfl, rfl⟩

set_option maxHeartbeats 400000 in
theorem Sound_18_0 (w : World) : Calls Try.prog 12 #[.complex .f64 4625759767262920704 0] w fun e w' => e = .returned (.bool true) ∧ w = w' := by
  go_enter Try.func12, Try.ntmps12
  go_wp2_with fail
  refine (sound_18 _).mono ?_
  rintro e w' ⟨rfl, rfl⟩
  go_wp2_with fail
  refine (sound_0 _).mono ?_
  rintro e w' ⟨rfl, rfl⟩
  go_wp2
  go_ret
  exact ⟨rfl, rfl⟩

set_option maxHeartbeats 400000 in
theorem Parts_18_0 (w : World) : Calls Try.prog 14 #[.complex .f64 4625759767262920704 0] w fun e w' => e = .returned (.tuple #[.int .i64 18, .int .i64 0, .int .i64 0]) ∧ w = w' := by
  have x1 : ∀ w, (convert 38 3 (.float .f64 4625759767262920704)).run Try.prog w = .ok (.int .i64 18) w := fun _ => by kernel_rfl
  have x2 : ∀ w, (convert 38 3 (.float .f64 0)).run Try.prog w = .ok (.int .i64 0) w := fun _ => by kernel_rfl
  go_enter Try.func14, Try.ntmps14
  go_wp2_with (go_at_call 12; refine (Sound_18_0 _).mono ?_; rintro e w' ⟨rfl, rfl⟩)
  go_ret3
  exact ⟨rfl, rfl⟩

set_option maxHeartbeats 400000 in
theorem Sound_19_0 (w : World) : Calls Try.prog 12 #[.complex .f64 4626041242239631360 0] w fun e w' => e = .returned (.bool true) ∧ w = w' := by
  go_enter Try.func12, Try.ntmps12
  go_wp2_with fail
  refine (sound_19 _).mono ?_
  rintro e w' ⟨rfl, rfl⟩
  go_wp2_with fail
  refine (sound_0 _).mono ?_
  rintro e w' ⟨rfl, rfl⟩
  go_wp2
  go_ret
  exact ⟨rfl, rfl⟩

set_option maxHeartbeats 400000 in
theorem Parts_19_0 (w : World) : Calls Try.prog 14 #[.complex .f64 4626041242239631360 0] w fun e w' => e = .returned (.tuple #[.int .i64 19, .int .i64 0, .int .i64 0]) ∧ w = w' := by
  have x1 : ∀ w, (convert 38 3 (.float .f64 4626041242239631360)).run Try.prog w = .ok (.int .i64 19) w := fun _ => by kernel_rfl
  have x2 : ∀ w, (convert 38 3 (.float .f64 0)).run Try.prog w = .ok (.int .i64 0) w := fun _ => by kernel_rfl
  go_enter Try.func14, Try.ntmps14
  go_wp2_with (go_at_call 12; refine (Sound_19_0 _).mono ?_; rintro e w' ⟨rfl, rfl⟩)
  go_ret3
  exact ⟨rfl, rfl⟩

set_option maxHeartbeats 400000 in
theorem keeps_4_5 (w : World) : Calls Try.prog 15 #[.complex .f64 4616189618054758400 4617315517961601024] w fun e w' => e = .returned (.bool true) ∧ w = w' := by
  have x1 : ∀ w, (binOp .mul 31 (.complex .f64 4617315517961601024 0) (.complex .f64 4616189618054758400 4617315517961601024)).run Try.prog w = .ok (.complex .f64 4626322717216342016 4627730092099895296) w := fun _ => by kernel_rfl
  have x2 : ∀ w, (binOp .mul 31 (.complex .f64 4616189618054758400 0) (.complex .f64 4617315517961601024 4616189618054758400)).run Try.prog w = .ok (.complex .f64 4626322717216342016 4625196817309499392) w := fun _ => by kernel_rfl
  have x3 : ∀ w, (binOp .sub 31 (.complex .f64 4626322717216342016 4627730092099895296) (.complex .f64 4626322717216342016 4625196817309499392)).run Try.prog w = .ok (.complex .f64 0 4621256167635550208) w := fun _ => by kernel_rfl
  have o1 : FloatKind.f64.format.order 0 0 = some .eq := by decide +kernel
  have o2 : FloatKind.f64.format.order 4621256167635550208 0 = some .gt := by decide +kernel
  go_enter Try.func15, Try.ntmps15
  go_wp2
  go_ret
  exact ⟨rfl, rfl⟩

set_option maxHeartbeats 400000 in
theorem Step_ (w : World) : Calls Try.prog 11 #[.complex .f64 4613937818241073152 4616189618054758400, .int .i64 5, .int .i64 4] w fun e w' => e = .returned (.tuple #[.complex .f64 4619567317775286272 4621256167635550208, .int .i64 0]) ∧ w = w' := by
  have x1 : ∀ w, (convert 3 38 (.int .i64 4)).run Try.prog w = .ok (.float .f64 4616189618054758400) w := fun _ => by kernel_rfl
  have x2 : ∀ w, (convert 3 38 (.int .i64 5)).run Try.prog w = .ok (.float .f64 4617315517961601024) w := fun _ => by kernel_rfl
  have x3 : ∀ w, (binOp .add 31 (.complex .f64 4613937818241073152 4616189618054758400) (.complex .f64 4616189618054758400 4617315517961601024)).run Try.prog w = .ok (.complex .f64 4619567317775286272 4621256167635550208) w := fun _ => by kernel_rfl
  go_enter Try.func11, Try.ntmps11
  go_wp2_with (first | (go_at_call 14; refine (Parts_3_4 _).mono ?_; rintro e w' ⟨rfl, rfl⟩) | (go_at_call 15; refine (keeps_4_5 _).mono ?_; rintro e w' ⟨rfl, rfl⟩))
  go_ret2
  exact ⟨rfl, rfl⟩

set_option maxHeartbeats 400000 in
theorem Lasts_18 (w : World) : Calls Try.prog 13 #[.complex .f64 4613937818241073152 0, .complex .f64 4625759767262920704 0, .int .i64 16] w fun e w' => e = .returned (.bool true) ∧ w = w' := by
  go_enter Try.func13, Try.ntmps13
  go_wp2_with fail
  refine (Parts_3_0 _).mono ?_
  rintro e w' ⟨rfl, rfl⟩
  go_wp2_with fail
  refine (Parts_18_0 _).mono ?_
  rintro e w' ⟨rfl, rfl⟩
  go_wp2
  go_ret
  exact ⟨rfl, rfl⟩

set_option maxHeartbeats 400000 in
theorem Lasts_19 (w : World) : Calls Try.prog 13 #[.complex .f64 4613937818241073152 0, .complex .f64 4626041242239631360 0, .int .i64 16] w fun e w' => e = .returned (.bool false) ∧ w = w' := by
  go_enter Try.func13, Try.ntmps13
  go_wp2_with fail
  refine (Parts_3_0 _).mono ?_
  rintro e w' ⟨rfl, rfl⟩
  go_wp2_with fail
  refine (Parts_19_0 _).mono ?_
  rintro e w' ⟨rfl, rfl⟩
  go_wp2
  go_ret
  exact ⟨rfl, rfl⟩

set_option maxHeartbeats 800000 in
theorem awake_any (w : World) : Calls Try.prog 6 #[] w fun e w' => e = .returned (.bool true) ∧ w = w' := by
  have o1 : FloatKind.f64.format.order 4619567317775286272 4619567317775286272 = some .eq := by decide +kernel
  have o2 : FloatKind.f64.format.order 4621256167635550208 4621256167635550208 = some .eq := by decide +kernel
  have n1 : near 10 99 = 12 := by decide
  go_enter Try.func6, Try.ntmps6
  go_wp2_with fail
  refine (Step_ _).mono ?_
  rintro e w' ⟨rfl, rfl⟩
  go_wp2_with fail
  refine (near_yes _ _ _ (by omega) (by omega)).mono ?_
  rintro e w' ⟨rfl, rfl⟩
  go_wp2_with fail
  refine (longer_yes _ _ (by omega) (by omega)).mono ?_
  rintro e w' ⟨rfl, rfl⟩
  go_wp2_with fail
  refine (Sound_7_9 _).mono ?_
  rintro e w' ⟨rfl, rfl⟩
  go_wp2_with fail
  refine (Lasts_18 _).mono ?_
  rintro e w' ⟨rfl, rfl⟩
  go_wp2_with fail
  refine (Lasts_19 _).mono ?_
  rintro e w' ⟨rfl, rfl⟩
  go_wp2
  go_ret
  exact ⟨rfl, rfl⟩

end Go.Proofs.Ytmddligabdhiiaa
