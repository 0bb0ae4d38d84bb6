/- super.numbersOf, super.Sound, copyholdref07.Sound, walked. -/
import Derived.Test.YtbcomdjliioljaaBase
import Derived.Handy
namespace Go.Proofs.Ytbcomdjliioljaa
open Go.RowKit
set_option linter.unusedVariables false

theorem numbersOf_any (a b c : Int) (w : World) : Calls Try.prog 12 #[.agg #[.int .i64 a, .int .i64 b, .int .i64 c]] w fun e w' => e = .returned (.agg #[.int .i64 a, .int .i64 b, .int .i64 c]) ∧ Below w.heap.size w w' := by
  go_enter Try.func12, Try.ntmps12
  go_wp2
  go_returns
  exact ⟨rfl, ((Below.refl _ w).alloc (Nat.le_refl _) _).alloc (by simp) _⟩
theorem idx0 (a b c : Int) (w : World) : (Instr.index 40 (.agg #[.int .i64 a, .int .i64 b, .int .i64 c]) (.int .i64 0)).run Try.prog w = .ok (.int .i64 a) w := by kernel_rfl
theorem idx1 (a b c : Int) (w : World) : (Instr.index 40 (.agg #[.int .i64 a, .int .i64 b, .int .i64 c]) (.int .i64 1)).run Try.prog w = .ok (.int .i64 b) w := by kernel_rfl
theorem idx2 (a b c : Int) (w : World) : (Instr.index 40 (.agg #[.int .i64 a, .int .i64 b, .int .i64 c]) (.int .i64 2)).run Try.prog w = .ok (.int .i64 c) w := by kernel_rfl
theorem cell3 (w : World) (x y z : Int) (t : TypeId) (b : Nat) (hb : b = w.heap.size) (W : World) (h : Below (b + 1) (w.alloc (.cells #[.int .i64 x, .int .i64 y, .int .i64 z] t)) W) :
    W.cell? ⟨b, 0, none⟩ = some (.int .i64 x) ∧ W.cell? ⟨b, 1, none⟩ = some (.int .i64 y) ∧ W.cell? ⟨b, 2, none⟩ = some (.int .i64 z) := by
  subst hb
  refine ⟨?_, ?_, ?_⟩ <;> (rw [h.cell (by simp)]; exact World.cell?_alloc_mark w _ t (0, 0) _)
theorem sound_any (a b c : Int) (w : World) : Calls Try.prog 8 #[.agg #[.int .i64 a, .int .i64 b, .int .i64 c]] w fun e w' => e = .returned (.bool (ok a b c)) ∧ Below w.heap.size w w' := by
  obtain ⟨o, ho⟩ : ∃ o, ok a b c = o := ⟨_, rfl⟩
  rw [ho]
  have HO := Lib.hid ho
  clear ho
  go_enter Try.func8, Try.ntmps8
  go_wp2_with fail
  refine (numbersOf_any a b c _).mono ?_
  rintro e w1 ⟨rfl, hb1⟩
  have HB1 := Lib.hid hb1
  clear hb1
  have hs1 : ((w.alloc (Obj.cells #[.int .i64 a, .int .i64 b, .int .i64 c] 23)).alloc (Obj.cells #[.int .i64 64, .int .i64 0, .int .i64 0] 40)).heap.size = w.heap.size + 1 + 1 := by simp
  obtain ⟨p0, p1, p2⟩ := cell3 _ 64 0 0 40 (w.heap.size + 1) (by simp) w1 (((Below.refl _ _).alloc (by simp) _).trans (HB1.out.mono (by simp)))
  obtain ⟨q0, q1, q2⟩ := cell3 _ 1024 1073741824 1073741824 40 (w.heap.size + 1 + 1) (by simp) w1 (HB1.out.mono (by simp))
  have HB : Hid (Below w.heap.size w w1) := ((((Below.refl _ w).alloc (Nat.le_refl _) _).alloc (by simp) _).alloc (by simp; omega) _).trans (HB1.out.mono (by simp; omega))
  clear HB1 hs1
  have i0 := idx0 a b c
  have i1 := idx1 a b c
  have i2 := idx2 a b c
  go_wp2_with fail
  by_cases h1 : a < 64
  · obtain rfl : o = false := by rw [← HO.out]; exact ok_not (by omega)
    go_rounds 4
    go_ret
    exact ⟨rfl, HB.out⟩
  by_cases h2 : 1024 < a
  · obtain rfl : o = false := by rw [← HO.out]; exact ok_not (by omega)
    go_rounds 4
    go_ret
    exact ⟨rfl, HB.out⟩
  by_cases h3 : b < 0
  · obtain rfl : o = false := by rw [← HO.out]; exact ok_not (by omega)
    go_rounds 4
    go_ret
    exact ⟨rfl, HB.out⟩
  by_cases h4 : 1073741824 < b
  · obtain rfl : o = false := by rw [← HO.out]; exact ok_not (by omega)
    go_rounds 4
    go_ret
    exact ⟨rfl, HB.out⟩
  by_cases h5 : c < 0
  · obtain rfl : o = false := by rw [← HO.out]; exact ok_not (by omega)
    go_rounds 4
    go_ret
    exact ⟨rfl, HB.out⟩
  by_cases h6 : 1073741824 < c
  · obtain rfl : o = false := by rw [← HO.out]; exact ok_not (by omega)
    go_rounds 4
    go_ret
    exact ⟨rfl, HB.out⟩
  · obtain rfl : o = true := by rw [← HO.out]; exact ok_iff.2 (by omega)
    go_rounds 4
    go_ret
    exact ⟨rfl, HB.out⟩
theorem refSound_any (a b c : Int) (w : World) : Calls Try.prog 9 #[.agg #[.int .i64 a, .int .i64 b, .int .i64 c]] w fun e w' => e = .returned (.bool (ok a b c)) ∧ Below w.heap.size w w' := by
  obtain ⟨o, ho⟩ : ∃ o, ok a b c = o := ⟨_, rfl⟩
  rw [ho]
  have HO := Lib.hid ho
  clear ho
  have HB : ∀ x : Obj, Hid (Below w.heap.size w (w.alloc x)) := fun x => (Below.refl _ w).alloc (Nat.le_refl _) _
  by_cases h1 : 64 ≤ a
  · by_cases h2 : a ≤ 1024
    · by_cases h3 : 0 ≤ b
      · by_cases h4 : b ≤ 1073741824
        · by_cases h5 : 0 ≤ c
          · by_cases h6 : c ≤ 1073741824
            · obtain rfl : o = true := by rw [← HO.out]; exact ok_iff.2 (by omega)
              go_enter Try.func9, Try.ntmps9
              go_wp2_with fail
              go_ret
              exact ⟨rfl, (HB _).out⟩
            · obtain rfl : o = false := by rw [← HO.out]; exact ok_not (by omega)
              go_enter Try.func9, Try.ntmps9
              go_wp2_with fail
              go_ret
              exact ⟨rfl, (HB _).out⟩
          · obtain rfl : o = false := by rw [← HO.out]; exact ok_not (by omega)
            go_enter Try.func9, Try.ntmps9
            go_wp2_with fail
            go_ret
            exact ⟨rfl, (HB _).out⟩
        · obtain rfl : o = false := by rw [← HO.out]; exact ok_not (by omega)
          go_enter Try.func9, Try.ntmps9
          go_wp2_with fail
          go_ret
          exact ⟨rfl, (HB _).out⟩
      · obtain rfl : o = false := by rw [← HO.out]; exact ok_not (by omega)
        go_enter Try.func9, Try.ntmps9
        go_wp2_with fail
        go_ret
        exact ⟨rfl, (HB _).out⟩
    · obtain rfl : o = false := by rw [← HO.out]; exact ok_not (by omega)
      go_enter Try.func9, Try.ntmps9
      go_wp2_with fail
      go_ret
      exact ⟨rfl, (HB _).out⟩
  · obtain rfl : o = false := by rw [← HO.out]; exact ok_not (by omega)
    go_enter Try.func9, Try.ntmps9
    go_wp2_with fail
    go_ret
    exact ⟨rfl, (HB _).out⟩
end Go.Proofs.Ytbcomdjliioljaa
