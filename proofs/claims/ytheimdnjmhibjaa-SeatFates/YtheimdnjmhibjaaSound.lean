/- seat.counts, seat.Sound, copyholdref08.Sound, seat.Fate, copyholdref08.Fate, bytes.Clone, walked. -/
import Derived.Test.YtheimdnjmhibjaaBase
import Derived.Handy
namespace Go.Proofs.Ytheimdnjmhibjaa
open Go.RowKit
set_option linter.unusedVariables false

theorem box_below (w : World) (o : Obj) : Below w.heap.size w (w.alloc o) := (Below.refl _ w).alloc (Nat.le_refl _) o
theorem counts_yes (x m : Int) (w : World) (h : m ≤ x) (h' : x ≤ 1073741824) : Calls Try.prog 21 #[.int .i64 x, .int .i64 m] w fun e w' => e = .returned (.bool true) ∧ w = w' := by
  go_enter Try.func21, Try.ntmps21
  go_wp2
  go_ret
  exact ⟨rfl, rfl⟩
theorem counts_no (x m : Int) (w : World) (h : ¬ (m ≤ x ∧ x ≤ 1073741824)) : Calls Try.prog 21 #[.int .i64 x, .int .i64 m] w fun e w' => e = .returned (.bool false) ∧ w = w' := by
  by_cases h1 : m ≤ x
  · have h2 : ¬ x ≤ 1073741824 := by omega
    clear h
    go_enter Try.func21, Try.ntmps21
    go_wp2
    go_ret
    exact ⟨rfl, rfl⟩
  · clear h
    go_enter Try.func21, Try.ntmps21
    go_wp2
    go_ret
    exact ⟨rfl, rfl⟩
theorem sound_any (a b : Int) (A : Option Addr) (n c : Nat) (w : World) : Calls Try.prog 9 #[.agg #[.int .i64 a, .int .i64 b, .slice A n c]] w fun e w' => e = .returned (.bool (ok a b n)) ∧ Below w.heap.size w w' := by
  obtain ⟨o, ho⟩ : ∃ o, ok a b n = o := ⟨_, rfl⟩
  rw [ho]
  have HO := Lib.hid ho
  clear ho
  by_cases ha : 0 ≤ a ∧ a ≤ 1073741824
  · have HA := Lib.hid ha
    clear ha
    by_cases hb : 0 ≤ b ∧ b ≤ 1073741824
    · have HB := Lib.hid hb
      clear hb
      by_cases hn : n ≤ 96
      · obtain rfl : o = true := by rw [← HO.out]; exact ok_iff.2 ⟨HA.out.1, HA.out.2, HB.out.1, HB.out.2, hn⟩
        go_enter Try.func9, Try.ntmps9
        go_wp2_with fail
        refine (counts_yes a 0 _ HA.out.1 HA.out.2).mono ?_
        rintro e w1 ⟨rfl, rfl⟩
        go_wp2_with fail
        refine (counts_yes b 0 _ HB.out.1 HB.out.2).mono ?_
        rintro e w1 ⟨rfl, rfl⟩
        go_wp2_with fail
        go_ret
        exact ⟨retb (decide_eq_true (by omega)), box_below _ _⟩
      · obtain rfl : o = false := by rw [← HO.out]; exact ok_not (by omega)
        go_enter Try.func9, Try.ntmps9
        go_wp2_with fail
        refine (counts_yes a 0 _ HA.out.1 HA.out.2).mono ?_
        rintro e w1 ⟨rfl, rfl⟩
        go_wp2_with fail
        refine (counts_yes b 0 _ HB.out.1 HB.out.2).mono ?_
        rintro e w1 ⟨rfl, rfl⟩
        go_wp2_with fail
        go_ret
        exact ⟨retb (decide_eq_false (by omega)), box_below _ _⟩
    · obtain rfl : o = false := by rw [← HO.out]; exact ok_not (by omega)
      have HB := Lib.hid hb
      clear hb
      go_enter Try.func9, Try.ntmps9
      go_wp2_with fail
      refine (counts_yes a 0 _ HA.out.1 HA.out.2).mono ?_
      rintro e w1 ⟨rfl, rfl⟩
      go_wp2_with fail
      refine (counts_no b 0 _ HB.out).mono ?_
      rintro e w1 ⟨rfl, rfl⟩
      go_wp2_with fail
      go_ret
      exact ⟨rfl, box_below _ _⟩
  · obtain rfl : o = false := by rw [← HO.out]; exact ok_not (by omega)
    have HA := Lib.hid ha
    clear ha
    go_enter Try.func9, Try.ntmps9
    go_wp2_with fail
    refine (counts_no a 0 _ HA.out).mono ?_
    rintro e w1 ⟨rfl, rfl⟩
    go_wp2_with fail
    go_ret
    exact ⟨rfl, box_below _ _⟩
theorem refSound_any (a b : Int) (A : Option Addr) (n c : Nat) (w : World) : Calls Try.prog 10 #[.agg #[.int .i64 a, .int .i64 b, .slice A n c]] w fun e w' => e = .returned (.bool (ok a b n)) ∧ Below w.heap.size w w' := by
  obtain ⟨o, ho⟩ : ∃ o, ok a b n = o := ⟨_, rfl⟩
  rw [ho]
  have HO := Lib.hid ho
  clear ho
  by_cases h1 : 0 ≤ a
  · by_cases h2 : a ≤ 1073741824
    · by_cases h3 : 0 ≤ b
      · by_cases h4 : b ≤ 1073741824
        · by_cases h5 : n ≤ 96
          · obtain rfl : o = true := by rw [← HO.out]; exact ok_iff.2 ⟨h1, h2, h3, h4, h5⟩
            go_enter Try.func10, Try.ntmps10
            go_wp2
            go_ret
            exact ⟨retb (decide_eq_true (by omega)), box_below _ _⟩
          · obtain rfl : o = false := by rw [← HO.out]; exact ok_not (by omega)
            go_enter Try.func10, Try.ntmps10
            go_wp2
            go_ret
            exact ⟨retb (decide_eq_false (by omega)), box_below _ _⟩
        · obtain rfl : o = false := by rw [← HO.out]; exact ok_not (by omega)
          go_enter Try.func10, Try.ntmps10
          go_wp2
          go_ret
          exact ⟨rfl, box_below _ _⟩
      · obtain rfl : o = false := by rw [← HO.out]; exact ok_not (by omega)
        go_enter Try.func10, Try.ntmps10
        go_wp2
        go_ret
        exact ⟨rfl, box_below _ _⟩
    · obtain rfl : o = false := by rw [← HO.out]; exact ok_not (by omega)
      go_enter Try.func10, Try.ntmps10
      go_wp2
      go_ret
      exact ⟨rfl, box_below _ _⟩
  · obtain rfl : o = false := by rw [← HO.out]; exact ok_not (by omega)
    go_enter Try.func10, Try.ntmps10
    go_wp2
    go_ret
    exact ⟨rfl, box_below _ _⟩
theorem clone_any (A : Option Addr) (n c B : Nat) (l : List UInt8) (w : World) (h : F.Bts w B A n c l) (hB : B ≤ w.heap.size) (hn : n ≤ 140737488355328) :
    Calls Try.prog 24 #[.slice A n c] w (F.GivesMine w l) := by
  have heq := fun W => Lib.run_eql_slice_nil (P := Try.prog) W 22 5 A n c 0 0 Try.underlying22
  have hl0 := h.len
  have H := Lib.hid h
  clear h
  rcases A with _ | a
  · have hc := H.out.nil rfl
    have h0 : l = [] := List.length_eq_zero_iff.1 (by have := H.out.cap; omega)
    subst h0
    subst hc
    simp only [Option.isNone_none] at heq
    clear hl0
    go_enter Try.func24, Try.ntmps24
    go_wp2
    go_ret
    exact ⟨_, rfl, World.ownsRow_nil _ _ _ _, Below.refl _ _⟩
  · simp only [Option.isNone_some] at heq
    have ho := World.ownsRow_made (e := 5) (size := 1) (base := w.heap.size) w #[] 0 (Nat.le_refl _) (by decide) (by rfl)
    have hbl := F.below_alloc w (.cells #[] 5)
    obtain ⟨v', w', hr, ho', hgr⟩ := F.app_run (l := []) 22 ho (H.out.below (hbl.mono hB)) (by simp; omega) (by simp)
    have HR := Lib.hid hr
    clear hr hl0
    go_enter Try.func24, Try.ntmps24
    go_wp2_with (at_builtin; refine Lib.wpList_append_run _ rfl _ _ _ _ rfl _ _ rfl rfl _ _ HR.out ?_)
    go_ret
    exact ⟨_, rfl, ho', hbl.grown hgr (by simp) (fun j hj => (ho.lt j hj).1)⟩
end Go.Proofs.Ytheimdnjmhibjaa
