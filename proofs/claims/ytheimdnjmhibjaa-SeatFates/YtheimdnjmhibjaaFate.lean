/- seat.Fate, copyholdref08.Fate, walked. -/
import Derived.Test.YtheimdnjmhibjaaSound
namespace Go.Proofs.Ytheimdnjmhibjaa
open Go.RowKit
set_option linter.unusedVariables false

theorem fate_out {a b : Int} {h : Bool} {x y : Int} (hx : ¬ (1 ≤ x ∧ x ≤ 1073741824 ∧ 0 ≤ y ∧ y ≤ 1073741824)) : fate a b h x y = 0 := by unfold fate; rw [if_pos (by omega)]
theorem fate_again {h : Bool} {x y : Int} (h1 : 1 ≤ x) (h2 : x ≤ 1073741824) (h3 : 0 ≤ y) (h4 : y ≤ 1073741824) : fate x y h x y = 2 := by unfold fate; rw [if_neg (by omega), if_pos ⟨rfl, rfl⟩]
theorem fate_hello {a b x y : Int} (h1 : 1 ≤ x) (h2 : x ≤ 1073741824) (h3 : 0 ≤ y) (h4 : y ≤ 1073741824) (h : a < x) : fate a b true x y = 3 := by unfold fate; rw [if_neg (by omega), if_neg (by omega), if_pos ⟨rfl, h⟩]
theorem fate_hello_no {a b x y : Int} (h : ¬ (x = a ∧ y = b)) (h' : ¬ a < x) : fate a b true x y = 0 := by
  unfold fate
  by_cases hc : x < 1 ∨ 1073741824 < x ∨ y < 0 ∨ 1073741824 < y
  · rw [if_pos hc]
  · rw [if_neg hc, if_neg h, if_neg (by rintro ⟨_, h⟩; exact h' h), if_neg (by rintro ⟨h, _⟩; cases h)]
theorem fate_done {a b y : Int} (h1 : 1 ≤ a) (h2 : a ≤ 1073741824) (h3 : 0 ≤ y) (h4 : y ≤ 1073741824) (h : b < y) : fate a b false a y = 1 := by
  unfold fate
  rw [if_neg (by omega), if_neg (by omega), if_neg (by rintro ⟨h, _⟩; cases h), if_pos ⟨rfl, rfl, h⟩]
theorem fate_not {a b x y : Int} (h : ¬ (x = a ∧ b ≤ y)) : fate a b false x y = 0 := by
  unfold fate
  split
  · rfl
  · rw [if_neg (by omega), if_neg (by rintro ⟨h, _⟩; cases h), if_neg (by omega)]
theorem rint {a b : Int} (h : a = b) : Ending.returned (.int .i64 a) = .returned (.int .i64 b) := by rw [h]
set_option maxRecDepth 20000 in
set_option maxHeartbeats 1000000 in
theorem fate_any (a b : Int) (A : Option Addr) (n c : Nat) (h : Bool) (x y : Int) (w : World) :
    Calls Try.prog 14 #[.agg #[.int .i64 a, .int .i64 b, .slice A n c], .bool h, .int .i64 x, .int .i64 y] w fun e w' => e = .returned (.int .i64 (fate a b h x y)) ∧ Below w.heap.size w w' := by
  by_cases hx : 1 ≤ x ∧ x ≤ 1073741824
  · by_cases hy : 0 ≤ y ∧ y ≤ 1073741824
    · have HX := Lib.hid hx
      have HY := Lib.hid hy
      clear hx hy
      by_cases h1 : x = a
      · subst h1
        by_cases h2 : y = b
        · subst h2
          rw [fate_again HX.out.1 HX.out.2 HY.out.1 HY.out.2]
          go_enter Try.func14, Try.ntmps14
          go_wp2_with fail
          refine (counts_yes x 1 _ HX.out.1 HX.out.2).mono ?_
          rintro e w1 ⟨rfl, rfl⟩
          go_wp2_with fail
          refine (counts_yes y 0 _ HY.out.1 HY.out.2).mono ?_
          rintro e w1 ⟨rfl, rfl⟩
          go_wp2_with fail
          go_ret
          exact ⟨rfl, box_below _ _⟩
        · have hd : (y == b) = false := by rw [beq_eq_false_iff_ne]; exact h2
          cases h with
          | true =>
            have HF := Lib.hid (fate_hello_no (a := x) (b := b) (x := x) (y := y) (by omega) (by omega))
            rw [HF.out]
            clear h2 HF
            go_enter Try.func14, Try.ntmps14
            go_wp2_with fail
            refine (counts_yes x 1 _ HX.out.1 HX.out.2).mono ?_
            rintro e w1 ⟨rfl, rfl⟩
            go_wp2_with fail
            refine (counts_yes y 0 _ HY.out.1 HY.out.2).mono ?_
            rintro e w1 ⟨rfl, rfl⟩
            go_wp2_with fail
            go_ret
            exact ⟨rfl, box_below _ _⟩
          | false =>
            by_cases h3 : b < y
            · rw [fate_done HX.out.1 HX.out.2 HY.out.1 HY.out.2 h3]
              clear h2
              go_enter Try.func14, Try.ntmps14
              go_wp2_with fail
              refine (counts_yes x 1 _ HX.out.1 HX.out.2).mono ?_
              rintro e w1 ⟨rfl, rfl⟩
              go_wp2_with fail
              refine (counts_yes y 0 _ HY.out.1 HY.out.2).mono ?_
              rintro e w1 ⟨rfl, rfl⟩
              go_wp2_with fail
              go_ret
              exact ⟨rfl, box_below _ _⟩
            · rw [fate_not (by omega)]
              clear h2
              go_enter Try.func14, Try.ntmps14
              go_wp2_with fail
              refine (counts_yes x 1 _ HX.out.1 HX.out.2).mono ?_
              rintro e w1 ⟨rfl, rfl⟩
              go_wp2_with fail
              refine (counts_yes y 0 _ HY.out.1 HY.out.2).mono ?_
              rintro e w1 ⟨rfl, rfl⟩
              go_wp2_with fail
              go_ret
              exact ⟨rfl, box_below _ _⟩
      · have hd : (x == a) = false := by rw [beq_eq_false_iff_ne]; exact h1
        cases h with
        | true =>
          by_cases h3 : a < x
          · rw [fate_hello HX.out.1 HX.out.2 HY.out.1 HY.out.2 h3]
            clear h1
            go_enter Try.func14, Try.ntmps14
            go_wp2_with fail
            refine (counts_yes x 1 _ HX.out.1 HX.out.2).mono ?_
            rintro e w1 ⟨rfl, rfl⟩
            go_wp2_with fail
            refine (counts_yes y 0 _ HY.out.1 HY.out.2).mono ?_
            rintro e w1 ⟨rfl, rfl⟩
            go_wp2_with fail
            go_ret
            exact ⟨rfl, box_below _ _⟩
          · rw [fate_hello_no (by omega) h3]
            clear h1
            go_enter Try.func14, Try.ntmps14
            go_wp2_with fail
            refine (counts_yes x 1 _ HX.out.1 HX.out.2).mono ?_
            rintro e w1 ⟨rfl, rfl⟩
            go_wp2_with fail
            refine (counts_yes y 0 _ HY.out.1 HY.out.2).mono ?_
            rintro e w1 ⟨rfl, rfl⟩
            go_wp2_with fail
            go_ret
            exact ⟨rfl, box_below _ _⟩
        | false =>
          rw [fate_not (by omega)]
          clear h1
          go_enter Try.func14, Try.ntmps14
          go_wp2_with fail
          refine (counts_yes x 1 _ HX.out.1 HX.out.2).mono ?_
          rintro e w1 ⟨rfl, rfl⟩
          go_wp2_with fail
          refine (counts_yes y 0 _ HY.out.1 HY.out.2).mono ?_
          rintro e w1 ⟨rfl, rfl⟩
          go_wp2_with fail
          go_ret
          exact ⟨rfl, box_below _ _⟩
    · rw [fate_out (by omega)]
      have HX := Lib.hid hx
      have HY := Lib.hid hy
      clear hx hy
      go_enter Try.func14, Try.ntmps14
      go_wp2_with fail
      refine (counts_yes x 1 _ HX.out.1 HX.out.2).mono ?_
      rintro e w1 ⟨rfl, rfl⟩
      go_wp2_with fail
      refine (counts_no y 0 _ HY.out).mono ?_
      rintro e w1 ⟨rfl, rfl⟩
      go_wp2_with fail
      go_ret
      exact ⟨rfl, box_below _ _⟩
  · rw [fate_out (by omega)]
    have HX := Lib.hid hx
    clear hx
    go_enter Try.func14, Try.ntmps14
    go_wp2_with fail
    refine (counts_no x 1 _ HX.out).mono ?_
    rintro e w1 ⟨rfl, rfl⟩
    go_wp2_with fail
    go_ret
    exact ⟨rfl, box_below _ _⟩
set_option maxRecDepth 20000 in
set_option maxHeartbeats 1000000 in
theorem refFate_any (a b : Int) (A : Option Addr) (n c : Nat) (h : Bool) (x y : Int) (w : World) :
    Calls Try.prog 15 #[.agg #[.int .i64 a, .int .i64 b, .slice A n c], .bool h, .int .i64 x, .int .i64 y] w fun e w' => e = .returned (.int .i64 (fate a b h x y)) ∧ Below w.heap.size w w' := by
  by_cases g1 : x < 1
  · rw [fate_out (by omega)]
    go_enter Try.func15, Try.ntmps15
    go_wp2
    go_ret
    exact ⟨rfl, box_below _ _⟩
  by_cases g2 : 1073741824 < x
  · rw [fate_out (by omega)]
    go_enter Try.func15, Try.ntmps15
    go_wp2
    go_ret
    exact ⟨rfl, box_below _ _⟩
  by_cases g3 : y < 0
  · rw [fate_out (by omega)]
    go_enter Try.func15, Try.ntmps15
    go_wp2
    go_ret
    exact ⟨rfl, box_below _ _⟩
  by_cases g4 : 1073741824 < y
  · rw [fate_out (by omega)]
    go_enter Try.func15, Try.ntmps15
    go_wp2
    go_ret
    exact ⟨rfl, box_below _ _⟩
  cases h with
  | true =>
    by_cases h3 : a < x
    · rw [fate_hello (by omega) (by omega) (by omega) (by omega) h3]
      go_enter Try.func15, Try.ntmps15
      go_wp2
      go_ret
      exact ⟨rfl, box_below _ _⟩
    · by_cases h1 : x = a
      · subst h1
        by_cases h2 : y = b
        · subst h2
          rw [fate_again (by omega) (by omega) (by omega) (by omega)]
          go_enter Try.func15, Try.ntmps15
          go_wp2
          go_ret
          exact ⟨rfl, box_below _ _⟩
        · have hd : (y == b) = false := by rw [beq_eq_false_iff_ne]; exact h2
          rw [fate_hello_no (by omega) h3]
          go_enter Try.func15, Try.ntmps15
          go_wp2
          go_ret
          exact ⟨rfl, box_below _ _⟩
      · have hd : (x == a) = false := by rw [beq_eq_false_iff_ne]; exact h1
        rw [fate_hello_no (by omega) h3]
        go_enter Try.func15, Try.ntmps15
        go_wp2
        go_ret
        exact ⟨rfl, box_below _ _⟩
  | false =>
    by_cases h1 : x = a
    · subst h1
      have hn : (x != x) = false := by simp
      by_cases h2 : y = b
      · subst h2
        rw [fate_again (by omega) (by omega) (by omega) (by omega)]
        go_enter Try.func15, Try.ntmps15
        go_wp2
        go_ret
        exact ⟨rfl, box_below _ _⟩
      · have hd : (y == b) = false := by rw [beq_eq_false_iff_ne]; exact h2
        by_cases h3 : b < y
        · rw [fate_done (by omega) (by omega) (by omega) (by omega) h3]
          have h4 : ¬ y < b := by omega
          go_enter Try.func15, Try.ntmps15
          go_wp2
          go_ret
          exact ⟨rfl, box_below _ _⟩
        · rw [fate_not (by omega)]
          have h4 : y < b := by omega
          go_enter Try.func15, Try.ntmps15
          go_wp2
          go_ret
          exact ⟨rfl, box_below _ _⟩
    · have hd : (x != a) = true := by rw [bne_iff_ne]; exact h1
      rw [fate_not (by omega)]
      go_enter Try.func15, Try.ntmps15
      go_wp2
      go_ret
      exact ⟨rfl, box_below _ _⟩
end Go.Proofs.Ytheimdnjmhibjaa
