/- SeatOnce, walked. -/
import Derived.Test.YtheimdnjmhibjaaAwake
namespace Go.Proofs.Ytheimdnjmhibjaa.seatOnce
open Go.RowKit
set_option linter.unusedVariables false

/-- What a request's fate tells. -/
theorem fate_cases (a b : Int) (h : Bool) (x y : Int) : (fate a b h x y = 0 ∨ fate a b h x y = 2) ∨ ((1 ≤ x ∧ x ≤ 1073741824 ∧ 0 ≤ y ∧ y ≤ 1073741824) ∧ ((fate a b h x y = 1 ∧ a = x) ∨ (fate a b h x y = 3 ∧ h = true ∧ a < x))) := by
  unfold fate
  by_cases h1 : x < 1 ∨ 1073741824 < x ∨ y < 0 ∨ 1073741824 < y
  · rw [if_pos h1]; exact .inl (.inl rfl)
  · rw [if_neg h1]
    by_cases h2 : x = a ∧ y = b
    · rw [if_pos h2]; exact .inl (.inr rfl)
    · rw [if_neg h2]
      by_cases h3 : h = true ∧ a < x
      · rw [if_pos h3]; exact .inr ⟨by omega, .inr ⟨rfl, h3.1, h3.2⟩⟩
      · rw [if_neg h3]
        by_cases h4 : h = false ∧ x = a ∧ b < y
        · rw [if_pos h4]; exact .inr ⟨by omega, .inl ⟨rfl, h4.2.1.symm⟩⟩
        · rw [if_neg h4]; exact .inl (.inl rfl)
theorem old_zero {a x y : Int} (h : a < x) : fate x y true a y = 0 := fate_hello_no (by omega) (by omega)
theorem late_zero {x y z : Int} (h : z < y) : fate x y false x z = 0 := fate_not (by omega)
set_option maxRecDepth 20000 in
set_option maxHeartbeats 1000000 in
theorem walk_no (w : World) (a b : Int) (A : Option Addr) (n c : Nat) (h : Bool) (x y z f : Int) (hf : ∀ W, Calls Try.prog 14 #[.agg #[.int .i64 a, .int .i64 b, .slice A n c], .bool h, .int .i64 x, .int .i64 y] W fun e w' => e = .returned (.int .i64 f) ∧ Below W.heap.size W w') (h02 : f = 0 ∨ f = 2) :
    Calls Try.prog 5 #[.agg #[.int .i64 a, .int .i64 b, .slice A n c], .bool h, .int .i64 x, .int .i64 y, .int .i64 z] w fun e W' => e = .returned (.bool true) ∧ Below w.heap.size w W' := by
  have HF := Lib.hid hf
  clear hf
  rcases h02 with rfl | rfl
  all_goals
    go_enter Try.func5, Try.ntmps5
    go_wp2_with fail
    refine (HF.out _).mono ?_
    rintro e w1 ⟨rfl, hb1⟩
    have HB1 : Hid (Below w.heap.size w w1) := (box_below w _).trans (hb1.mono (by simp))
    clear hb1
    go_wp2_with fail
    refine (awake_any _).mono ?_
    rintro e w2 ⟨rfl, hb2⟩
    have HB2 := Lib.hid (HB1.out.trans (hb2.mono HB1.out.size))
    clear hb2
    go_wp2_with fail
    refine (awake_any _).mono ?_
    rintro e w3 ⟨rfl, hb3⟩
    have HB3 := Lib.hid (HB2.out.trans (hb3.mono HB2.out.size))
    clear hb3
    go_wp2_with fail
    go_ret
    exact ⟨rfl, HB3.out⟩
set_option maxRecDepth 20000 in
set_option maxHeartbeats 1000000 in
theorem walk_yes (w : World) (a b : Int) (A : Option Addr) (n c : Nat) (h : Bool) (x y z f g o : Int) (hf : ∀ W, Calls Try.prog 14 #[.agg #[.int .i64 a, .int .i64 b, .slice A n c], .bool h, .int .i64 x, .int .i64 y] W fun e w' => e = .returned (.int .i64 f) ∧ Below W.heap.size W w')
    (hm : ∀ W, Calls Try.prog 14 #[.agg #[.int .i64 x, .int .i64 y, .slice none 0 0], .bool h, .int .i64 x, .int .i64 y] W fun e w' => e = .returned (.int .i64 2) ∧ Below W.heap.size W w')
    (hg : ∀ W, Calls Try.prog 14 #[.agg #[.int .i64 x, .int .i64 y, .slice none 0 0], .bool false, .int .i64 x, .int .i64 z] W fun e w' => e = .returned (.int .i64 g) ∧ Below W.heap.size W w')
    (ho : ∀ W, Calls Try.prog 14 #[.agg #[.int .i64 x, .int .i64 y, .slice none 0 0], .bool h, .int .i64 a, .int .i64 y] W fun e w' => e = .returned (.int .i64 o) ∧ Below W.heap.size W w')
    (h13 : f = 1 ∨ f = 3) (hgz : y ≤ z ∨ g = 0) (hoz : a = x ∨ o = 0) :
    Calls Try.prog 5 #[.agg #[.int .i64 a, .int .i64 b, .slice A n c], .bool h, .int .i64 x, .int .i64 y, .int .i64 z] w fun e W' => e = .returned (.bool true) ∧ Below w.heap.size w W' := by
  have HF := Lib.hid hf
  have HM := Lib.hid hm
  have HG := Lib.hid hg
  have HO := Lib.hid ho
  have HGZ := Lib.hid hgz
  have HOZ := Lib.hid hoz
  have hs : (w.alloc (Obj.cells #[.int .i64 a, .int .i64 b, .slice A n c] 24)).heap.size = w.heap.size + 1 := by simp
  have HS := Lib.hid hs
  clear hf hm hg ho hgz hoz hs
  rcases h13 with rfl | rfl
  all_goals
    go_enter Try.func5, Try.ntmps5
    go_wp2_with fail
    refine (HF.out _).mono ?_
    rintro e w1 ⟨rfl, hb1⟩
    rw [HS.out] at hb1
    have HB1 := Lib.hid hb1
    have hs1 : w.heap.size + 1 ≤ w1.heap.size := HS.out ▸ hb1.size
    clear hb1
    go_wp2_with fail
    refine (awake_any _).mono ?_
    rintro e w2 ⟨rfl, hb2⟩
    have HB2 := Lib.hid (HB1.out.trans (hb2.mono hs1))
    have hs2 : w.heap.size + 1 ≤ w2.heap.size := HS.out ▸ HB2.out.size
    clear hb2 HB1
    go_wp2_with fail
    have hsb : (w2.alloc (Obj.cells #[.int .i64 x, .int .i64 y, .slice none 0 0] 24)).heap.size = w2.heap.size + 1 := by simp
    refine (HM.out _).mono ?_
    rintro e w3 ⟨rfl, hb3⟩
    rw [hsb] at hb3
    have HB3 := Lib.hid hb3
    obtain ⟨l0, l1, l2⟩ := cell3 w2 (.int .i64 x) (.int .i64 y) (.slice none 0 0) 24 w2.heap.size rfl w3 HB3.out
    have hs3 : w2.heap.size + 1 ≤ w3.heap.size := hsb ▸ hb3.size
    clear hb3
    go_wp2_with fail
    refine (HG.out _).mono ?_
    rintro e w4 ⟨rfl, hb4⟩
    have HB4 := Lib.hid (HB3.out.trans (hb4.mono hs3))
    have hs4 : w2.heap.size + 1 ≤ w4.heap.size := hsb ▸ HB4.out.size
    clear hb4 l0 l1 l2 HB3
    obtain ⟨l0, l1, l2⟩ := cell3 w2 (.int .i64 x) (.int .i64 y) (.slice none 0 0) 24 w2.heap.size rfl w4 HB4.out
    have HBX : Hid (Below (w.heap.size + 1) (w.alloc (Obj.cells #[.int .i64 a, .int .i64 b, .slice A n c] 24)) w4) := HB2.out.trans (((box_below w2 _).trans (HB4.out.mono (by omega))).mono hs2)
    have q0 := (cell3 w (.int .i64 a) (.int .i64 b) (.slice A n c) 24 w.heap.size rfl w4 HBX.out).1
    go_wp2_with fail
    refine (HO.out _).mono ?_
    rintro e w5 ⟨rfl, hb5⟩
    have HB5 := Lib.hid (HBX.out.trans (hb5.mono (by omega)))
    clear hb5 l0 l1 l2 q0 HB4 HBX
    have q0 := (cell3 w (.int .i64 a) (.int .i64 b) (.slice A n c) 24 w.heap.size rfl w5 HB5.out).1
    have HBW : Hid (Below w.heap.size w w5) := (box_below w _).trans (HB5.out.mono (by omega))
    by_cases hz : y ≤ z
    · by_cases hax : a = x
      · subst hax
        go_wp2_with fail
        go_ret
        exact ⟨rfl, HBW.out⟩
      · obtain rfl : o = 0 := by rcases HOZ.out with h | h; exact absurd h hax; exact h
        have hd : (a == x) = false := by rw [beq_eq_false_iff_ne]; exact hax
        clear hax
        go_wp2_with fail
        go_ret
        exact ⟨rfl, HBW.out⟩
    · obtain rfl : g = 0 := by rcases HGZ.out with h | h; exact absurd h hz; exact h
      by_cases hax : a = x
      · subst hax
        go_wp2_with fail
        go_ret
        exact ⟨rfl, HBW.out⟩
      · obtain rfl : o = 0 := by rcases HOZ.out with h | h; exact absurd h hax; exact h
        have hd : (a == x) = false := by rw [beq_eq_false_iff_ne]; exact hax
        clear hax
        go_wp2_with fail
        go_ret
        exact ⟨rfl, HBW.out⟩
theorem walk (w : World) (a b : Int) (A : Option Addr) (n c : Nat) (h : Bool) (x y z : Int) :
    Calls Try.prog 5 #[.agg #[.int .i64 a, .int .i64 b, .slice A n c], .bool h, .int .i64 x, .int .i64 y, .int .i64 z] w fun e W' => e = .returned (.bool true) ∧ Below w.heap.size w W' := by
  rcases fate_cases a b h x y with h02 | ⟨⟨r1, r2, r3, r4⟩, h13⟩
  · exact walk_no w a b A n c h x y z _ (fate_any a b A n c h x y) h02
  · have hm := fate_any x y none 0 0 h x y
    have e2 : fate x y h x y = 2 := fate_again r1 r2 r3 r4
    rw [e2] at hm
    refine walk_yes w a b A n c h x y z _ _ _ (fate_any a b A n c h x y) hm (fate_any x y none 0 0 false x z) (fate_any x y none 0 0 h a y) ?_ ?_ ?_
    · rcases h13 with h13 | h13
      · exact .inl h13.1
      · exact .inr h13.1
    · by_cases hz : y ≤ z
      · exact .inl hz
      · exact .inr (late_zero (by omega))
    · rcases h13 with h13 | h13
      · exact .inl h13.2
      · rw [h13.2.1]
        exact .inr (old_zero h13.2.2)
end Go.Proofs.Ytheimdnjmhibjaa.seatOnce
