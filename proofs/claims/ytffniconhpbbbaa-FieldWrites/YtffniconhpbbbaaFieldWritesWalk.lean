/- FieldWrites, walked. -/
import Derived.Test.YtffniconhpbbbaaAwake
import Derived.Test.YtffniconhpbbbaaRefsB
namespace Go.Proofs.Ytffniconhpbbbaa.fieldWrites
open Go.RowKit
set_option linter.unusedVariables false
attribute [local go_sem ↓] Go.wp_at_zero Go.wp_at_succ
set_option maxRecDepth 100000 in
set_option maxHeartbeats 2000000 in
theorem walk_ns (w : World) (A : Option Addr) (n c : Nat) (l : List UInt8) (h : Bts w w.heap.size A n c l) (R : c ≤ 140737488351232) (x : Nat) (hx : x < 4294967296) (s : List UInt8) (hsr : s.length ≤ 140737488351232) (hs : s.length ≤ 65535) :
    Calls Try.prog 3 #[.slice A n c, .int .i64 (x : Int), .string ⟨s.toArray⟩] w fun e w' => e = .returned (.bool true) ∧ Below w.heap.size w w' := by
  have hn : n ≤ 140737488351232 := Nat.le_trans h.cap R
  have hl : l.length ≤ 140737488351232 := by rw [h.len]; exact hn
  have hsz : (ByteArray.mk s.toArray).size = s.length := rfl
  have H := Lib.hid h
  clear h
  have g1 : (0 : Int) ≤ (x : Int) := by omega
  have g2 : (x : Int) ≤ 4294967295 := by omega
  have e1 := str_app l (lit 4 x)
  have z1 : ¬ 9223372036854775807 < l.length + (lit 4 x).length := by rw [lit_length]; omega
  have g3 : (s.length : Int) ≤ 65535 := by omega
  have e2 := str_app l (lit 2 s.length ++ s)
  have z2 : ¬ 9223372036854775807 < l.length + ((lit 2 s.length).length + s.length) := by rw [lit_length]; omega
  go_enter Try.func3, Try.ntmps3
  go_wp2_with fail
  refine (num_yes A n c _ x l w hx H.out (Nat.le_refl _) (by omega)).mono ?_
  rintro e w1 ⟨v, rfl, hm1⟩
  obtain ⟨A1, n1, c1, rfl, hB1⟩ := hm1.holds
  have H1 := Lib.hid hB1
  have hb1 := hm1.bel
  clear hB1 hm1
  go_wp2_with fail
  refine (text_yes A n c _ l ⟨s.toArray⟩ w1 hs (H.out.below hb1) hb1.size (by omega)).mono ?_
  rintro e w2 ⟨v, rfl, hm2⟩
  obtain ⟨A2, n2, c2, rfl, hB2⟩ := hm2.holds
  have hB2' : Bts w2 w2.heap.size A2 n2 c2 (l ++ (lit 2 s.length ++ s)) := by rw [← List.append_assoc]; exact hB2
  have H2 := Lib.hid hB2'
  have hb2 := hm2.bel
  clear hB2 hB2' hm2
  have b2 : Below w.heap.size w w2 := hb1.trans (hb2.mono hb1.size)
  have t2 : Below w2.heap.size w2 w2 := Below.refl _ _
  go_wp2
  go_region_held3 (fun W => (convert 22 9 (.slice A n c)).run Try.prog W = .ok (.string ⟨l.toArray⟩) W) (first | exact (H.out.below b2).str _ (fun _ _ => rfl) | exact (H.out.below b3).str _ (fun _ _ => rfl)) (first
    | (go_at_call 13; refine (little_any x 4 _ (by omega) (by omega)).mono ?_; rintro e w3 ⟨rfl, hb3⟩; have t3 : Below w2.heap.size w2 w3 := t2.drew.trans hb3; have b3 : Below w.heap.size w w3 := b2.trans (t3.mono b2.size)))
  go_wp2
  go_region_held3 (fun W => (convert 22 9 (.slice A n c)).run Try.prog W = .ok (.string ⟨l.toArray⟩) W) (first | exact (H.out.below b3).str _ (fun _ _ => rfl) | exact (H.out.below b4).str _ (fun _ _ => rfl)) (first
    | (go_at_call 14; refine (refText_any s _ (by omega)).mono ?_; rintro e w4 ⟨rfl, hb4⟩; have q4 : Below w3.heap.size w3 w4 := (Below.refl _ _).drew.trans hb4; have t4 : Below w2.heap.size w2 w4 := t3.trans (q4.mono t3.size); have b4 : Below w.heap.size w w4 := b2.trans (t4.mono b2.size)))
  go_wp2_with fail
  refine (awake_any _).mono ?_
  rintro e w5 ⟨rfl, hb5⟩
  have t5 : Below w2.heap.size w2 w5 := t4.trans (hb5.mono t4.size)
  have b5 : Below w.heap.size w w5 := b2.trans (t5.mono b2.size)
  have s0 := (Bts.nil_ w5 0).str w5 (fun _ _ => rfl)
  have s2 := (H2.out.below t5).str w5 (fun _ _ => rfl)
  have s1 := ((H1.out.below hb2).below (t5.mono hb2.size)).str w5 (fun _ _ => rfl)
  generalize lit 4 x = q4 at *
  generalize lit 2 s.length ++ s = q2 at *
  go_wp2
  go_ret
  exact ⟨rfl, b5⟩
set_option maxRecDepth 100000 in
set_option maxHeartbeats 2000000 in
theorem walk_nt (w : World) (A : Option Addr) (n c : Nat) (l : List UInt8) (h : Bts w w.heap.size A n c l) (R : c ≤ 140737488351232) (x : Nat) (hx : x < 4294967296) (s : List UInt8) (hsr : s.length ≤ 140737488351232) (hs : 65535 < s.length) :
    Calls Try.prog 3 #[.slice A n c, .int .i64 (x : Int), .string ⟨s.toArray⟩] w fun e w' => e = .returned (.bool true) ∧ Below w.heap.size w w' := by
  have hn : n ≤ 140737488351232 := Nat.le_trans h.cap R
  have hl : l.length ≤ 140737488351232 := by rw [h.len]; exact hn
  have hsz : (ByteArray.mk s.toArray).size = s.length := rfl
  have H := Lib.hid h
  clear h
  have g1 : (0 : Int) ≤ (x : Int) := by omega
  have g2 : (x : Int) ≤ 4294967295 := by omega
  have e1 := str_app l (lit 4 x)
  have z1 : ¬ 9223372036854775807 < l.length + (lit 4 x).length := by rw [lit_length]; omega
  have g3 : decide ((s.length : Int) ≤ 65535) = false := decide_eq_false (by omega)
  go_enter Try.func3, Try.ntmps3
  go_wp2_with fail
  refine (num_yes A n c _ x l w hx H.out (Nat.le_refl _) (by omega)).mono ?_
  rintro e w1 ⟨v, rfl, hm1⟩
  obtain ⟨A1, n1, c1, rfl, hB1⟩ := hm1.holds
  have H1 := Lib.hid hB1
  have hb1 := hm1.bel
  clear hB1 hm1
  go_wp2_with fail
  refine (text_no A n c ⟨s.toArray⟩ w1 hs).mono ?_
  rintro e w2 ⟨rfl, rfl⟩
  have hb2 := Below.refl w1.heap.size w1
  have b2 : Below w.heap.size w w1 := hb1.trans (hb2.mono hb1.size)
  have t2 : Below w1.heap.size w1 w1 := Below.refl _ _
  go_wp2
  go_region_held3 (fun W => (convert 22 9 (.slice A n c)).run Try.prog W = .ok (.string ⟨l.toArray⟩) W) (first | exact (H.out.below b2).str _ (fun _ _ => rfl) | exact (H.out.below b3).str _ (fun _ _ => rfl)) (first
    | (go_at_call 13; refine (little_any x 4 _ (by omega) (by omega)).mono ?_; rintro e w3 ⟨rfl, hb3⟩; have t3 : Below w1.heap.size w1 w3 := t2.drew.trans hb3; have b3 : Below w.heap.size w w3 := b2.trans (t3.mono b2.size)))
  have t4 := t3
  have b4 := b3
  go_wp2_with fail
  refine (awake_any _).mono ?_
  rintro e w5 ⟨rfl, hb5⟩
  have t5 : Below w1.heap.size w1 w5 := t4.trans (hb5.mono t4.size)
  have b5 : Below w.heap.size w w5 := b2.trans (t5.mono b2.size)
  have s0 := (Bts.nil_ w5 0).str w5 (fun _ _ => rfl)
  have s1 := ((H1.out.below hb2).below (t5.mono hb2.size)).str w5 (fun _ _ => rfl)
  generalize lit 4 x = q4 at *
  go_wp2
  go_ret
  exact ⟨rfl, b5⟩
set_option maxRecDepth 100000 in
set_option maxHeartbeats 2000000 in
theorem walk_ms (w : World) (A : Option Addr) (n c : Nat) (l : List UInt8) (h : Bts w w.heap.size A n c l) (R : c ≤ 140737488351232) (x : Int) (hx : x < 0) (s : List UInt8) (hsr : s.length ≤ 140737488351232) (hs : s.length ≤ 65535) :
    Calls Try.prog 3 #[.slice A n c, .int .i64 x, .string ⟨s.toArray⟩] w fun e w' => e = .returned (.bool true) ∧ Below w.heap.size w w' := by
  have hn : n ≤ 140737488351232 := Nat.le_trans h.cap R
  have hl : l.length ≤ 140737488351232 := by rw [h.len]; exact hn
  have hsz : (ByteArray.mk s.toArray).size = s.length := rfl
  have H := Lib.hid h
  clear h
  have g1 : decide ((0 : Int) ≤ x) = false := decide_eq_false (by omega)
  have g3 : (s.length : Int) ≤ 65535 := by omega
  have e2 := str_app l (lit 2 s.length ++ s)
  have z2 : ¬ 9223372036854775807 < l.length + ((lit 2 s.length).length + s.length) := by rw [lit_length]; omega
  go_enter Try.func3, Try.ntmps3
  go_wp2_with fail
  refine (num_no A n c x w (by omega)).mono ?_
  rintro e w1 ⟨rfl, rfl⟩
  have hb1 := Below.refl w.heap.size w
  go_wp2_with fail
  refine (text_yes A n c _ l ⟨s.toArray⟩ w hs (H.out.below hb1) hb1.size (by omega)).mono ?_
  rintro e w2 ⟨v, rfl, hm2⟩
  obtain ⟨A2, n2, c2, rfl, hB2⟩ := hm2.holds
  have hB2' : Bts w2 w2.heap.size A2 n2 c2 (l ++ (lit 2 s.length ++ s)) := by rw [← List.append_assoc]; exact hB2
  have H2 := Lib.hid hB2'
  have hb2 := hm2.bel
  clear hB2 hB2' hm2
  have b2 : Below w.heap.size w w2 := hb1.trans (hb2.mono hb1.size)
  have t2 : Below w2.heap.size w2 w2 := Below.refl _ _
  have t3 := t2
  have b3 := b2
  go_wp2
  go_region_held3 (fun W => (convert 22 9 (.slice A n c)).run Try.prog W = .ok (.string ⟨l.toArray⟩) W) (first | exact (H.out.below b3).str _ (fun _ _ => rfl) | exact (H.out.below b4).str _ (fun _ _ => rfl)) (first
    | (go_at_call 14; refine (refText_any s _ (by omega)).mono ?_; rintro e w4 ⟨rfl, hb4⟩; have q4 : Below w2.heap.size w2 w4 := (Below.refl _ _).drew.trans hb4; have t4 : Below w2.heap.size w2 w4 := t3.trans (q4.mono t3.size); have b4 : Below w.heap.size w w4 := b2.trans (t4.mono b2.size)))
  go_wp2_with fail
  refine (awake_any _).mono ?_
  rintro e w5 ⟨rfl, hb5⟩
  have t5 : Below w2.heap.size w2 w5 := t4.trans (hb5.mono t4.size)
  have b5 : Below w.heap.size w w5 := b2.trans (t5.mono b2.size)
  have s0 := (Bts.nil_ w5 0).str w5 (fun _ _ => rfl)
  have s2 := (H2.out.below t5).str w5 (fun _ _ => rfl)
  generalize lit 2 s.length ++ s = q2 at *
  go_wp2
  go_ret
  exact ⟨rfl, b5⟩
set_option maxRecDepth 100000 in
set_option maxHeartbeats 2000000 in
theorem walk_mt (w : World) (A : Option Addr) (n c : Nat) (l : List UInt8) (h : Bts w w.heap.size A n c l) (R : c ≤ 140737488351232) (x : Int) (hx : x < 0) (s : List UInt8) (hsr : s.length ≤ 140737488351232) (hs : 65535 < s.length) :
    Calls Try.prog 3 #[.slice A n c, .int .i64 x, .string ⟨s.toArray⟩] w fun e w' => e = .returned (.bool true) ∧ Below w.heap.size w w' := by
  have hn : n ≤ 140737488351232 := Nat.le_trans h.cap R
  have hl : l.length ≤ 140737488351232 := by rw [h.len]; exact hn
  have hsz : (ByteArray.mk s.toArray).size = s.length := rfl
  have H := Lib.hid h
  clear h
  have g1 : decide ((0 : Int) ≤ x) = false := decide_eq_false (by omega)
  have g3 : decide ((s.length : Int) ≤ 65535) = false := decide_eq_false (by omega)
  go_enter Try.func3, Try.ntmps3
  go_wp2_with fail
  refine (num_no A n c x w (by omega)).mono ?_
  rintro e w1 ⟨rfl, rfl⟩
  have hb1 := Below.refl w.heap.size w
  go_wp2_with fail
  refine (text_no A n c ⟨s.toArray⟩ w hs).mono ?_
  rintro e w2 ⟨rfl, rfl⟩
  have hb2 := Below.refl w.heap.size w
  have b2 : Below w.heap.size w w := hb1.trans (hb2.mono hb1.size)
  have t2 : Below w.heap.size w w := Below.refl _ _
  have t3 := t2
  have b3 := b2
  have t4 := t3
  have b4 := b3
  go_wp2_with fail
  refine (awake_any _).mono ?_
  rintro e w5 ⟨rfl, hb5⟩
  have t5 : Below w.heap.size w w5 := t4.trans (hb5.mono t4.size)
  have b5 : Below w.heap.size w w5 := b2.trans (t5.mono b2.size)
  have s0 := (Bts.nil_ w5 0).str w5 (fun _ _ => rfl)
  go_wp2
  go_ret
  exact ⟨rfl, b5⟩
set_option maxRecDepth 100000 in
set_option maxHeartbeats 2000000 in
theorem walk_bs (w : World) (A : Option Addr) (n c : Nat) (l : List UInt8) (h : Bts w w.heap.size A n c l) (R : c ≤ 140737488351232) (x : Int) (hx : 4294967295 < x) (s : List UInt8) (hsr : s.length ≤ 140737488351232) (hs : s.length ≤ 65535) :
    Calls Try.prog 3 #[.slice A n c, .int .i64 x, .string ⟨s.toArray⟩] w fun e w' => e = .returned (.bool true) ∧ Below w.heap.size w w' := by
  have hn : n ≤ 140737488351232 := Nat.le_trans h.cap R
  have hl : l.length ≤ 140737488351232 := by rw [h.len]; exact hn
  have hsz : (ByteArray.mk s.toArray).size = s.length := rfl
  have H := Lib.hid h
  clear h
  have g1 : decide ((0 : Int) ≤ x) = true := decide_eq_true (by omega)
  have g1i : (0 : Int) ≤ x := by omega
  have g2 : decide (x ≤ 4294967295) = false := decide_eq_false (by omega)
  have g3 : (s.length : Int) ≤ 65535 := by omega
  have e2 := str_app l (lit 2 s.length ++ s)
  have z2 : ¬ 9223372036854775807 < l.length + ((lit 2 s.length).length + s.length) := by rw [lit_length]; omega
  go_enter Try.func3, Try.ntmps3
  go_wp2_with fail
  refine (num_no A n c x w (by omega)).mono ?_
  rintro e w1 ⟨rfl, rfl⟩
  have hb1 := Below.refl w.heap.size w
  go_wp2_with fail
  refine (text_yes A n c _ l ⟨s.toArray⟩ w hs (H.out.below hb1) hb1.size (by omega)).mono ?_
  rintro e w2 ⟨v, rfl, hm2⟩
  obtain ⟨A2, n2, c2, rfl, hB2⟩ := hm2.holds
  have hB2' : Bts w2 w2.heap.size A2 n2 c2 (l ++ (lit 2 s.length ++ s)) := by rw [← List.append_assoc]; exact hB2
  have H2 := Lib.hid hB2'
  have hb2 := hm2.bel
  clear hB2 hB2' hm2
  have b2 : Below w.heap.size w w2 := hb1.trans (hb2.mono hb1.size)
  have t2 : Below w2.heap.size w2 w2 := Below.refl _ _
  have t3 := t2
  have b3 := b2
  go_wp2
  go_region_held3 (fun W => (convert 22 9 (.slice A n c)).run Try.prog W = .ok (.string ⟨l.toArray⟩) W) (first | exact (H.out.below b3).str _ (fun _ _ => rfl) | exact (H.out.below b4).str _ (fun _ _ => rfl)) (first
    | (go_at_call 14; refine (refText_any s _ (by omega)).mono ?_; rintro e w4 ⟨rfl, hb4⟩; have q4 : Below w2.heap.size w2 w4 := (Below.refl _ _).drew.trans hb4; have t4 : Below w2.heap.size w2 w4 := t3.trans (q4.mono t3.size); have b4 : Below w.heap.size w w4 := b2.trans (t4.mono b2.size)))
  go_wp2_with fail
  refine (awake_any _).mono ?_
  rintro e w5 ⟨rfl, hb5⟩
  have t5 : Below w2.heap.size w2 w5 := t4.trans (hb5.mono t4.size)
  have b5 : Below w.heap.size w w5 := b2.trans (t5.mono b2.size)
  have s0 := (Bts.nil_ w5 0).str w5 (fun _ _ => rfl)
  have s2 := (H2.out.below t5).str w5 (fun _ _ => rfl)
  generalize lit 2 s.length ++ s = q2 at *
  go_wp2
  go_ret
  exact ⟨rfl, b5⟩
set_option maxRecDepth 100000 in
set_option maxHeartbeats 2000000 in
theorem walk_bt (w : World) (A : Option Addr) (n c : Nat) (l : List UInt8) (h : Bts w w.heap.size A n c l) (R : c ≤ 140737488351232) (x : Int) (hx : 4294967295 < x) (s : List UInt8) (hsr : s.length ≤ 140737488351232) (hs : 65535 < s.length) :
    Calls Try.prog 3 #[.slice A n c, .int .i64 x, .string ⟨s.toArray⟩] w fun e w' => e = .returned (.bool true) ∧ Below w.heap.size w w' := by
  have hn : n ≤ 140737488351232 := Nat.le_trans h.cap R
  have hl : l.length ≤ 140737488351232 := by rw [h.len]; exact hn
  have hsz : (ByteArray.mk s.toArray).size = s.length := rfl
  have H := Lib.hid h
  clear h
  have g1 : decide ((0 : Int) ≤ x) = true := decide_eq_true (by omega)
  have g1i : (0 : Int) ≤ x := by omega
  have g2 : decide (x ≤ 4294967295) = false := decide_eq_false (by omega)
  have g3 : decide ((s.length : Int) ≤ 65535) = false := decide_eq_false (by omega)
  go_enter Try.func3, Try.ntmps3
  go_wp2_with fail
  refine (num_no A n c x w (by omega)).mono ?_
  rintro e w1 ⟨rfl, rfl⟩
  have hb1 := Below.refl w.heap.size w
  go_wp2_with fail
  refine (text_no A n c ⟨s.toArray⟩ w hs).mono ?_
  rintro e w2 ⟨rfl, rfl⟩
  have hb2 := Below.refl w.heap.size w
  have b2 : Below w.heap.size w w := hb1.trans (hb2.mono hb1.size)
  have t2 : Below w.heap.size w w := Below.refl _ _
  have t3 := t2
  have b3 := b2
  have t4 := t3
  have b4 := b3
  go_wp2_with fail
  refine (awake_any _).mono ?_
  rintro e w5 ⟨rfl, hb5⟩
  have t5 : Below w.heap.size w w5 := t4.trans (hb5.mono t4.size)
  have b5 : Below w.heap.size w w5 := b2.trans (t5.mono b2.size)
  have s0 := (Bts.nil_ w5 0).str w5 (fun _ _ => rfl)
  go_wp2
  go_ret
  exact ⟨rfl, b5⟩
theorem walk (w : World) (A : Option Addr) (n c : Nat) (l : List UInt8) (h : Bts w w.heap.size A n c l) (R : c ≤ 140737488351232) (a1 : Int) (w1 : (Lit.int .i64 a1).wf = true) (s : ByteArray) (hs : s.size ≤ 140737488351232) :
    Calls Try.prog 3 #[.slice A n c, .int .i64 a1, .string s] w fun e w' => e = .returned (.bool true) ∧ Below w.heap.size w w' := by
  obtain ⟨sl, rfl, hsl⟩ : ∃ sl : List UInt8, s = ⟨sl.toArray⟩ ∧ sl.length ≤ 140737488351232 := ⟨s.data.toList, by simp, by rw [Array.length_toList]; exact hs⟩
  by_cases hx : 0 ≤ a1 ∧ a1 ≤ 4294967295
  · obtain ⟨x, rfl⟩ : ∃ x : Nat, a1 = (x : Int) := ⟨a1.toNat, by omega⟩
    by_cases h5 : sl.length ≤ 65535
    · exact walk_ns w A n c l h R x (by omega) sl hsl h5
    · exact walk_nt w A n c l h R x (by omega) sl hsl (by omega)
  · by_cases hx0 : a1 < 0 <;> by_cases h5 : sl.length ≤ 65535
    · exact walk_ms w A n c l h R a1 hx0 sl hsl h5
    · exact walk_mt w A n c l h R a1 hx0 sl hsl (by omega)
    · exact walk_bs w A n c l h R a1 (by omega) sl hsl h5
    · exact walk_bt w A n c l h R a1 (by omega) sl hsl (by omega)
end Go.Proofs.Ytffniconhpbbbaa.fieldWrites
