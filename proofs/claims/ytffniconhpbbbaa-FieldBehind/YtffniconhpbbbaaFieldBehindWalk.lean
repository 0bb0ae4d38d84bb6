/- FieldBehind, walked. -/
import Derived.Test.YtffniconhpbbbaaAwake
import Derived.Test.YtffniconhpbbbaaRefs
namespace Go.Proofs.Ytffniconhpbbbaa.fieldBehind
open Go.RowKit
set_option linter.unusedVariables false
set_option maxRecDepth 100000 in
set_option maxHeartbeats 1000000 in
theorem walk_yes (w : World) (A : Option Addr) (n c : Nat) (l : List UInt8) (h : Bts w w.heap.size A n c l) (R : c ≤ 140737488351232) (x : Nat) (hx : x < 4294967296) (s : ByteArray) (hs : s.size ≤ 65535) :
    Calls Try.prog 10 #[.slice A n c, .int .u32 (x : Int), .string s] w fun e w' => e = .returned (.bool true) ∧ Below w.heap.size w w' := by
  have hn : n ≤ 140737488351232 := Nat.le_trans h.cap R
  have hl : l.length ≤ 140737488351232 := by rw [h.len]; exact hn
  have hw : wrap64 (x : Int) = (x : Int) := by unfold wrap64; omega
  have H := Lib.hid h
  clear h
  go_enter Try.func10, Try.ntmps10
  go_wp2_with fail
  refine (num_yes A n c _ x l w hx H.out (Nat.le_refl _) (by omega)).mono ?_
  rintro e w1 ⟨v, rfl, hm1⟩
  obtain ⟨A1, n1, c1, rfl, hB1⟩ := hm1.holds
  have H1 := Lib.hid hB1
  have hb1 := hm1.bel
  clear hB1 hm1
  go_wp2_with fail
  refine (num_yes none 0 0 0 x [] w1 hx (Bts.nil_ _ _) (by omega) (by omega)).mono ?_
  rintro e w2 ⟨v, rfl, hm2⟩
  obtain ⟨A2, n2, c2, rfl, hB2⟩ := hm2.holds
  have H2 := Lib.hid hB2
  have hb2 := hm2.bel
  clear hB2 hm2
  go_wp2_with fail
  refine (text_yes A n c _ l s w2 hs ((H.out.below hb1).below (hb2.mono hb1.size)) (Nat.le_trans hb1.size hb2.size) (by omega)).mono ?_
  rintro e w3 ⟨v, rfl, hm3⟩
  obtain ⟨A3, n3, c3, rfl, hB3⟩ := hm3.holds
  have H3 := Lib.hid hB3
  have hb3 := hm3.bel
  clear hB3 hm3
  go_wp2_with fail
  refine (text_yes none 0 0 0 [] s w3 hs (Bts.nil_ _ _) (by omega) (by omega)).mono ?_
  rintro e w4 ⟨v, rfl, hm4⟩
  obtain ⟨A4, n4, c4, rfl, hB4⟩ := hm4.holds
  have H4 := Lib.hid hB4
  have hb4 := hm4.bel
  clear hB4 hm4
  go_wp2_with fail
  refine (awake_any _).mono ?_
  rintro e w5 ⟨rfl, hb5⟩
  have b4 : Below w4.heap.size w4 w5 := hb5
  have b3 : Below w3.heap.size w3 w5 := hb4.trans (b4.mono hb4.size)
  have b2 : Below w2.heap.size w2 w5 := hb3.trans (b3.mono hb3.size)
  have b1 : Below w1.heap.size w1 w5 := hb2.trans (b2.mono hb2.size)
  have b0 : Below w.heap.size w w5 := hb1.trans (b1.mono hb1.size)
  have s0 := (H.out.below b0).str w5 (fun _ _ => rfl)
  have s1 := (H1.out.below b1).str w5 (fun _ _ => rfl)
  have s2 := (H2.out.below b2).str w5 (fun _ _ => rfl)
  have s3 := (H3.out.below b3).str w5 (fun _ _ => rfl)
  have s4 := (H4.out.below b4).str w5 (fun _ _ => rfl)
  have e1 := str_app l ([] ++ lit 4 x)
  have e2 := str_app l ([] ++ lit 2 s.size ++ s.data.toList)
  have z1 : ¬ 9223372036854775807 < l.length + ([] ++ lit 4 x).length := by simp [lit_length]; omega
  have z2 : ¬ 9223372036854775807 < l.length + ((lit 2 s.size).length + s.data.toList.length) := by
    have : s.data.toList.length = s.size := Array.length_toList
    rw [lit_length, this]; omega
  rw [List.nil_append] at s2 s4 e1 e2 z1
  rw [← List.append_assoc] at e2
  generalize lit 4 x = q4 at *
  generalize lit 2 s.size = q2 at *
  generalize s.data.toList = sl at *
  go_wp2
  go_ret
  exact ⟨rfl, b0⟩
set_option maxRecDepth 100000 in
set_option maxHeartbeats 1000000 in
theorem walk_no (w : World) (A : Option Addr) (n c : Nat) (l : List UInt8) (h : Bts w w.heap.size A n c l) (R : c ≤ 140737488351232) (x : Nat) (hx : x < 4294967296) (s : ByteArray) (hs : 65535 < s.size) :
    Calls Try.prog 10 #[.slice A n c, .int .u32 (x : Int), .string s] w fun e w' => e = .returned (.bool true) ∧ Below w.heap.size w w' := by
  have hn : n ≤ 140737488351232 := Nat.le_trans h.cap R
  have hl : l.length ≤ 140737488351232 := by rw [h.len]; exact hn
  have hw : wrap64 (x : Int) = (x : Int) := by unfold wrap64; omega
  have H := Lib.hid h
  clear h
  go_enter Try.func10, Try.ntmps10
  go_wp2_with fail
  refine (num_yes A n c _ x l w hx H.out (Nat.le_refl _) (by omega)).mono ?_
  rintro e w1 ⟨v, rfl, hm1⟩
  obtain ⟨A1, n1, c1, rfl, hB1⟩ := hm1.holds
  have H1 := Lib.hid hB1
  have hb1 := hm1.bel
  clear hB1 hm1
  go_wp2_with fail
  refine (num_yes none 0 0 0 x [] w1 hx (Bts.nil_ _ _) (by omega) (by omega)).mono ?_
  rintro e w2 ⟨v, rfl, hm2⟩
  obtain ⟨A2, n2, c2, rfl, hB2⟩ := hm2.holds
  have H2 := Lib.hid hB2
  have hb2 := hm2.bel
  clear hB2 hm2
  go_wp2_with fail
  refine (text_no A n c s w2 hs).mono ?_
  rintro e w3 ⟨rfl, rfl⟩
  go_wp2_with fail
  refine (text_no none 0 0 s w2 hs).mono ?_
  rintro e w3 ⟨rfl, rfl⟩
  go_wp2_with fail
  refine (awake_any _).mono ?_
  rintro e w5 ⟨rfl, hb5⟩
  have b2 : Below w2.heap.size w2 w5 := hb5
  have b1 : Below w1.heap.size w1 w5 := hb2.trans (b2.mono hb2.size)
  have b0 : Below w.heap.size w w5 := hb1.trans (b1.mono hb1.size)
  have s0 := (H.out.below b0).str w5 (fun _ _ => rfl)
  have s1 := (H1.out.below b1).str w5 (fun _ _ => rfl)
  have s2 := (H2.out.below b2).str w5 (fun _ _ => rfl)
  have e1 := str_app l ([] ++ lit 4 x)
  have z1 : ¬ 9223372036854775807 < l.length + ([] ++ lit 4 x).length := by simp [lit_length]; omega
  rw [List.nil_append] at s2 e1 z1
  generalize lit 4 x = q4 at *
  go_wp2
  go_ret
  exact ⟨rfl, b0⟩
theorem walk (w : World) (A : Option Addr) (n c : Nat) (l : List UInt8) (h : Bts w w.heap.size A n c l) (R : c ≤ 140737488351232) (a1 : Int) (w1 : (Lit.int .u32 a1).wf = true) (s : ByteArray) (hs : s.size ≤ 140737488351232) :
    Calls Try.prog 10 #[.slice A n c, .int .u32 a1, .string s] w fun e w' => e = .returned (.bool true) ∧ Below w.heap.size w w' := by
  obtain ⟨x, rfl, hx⟩ := u32_of w1
  by_cases h5 : s.size ≤ 65535
  · exact walk_yes w A n c l h R x hx s h5
  · exact walk_no w A n c l h R x hx s (by omega)
end Go.Proofs.Ytffniconhpbbbaa.fieldBehind
