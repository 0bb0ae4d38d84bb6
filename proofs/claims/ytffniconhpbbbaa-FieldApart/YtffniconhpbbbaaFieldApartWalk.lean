/- FieldApart, walked. -/
import Derived.Test.YtffniconhpbbbaaAwake
namespace Go.Proofs.Ytffniconhpbbbaa.fieldApart
open Go.RowKit
set_option linter.unusedVariables false
theorem fram_inj {a b : UInt8} {x y : List UInt8} (h : fram a x = fram b y) : a = b ∧ x = y := by
  have h1 := fram_head a x
  rw [h, fram_head] at h1
  have h2 := fram_take a x
  rw [h, fram_take] at h2
  have h3 := body_drop a x
  rw [← h2, body_drop] at h3
  exact ⟨h1.symm, h3.symm⟩
set_option maxRecDepth 100000 in
set_option maxHeartbeats 2000000 in
theorem walk_no (w : World) (a b : UInt8) (A : Option Addr) (n c : Nat) (x : List UInt8) (hA : Bts w w.heap.size A n c x) (E : Option Addr) (m d : Nat) (y : List UInt8) (hE : Bts w w.heap.size E m d y) (hn : 65535 < n) :
    Calls Try.prog 9 #[.int .u8 (a.toNat : Int), .int .u8 (b.toNat : Int), .slice A n c, .slice E m d] w fun e w' => e = .returned (.bool true) ∧ Below w.heap.size w w' := by
  have HE := Lib.hid hE
  clear hA hE
  go_enter Try.func9, Try.ntmps9
  go_wp2_with fail
  refine (frame_no a A n c w hn).mono ?_
  rintro e w1 ⟨rfl, rfl⟩
  by_cases hm : m ≤ 65535
  · go_wp2_with fail
    refine (frame_yes b E m d _ y w HE.out (Nat.le_refl _) hm).mono ?_
    rintro e w1 ⟨v, rfl, hm1⟩
    have hb1 := hm1.bel
    clear hm1
    go_wp2_with fail
    refine (awake_any _).mono ?_
    rintro e w2 ⟨rfl, hb2⟩
    go_wp2_with fail
    refine (awake_any _).mono ?_
    rintro e w3 ⟨rfl, hb3⟩
    go_wp2
    go_ret
    have b2 : Below w.heap.size w w2 := hb1.trans (hb2.mono hb1.size)
    exact ⟨rfl, b2.trans (hb3.mono b2.size)⟩
  · go_wp2_with fail
    refine (frame_no b E m d w (by omega)).mono ?_
    rintro e w1 ⟨rfl, rfl⟩
    go_wp2_with fail
    refine (awake_any _).mono ?_
    rintro e w2 ⟨rfl, hb2⟩
    go_wp2_with fail
    refine (awake_any _).mono ?_
    rintro e w3 ⟨rfl, hb3⟩
    go_wp2
    go_ret
    exact ⟨rfl, hb2.trans (hb3.mono hb2.size)⟩
set_option maxRecDepth 100000 in
set_option maxHeartbeats 2000000 in
theorem walk_not (w : World) (a b : UInt8) (A : Option Addr) (n c : Nat) (x : List UInt8) (hA : Bts w w.heap.size A n c x) (E : Option Addr) (m d : Nat) (y : List UInt8) (hn : n ≤ 65535) (hm : 65535 < m) :
    Calls Try.prog 9 #[.int .u8 (a.toNat : Int), .int .u8 (b.toNat : Int), .slice A n c, .slice E m d] w fun e w' => e = .returned (.bool true) ∧ Below w.heap.size w w' := by
  have HA := Lib.hid hA
  clear hA
  go_enter Try.func9, Try.ntmps9
  go_wp2_with fail
  refine (frame_yes a A n c _ x w HA.out (Nat.le_refl _) hn).mono ?_
  rintro e w1 ⟨v, rfl, hm1⟩
  have hb1 := hm1.bel
  clear hm1
  go_wp2_with fail
  refine (frame_no b E m d w1 hm).mono ?_
  rintro e w2 ⟨rfl, rfl⟩
  go_wp2_with fail
  refine (awake_any _).mono ?_
  rintro e w2 ⟨rfl, hb2⟩
  go_wp2_with fail
  refine (awake_any _).mono ?_
  rintro e w3 ⟨rfl, hb3⟩
  go_wp2
  go_ret
  have b2 : Below w.heap.size w w2 := hb1.trans (hb2.mono hb1.size)
  exact ⟨rfl, b2.trans (hb3.mono b2.size)⟩
set_option maxRecDepth 100000 in
set_option maxHeartbeats 2000000 in
theorem walk_yes (w : World) (a b : UInt8) (A : Option Addr) (n c : Nat) (x : List UInt8) (hA : Bts w w.heap.size A n c x) (E : Option Addr) (m d : Nat) (y : List UInt8) (hE : Bts w w.heap.size E m d y) (hn : n ≤ 65535) (hm : m ≤ 65535) :
    Calls Try.prog 9 #[.int .u8 (a.toNat : Int), .int .u8 (b.toNat : Int), .slice A n c, .slice E m d] w fun e w' => e = .returned (.bool true) ∧ Below w.heap.size w w' := by
  have HA := Lib.hid hA
  have HE := Lib.hid hE
  clear hA hE
  go_enter Try.func9, Try.ntmps9
  go_wp2_with fail
  refine (frame_yes a A n c _ x w HA.out (Nat.le_refl _) hn).mono ?_
  rintro e w1 ⟨v, rfl, hm1⟩
  obtain ⟨A1, n1, c1, rfl, hB1⟩ := hm1.holds
  have H1 := Lib.hid hB1
  have hn1 : n1 = n + 7 := by rw [← hB1.len, fram_length, HA.out.len]
  subst hn1
  have hb1 := hm1.bel
  clear hm1 hB1
  go_wp2_with fail
  refine (frame_yes b E m d _ y w1 (HE.out.below hb1) hb1.size hm).mono ?_
  rintro e w2 ⟨v, rfl, hm2⟩
  obtain ⟨A2, n2, c2, rfl, hB2⟩ := hm2.holds
  have H2 := Lib.hid hB2
  have hb2 := hm2.bel
  clear hm2 hB2
  go_wp2_with fail
  refine (awake_any _).mono ?_
  rintro e w3 ⟨rfl, hb3⟩
  have b2 : Below w2.heap.size w2 w3 := hb3
  have b1 : Below w1.heap.size w1 w3 := hb2.trans (b2.mono hb2.size)
  have b0 : Below w.heap.size w w3 := hb1.trans (b1.mono hb1.size)
  have s0 := (HA.out.below b0).str w3 (fun _ _ => rfl)
  have s3 := (HE.out.below b0).str w3 (fun _ _ => rfl)
  have s1 := (H1.out.below b1).str w3 (fun _ _ => rfl)
  have s2 := (H2.out.below b2).str w3 (fun _ _ => rfl)
  clear b1 b2 hb1 hb2 hb3
  by_cases he : a = b
  · subst he
    by_cases hxy : x = y
    · subst hxy
      go_wp2
      go_ret
      exact ⟨rfl, b0⟩
    · have f1 : (x == y) = false := by simpa using hxy
      have f2 : (fram a x == fram a y) = false := by
        rw [beq_eq_false_iff_ne]
        exact fun h => hxy (fram_inj h).2
      clear hxy
      go_wp2
      go_ret
      exact ⟨rfl, b0⟩
  · have f0 : ((a.toNat : Int) == (b.toNat : Int)) = false := by
      rw [beq_eq_false_iff_ne]
      exact fun h => he (UInt8.toNat_inj.1 (by omega))
    have f2 : (fram a x == fram b y) = false := by
      rw [beq_eq_false_iff_ne]
      exact fun h => he (fram_inj h).1
    clear he
    go_wp2
    go_ret
    exact ⟨rfl, b0⟩
theorem walk (w : World) (a0 : Int) (w0 : (Lit.int .u8 a0).wf = true) (a1 : Int) (w1 : (Lit.int .u8 a1).wf = true) (A : Option Addr) (n c : Nat) (x : List UInt8) (hA : Bts w w.heap.size A n c x) (R : c ≤ 140737488351232) (E : Option Addr) (m d : Nat) (y : List UInt8) (hE : Bts w w.heap.size E m d y) (R' : d ≤ 140737488351232) :
    Calls Try.prog 9 #[.int .u8 a0, .int .u8 a1, .slice A n c, .slice E m d] w fun e w' => e = .returned (.bool true) ∧ Below w.heap.size w w' := by
  obtain ⟨a, rfl⟩ := u8_of w0
  obtain ⟨b, rfl⟩ := u8_of w1
  by_cases hn : n ≤ 65535
  · by_cases hm : m ≤ 65535
    · exact walk_yes w a b A n c x hA E m d y hE hn hm
    · exact walk_not w a b A n c x hA E m d y hn (by omega)
  · exact walk_no w a b A n c x hA E m d y hE (by omega)
end Go.Proofs.Ytffniconhpbbbaa.fieldApart
