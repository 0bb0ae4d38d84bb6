/- marks.First, marks.Count, walked. -/
import Derived.Test.YtffoghalhbpplaaBit
import Derived.ScopeJumps
namespace Go.Proofs.Ytffoghalhbpplaa
open Go.RowKit
set_option linter.unusedVariables false

/-- A scope in which the run comes to a label first, and goes back to it. -/
theorem wp_scope_loop {P : Program} {Q : Exit → Act → World → Prop} {a : Act} {w : World} {c rest : Code} (l : Nat) (J : Act → World → Prop) (μ : Act → World → Nat) (hf : findLabel c l = some (Code.seq Code.skip rest))
    (first : (∀ a w, J a w → rest.wp P (Exit.jump l J Q) a w) → c.wp P (Exit.jump l J Q) a w)
    (pass : ∀ a w, J a w → rest.wp P (Exit.jump l (fun a' w' => J a' w' ∧ μ a' w' < μ a w) Q) a w) : (Code.scope c).wp P Q a w :=
  wp_scope_jumps l J μ hf (first fun a w h => Code.wp_mono (fun e a' w' hq => by
    cases e <;> first | exact hq | exact ⟨hq.1, hq.2.1⟩) (pass a w h)) (fun a w h => wp_seq (wp_skip (pass a w h)))
/-- What First tells of a stretch. -/
def fn (o : Option Nat) : Int := match o with | some n => n | none => 0
def fe (o : Option Nat) : Int := match o with | some _ => 0 | none => 10
def JmpF (w : World) (A : Option Addr) (c : Nat) (l : List UInt8) (a z : Nat) (R : Option Nat) (a' : Act) (w' : World) : Prop := Below w.heap.size w w' ∧ ∃ n : Nat, n ≤ z ∧ first l n (z - n) = R ∧
  ∃ u3 u4 u5 u6 u7 u8 u10 u11 u12 u13 u14 u15 u16 u17 u18 u19 u20 u21 u22 u23 u24 u25 u26 u27 u28 : Value, a' = { tmps := #[.slice A 128 c, .int .i64 a, .int .i64 z, u3, u4, u5, u6, u7, u8, .int .i64 n, u10, u11, u12, u13, u14, u15, u16, u17, u18, u19, u20, u21, u22, u23, u24, u25, u26, u27, u28], defers := [] }
theorem JmpF.mk {w w' : World} {A : Option Addr} {c : Nat} {l : List UInt8} {a z n : Nat} {R : Option Nat} (hb : Below w.heap.size w w') (hn : n ≤ z) (h1 : first l n (z - n) = R)
    {u3 u4 u5 u6 u7 u8 u10 u11 u12 u13 u14 u15 u16 u17 u18 u19 u20 u21 u22 u23 u24 u25 u26 u27 u28 : Value} : JmpF w A c l a z R { tmps := #[.slice A 128 c, .int .i64 a, .int .i64 z, u3, u4, u5, u6, u7, u8, .int .i64 n, u10, u11, u12, u13, u14, u15, u16, u17, u18, u19, u20, u21, u22, u23, u24, u25, u26, u27, u28], defers := [] } w' :=
  ⟨hb, n, hn, h1, _, _, _, _, _, _, _, _, _, _, _, _, _, _, _, _, _, _, _, _, _, _, _, _, _, rfl⟩
def measF (a : Act) (_ : World) : Nat := match a.tmps.getD 9 undef, a.tmps.getD 2 undef with
  | .int _ n, .int _ z => (z - n).toNat
  | _, _ => 0
theorem first_at {l : List UInt8} {n z : Nat} {R : Option Nat} (h : first l n (z - n) = R) (hn : n < z) : (bt l n = true → first l (n + 1) (z - (n + 1)) = R) ∧ (bt l n = false → R = some n) := by
  obtain ⟨k, hk⟩ : ∃ k, z - n = k + 1 := ⟨z - n - 1, by omega⟩
  have hk' : z - (n + 1) = k := by omega
  rw [hk, first] at h
  rw [hk']
  constructor
  · intro hb; rw [if_pos hb] at h; exact h
  · intro hb; rw [hb] at h; simpa using h.symm
set_option maxHeartbeats 2000000 in
set_option maxRecDepth 100000 in
theorem first_yes {w : World} {B c : Nat} {A : Option Addr} {l : List UInt8} (a z : Nat) (h : Bts w B A 128 c l) (hB : B ≤ w.heap.size) (haz : a ≤ z) (hz : z ≤ 1024) :
    Calls Try.prog 12 #[.slice A 128 c, .int .i64 a, .int .i64 z] w fun e w' => e = .returned (.tuple #[.int .i64 (fn (first l a (z - a))), .int .i64 (fe (first l a (z - a)))]) ∧ Below w.heap.size w w' := by
  have H := Lib.hid h
  clear h
  have HONE : ∀ w, Hid (Calls Try.prog 18 #[.slice A 128 c, .int .i64 a, .int .i64 z] w fun e w' => e = .returned (.int .i64 0) ∧ w = w') := fun w => by
    have := some_any A 128 c a z w
    rw [show someE 128 (a : Int) (z : Int) = 0 by unfold someE; rw [if_pos rfl, if_pos (by omega)]] at this
    exact this
  obtain ⟨R, hR⟩ : ∃ R, first l a (z - a) = R := ⟨_, rfl⟩
  have HR := Lib.hid hR
  rw [hR]
  clear hR
  go_enter Try.func12, Try.ntmps12
  go_wp2_with fail
  refine wp_scope_loop 0 (JmpF w A c l a z R) measF rfl ?_ ?_
  · intro key
    go_wp2_with fail
    refine (HONE _).out.mono ?_
    rintro e w1 ⟨rfl, rfl⟩
    go_wp2_with fail
    rename_i hK
    go_step3
    exact hK _ _ (key _ _ (JmpF.mk (Below.refl _ _) haz HR.out))
  · rintro a' w' ⟨hb, n, hn, hF, u3, u4, u5, u6, u7, u8, u10, u11, u12, u13, u14, u15, u16, u17, u18, u19, u20, u21, u22, u23, u24, u25, u26, u27, u28, rfl⟩
    have HB := Lib.hid hb
    have HF := Lib.hid hF
    clear hb hF HONE HR
    by_cases hnz : n = z
    · subst hnz
      have HR2 : Hid (R = none) := by
        have := HF.out
        rw [Nat.sub_self] at this
        exact this.symm
      go_wp2_with fail
      simp only [Exit.jump]
      go_ret2
      rw [HR2.out]
      exact ⟨rfl, HB.out⟩
    · have hlt : n < z := by omega
      have hne : ((n : Int) == (z : Int)) = false := by simp; omega
      obtain ⟨hT, hN⟩ := first_at HF.out hlt
      have HT := Lib.hid hT
      have HN := Lib.hid hN
      have HMK : Hid (Calls Try.prog 17 #[.slice A 128 c, .int .i64 n] w' fun e w'' => e = .returned (.bool (bt l n)) ∧ Below w'.heap.size w' w'') := marked_any n (H.out.below (HB.out.mono hB)) (by omega)
      clear hT hN HF hnz
      generalize bt l n = o at *
      go_wp2_with fail
      refine HMK.out.mono ?_
      rintro e w1 ⟨rfl, hb1⟩
      have HB1 := Lib.hid (HB.out.trans (hb1.mono HB.out.size))
      clear hb1 HMK
      cases o with
      | true =>
        have HR2 := Lib.hid (HT.out rfl)
        clear HT HN
        go_wp2_with fail
        go_step3
        exact ⟨rfl, JmpF.mk (n := n + 1) HB1.out (by omega) HR2.out, by show ((z : Int) - ((n + 1 : Nat) : Int)).toNat < ((z : Int) - (n : Int)).toNat; omega⟩
      | false =>
        have HR2 := Lib.hid (HN.out rfl)
        clear HT HN
        go_wp2_with fail
        simp only [Exit.jump]
        go_ret2
        rw [HR2.out]
        exact ⟨rfl, HB1.out⟩
/-- What First tells, of anything. -/
def firstN (l : List UInt8) (n : Nat) (x y : Int) : Int := if someE n x y = 0 then fn (first l x.toNat (y - x).toNat) else 0
def firstE (l : List UInt8) (n : Nat) (x y : Int) : Int := if someE n x y = 0 then fe (first l x.toNat (y - x).toNat) else someE n x y
def countN (l : List UInt8) (n : Nat) (x y : Int) : Int := if someE n x y = 0 then (count l x.toNat (y - x).toNat : Nat) else 0
theorem someE_zero {n : Nat} {x y : Int} (h : someE n x y = 0) : n = 128 ∧ 0 ≤ x ∧ x ≤ y ∧ y ≤ 1024 := by
  unfold someE at h
  split at h
  · split at h
    · rename_i h1 h2
      exact ⟨h1, h2⟩
    · cases h
  · cases h
theorem someE_cases (n : Nat) (x y : Int) : someE n x y = 0 ∨ someE n x y = 1 ∨ someE n x y = 4 := by
  unfold someE
  split
  · split <;> simp
  · simp
theorem first_any {w : World} {B n c : Nat} {A : Option Addr} {l : List UInt8} (x y : Int) (h : Bts w B A n c l) (hB : B ≤ w.heap.size) :
    Calls Try.prog 12 #[.slice A n c, .int .i64 x, .int .i64 y] w fun e w' => e = .returned (.tuple #[.int .i64 (firstN l n x y), .int .i64 (firstE l n x y)]) ∧ Below w.heap.size w w' := by
  rcases someE_cases n x y with h0 | h0 | h0
  · obtain ⟨rfl, h1, h2, h3⟩ := someE_zero h0
    obtain ⟨a, rfl⟩ := Int.eq_ofNat_of_zero_le h1
    obtain ⟨z, rfl⟩ := Int.eq_ofNat_of_zero_le (a := y) (by omega)
    have := first_yes a z h hB (by omega) (by omega)
    have e : ((z : Int) - (a : Int)).toNat = z - a := by omega
    unfold firstN firstE
    rw [if_pos h0, if_pos h0, e]
    exact this
  all_goals
    have HONE : ∀ w, Hid (Calls Try.prog 18 #[.slice A n c, .int .i64 x, .int .i64 y] w fun e w' => e = .returned (.int .i64 (someE n x y)) ∧ w = w') := fun w => some_any A n c x y w
    unfold firstN firstE
    rw [h0] at HONE ⊢
    clear h0 h
    go_enter Try.func12, Try.ntmps12
    go_wp2_with fail
    refine wp_scope_loop 0 (fun _ _ => False) (fun _ _ => 0) rfl ?_ (fun _ _ h => h.elim)
    intro key
    clear key
    go_wp2_with fail
    refine (HONE _).out.mono ?_
    rintro e w1 ⟨rfl, rfl⟩
    go_wp2_with fail
    simp only [Exit.jump]
    go_ret2
    exact ⟨rfl, Below.refl _ _⟩
def JmpC (w : World) (A : Option Addr) (c : Nat) (l : List UInt8) (a z : Nat) (R : Nat) (a' : Act) (w' : World) : Prop := Below w.heap.size w w' ∧ ∃ n k : Nat, n ≤ z ∧ k + count l n (z - n) = R ∧
  ∃ u3 u4 u5 u6 u7 u8 u11 u12 u13 u14 u15 u16 u17 u18 u19 u20 u21 u22 u23 u24 u25 u26 u27 u28 u29 : Value, a' = { tmps := #[.slice A 128 c, .int .i64 a, .int .i64 z, u3, u4, u5, u6, u7, u8, .int .i64 n, .int .i64 k, u11, u12, u13, u14, u15, u16, u17, u18, u19, u20, u21, u22, u23, u24, u25, u26, u27, u28, u29], defers := [] }
theorem JmpC.mk {w w' : World} {A : Option Addr} {c : Nat} {l : List UInt8} {a z n k : Nat} {R : Nat} (hb : Below w.heap.size w w') (hn : n ≤ z) (h1 : k + count l n (z - n) = R)
    {u3 u4 u5 u6 u7 u8 u11 u12 u13 u14 u15 u16 u17 u18 u19 u20 u21 u22 u23 u24 u25 u26 u27 u28 u29 : Value} : JmpC w A c l a z R { tmps := #[.slice A 128 c, .int .i64 a, .int .i64 z, u3, u4, u5, u6, u7, u8, .int .i64 n, .int .i64 k, u11, u12, u13, u14, u15, u16, u17, u18, u19, u20, u21, u22, u23, u24, u25, u26, u27, u28, u29], defers := [] } w' :=
  ⟨hb, n, k, hn, h1, _, _, _, _, _, _, _, _, _, _, _, _, _, _, _, _, _, _, _, _, _, _, _, _, _, rfl⟩
theorem count_at {l : List UInt8} {n z k R : Nat} (h : k + count l n (z - n) = R) (hn : n < z) : (if bt l n then k + 1 else k) + count l (n + 1) (z - (n + 1)) = R := by
  obtain ⟨j, hj⟩ : ∃ j, z - n = j + 1 := ⟨z - n - 1, by omega⟩
  have hj' : z - (n + 1) = j := by omega
  rw [hj, count] at h
  rw [hj']
  split at h <;> simp_all <;> omega
set_option maxHeartbeats 2000000 in
set_option maxRecDepth 100000 in
theorem count_yes {w : World} {B c : Nat} {A : Option Addr} {l : List UInt8} (a z : Nat) (h : Bts w B A 128 c l) (hB : B ≤ w.heap.size) (haz : a ≤ z) (hz : z ≤ 1024) :
    Calls Try.prog 13 #[.slice A 128 c, .int .i64 a, .int .i64 z] w fun e w' => e = .returned (.tuple #[.int .i64 (count l a (z - a) : Nat), .int .i64 0]) ∧ Below w.heap.size w w' := by
  have H := Lib.hid h
  clear h
  have HONE : ∀ w, Hid (Calls Try.prog 18 #[.slice A 128 c, .int .i64 a, .int .i64 z] w fun e w' => e = .returned (.int .i64 0) ∧ w = w') := fun w => by
    have := some_any A 128 c a z w
    rw [show someE 128 (a : Int) (z : Int) = 0 by unfold someE; rw [if_pos rfl, if_pos (by omega)]] at this
    exact this
  obtain ⟨R, hR⟩ : ∃ R, count l a (z - a) = R := ⟨_, rfl⟩
  have hR1 : R ≤ 1024 := by have := count_le l a (z - a); omega
  have HR := Lib.hid hR
  rw [hR]
  clear hR
  go_enter Try.func13, Try.ntmps13
  go_wp2_with fail
  refine wp_scope_loop 0 (JmpC w A c l a z R) measF rfl ?_ ?_
  · intro key
    go_wp2_with fail
    refine (HONE _).out.mono ?_
    rintro e w1 ⟨rfl, rfl⟩
    go_wp2_with fail
    rename_i hK
    go_step3
    exact hK _ _ (key _ _ (JmpC.mk (k := 0) (Below.refl _ _) haz (by rw [Nat.zero_add]; exact HR.out)))
  · rintro a' w' ⟨hb, n, k, hn, hF, u3, u4, u5, u6, u7, u8, u11, u12, u13, u14, u15, u16, u17, u18, u19, u20, u21, u22, u23, u24, u25, u26, u27, u28, u29, rfl⟩
    have HB := Lib.hid hb
    have HF := Lib.hid hF
    have hk : k ≤ 1024 := by omega
    clear hb hF HONE HR
    by_cases hnz : n = z
    · subst hnz
      have HR2 : Hid (k = R) := by
        have := HF.out
        rw [Nat.sub_self] at this
        exact this
      go_wp2_with fail
      simp only [Exit.jump]
      go_ret2
      rw [HR2.out]
      exact ⟨rfl, HB.out⟩
    · have hlt : n < z := by omega
      have hne : ((n : Int) == (z : Int)) = false := by simp; omega
      have HT := Lib.hid (count_at HF.out hlt)
      have HMK : Hid (Calls Try.prog 17 #[.slice A 128 c, .int .i64 n] w' fun e w'' => e = .returned (.bool (bt l n)) ∧ Below w'.heap.size w' w'') := marked_any n (H.out.below (HB.out.mono hB)) (by omega)
      clear HF hnz
      generalize bt l n = o at *
      go_wp2_with fail
      refine HMK.out.mono ?_
      rintro e w1 ⟨rfl, hb1⟩
      have HB1 := Lib.hid (HB.out.trans (hb1.mono HB.out.size))
      clear hb1 HMK
      cases o with
      | true =>
        have HR2 : Hid (k + 1 + count l (n + 1) (z - (n + 1)) = R) := HT.out
        clear HT
        go_wp2_with fail
        go_step3
        exact ⟨rfl, JmpC.mk (n := n + 1) (k := k + 1) HB1.out (by omega) HR2.out, by show ((z : Int) - ((n + 1 : Nat) : Int)).toNat < ((z : Int) - (n : Int)).toNat; omega⟩
      | false =>
        have HR2 : Hid (k + count l (n + 1) (z - (n + 1)) = R) := HT.out
        clear HT
        go_wp2_with fail
        go_step3
        exact ⟨rfl, JmpC.mk (n := n + 1) (k := k) HB1.out (by omega) HR2.out, by show ((z : Int) - ((n + 1 : Nat) : Int)).toNat < ((z : Int) - (n : Int)).toNat; omega⟩
theorem count_any {w : World} {B n c : Nat} {A : Option Addr} {l : List UInt8} (x y : Int) (h : Bts w B A n c l) (hB : B ≤ w.heap.size) :
    Calls Try.prog 13 #[.slice A n c, .int .i64 x, .int .i64 y] w fun e w' => e = .returned (.tuple #[.int .i64 (countN l n x y), .int .i64 (someE n x y)]) ∧ Below w.heap.size w w' := by
  rcases someE_cases n x y with h0 | h0 | h0
  · obtain ⟨rfl, h1, h2, h3⟩ := someE_zero h0
    obtain ⟨a, rfl⟩ := Int.eq_ofNat_of_zero_le h1
    obtain ⟨z, rfl⟩ := Int.eq_ofNat_of_zero_le (a := y) (by omega)
    have := count_yes a z h hB (by omega) (by omega)
    have e : ((z : Int) - (a : Int)).toNat = z - a := by omega
    unfold countN
    rw [if_pos h0, h0, e]
    exact this
  all_goals
    have HONE : ∀ w, Hid (Calls Try.prog 18 #[.slice A n c, .int .i64 x, .int .i64 y] w fun e w' => e = .returned (.int .i64 (someE n x y)) ∧ w = w') := fun w => some_any A n c x y w
    unfold countN
    rw [h0] at HONE ⊢
    clear h0 h
    go_enter Try.func13, Try.ntmps13
    go_wp2_with fail
    refine wp_scope_loop 0 (fun _ _ => False) (fun _ _ => 0) rfl ?_ (fun _ _ h => h.elim)
    intro key
    clear key
    go_wp2_with fail
    refine (HONE _).out.mono ?_
    rintro e w1 ⟨rfl, rfl⟩
    go_wp2_with fail
    simp only [Exit.jump]
    go_ret2
    exact ⟨rfl, Below.refl _ _⟩
end Go.Proofs.Ytffoghalhbpplaa
