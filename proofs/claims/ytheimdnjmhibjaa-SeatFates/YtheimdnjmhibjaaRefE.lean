/- copyholdref08.Same, copyholdref08.Encode, walked. -/
import Derived.Test.YtheimdnjmhibjaaEnc
import Derived.Deep.RegionHeld3
namespace Go.Proofs.Ytheimdnjmhibjaa
open Go.RowKit
set_option linter.unusedVariables false

theorem list_eq {l l' : List UInt8} (h : l = l') : ((sb l).toList == (sb l').toList) = true := by rw [sb_list]; simpa using h
theorem list_ne {l l' : List UInt8} (h : l ≠ l') : ((sb l).toList == (sb l').toList) = false := by rw [sb_list]; simpa using h
/-- Two seats say the same. -/
def same (a b : Int) (r : List UInt8) (a' b' : Int) (r' : List UInt8) : Bool := decide (a = a' ∧ b = b' ∧ r = r')
theorem same_yes {a b : Int} {r : List UInt8} : same a b r a b r = true := by simp [same]
theorem same_not {a b a' b' : Int} {r r' : List UInt8} (h : ¬ (a = a' ∧ b = b' ∧ r = r')) : same a b r a' b' r' = false := by simpa [same] using h
theorem two_below (w : World) (o o' : Obj) : Below w.heap.size w ((w.alloc o).alloc o') := (box_below w o).alloc (by simp) o'
set_option maxRecDepth 20000 in
set_option maxHeartbeats 1000000 in
theorem same_any {w : World} {B n c B' n' c' : Nat} {A A' : Option Addr} {r r' : List UInt8} (a b a' b' : Int) (h : F.Bts w B A n c r) (hB : B ≤ w.heap.size) (h' : F.Bts w B' A' n' c' r') (hB' : B' ≤ w.heap.size) :
    Calls Try.prog 12 #[.agg #[.int .i64 a, .int .i64 b, .slice A n c], .agg #[.int .i64 a', .int .i64 b', .slice A' n' c']] w fun e w' => e = .returned (.bool (same a b r a' b' r')) ∧ Below w.heap.size w w' := by
  have cv : ∀ o o', (convert 22 9 (.slice A n c)).run Try.prog ((w.alloc o).alloc o') = .ok (.string (sb r)) ((w.alloc o).alloc o') := fun o o' => fstr h _ ((two_below w o o').mono hB)
  have cv' : ∀ o o', (convert 22 9 (.slice A' n' c')).run Try.prog ((w.alloc o).alloc o') = .ok (.string (sb r')) ((w.alloc o).alloc o') := fun o o' => fstr h' _ ((two_below w o o').mono hB')
  clear h h' hB hB'
  by_cases h1 : a = a'
  · subst h1
    by_cases h2 : b = b'
    · subst h2
      by_cases h3 : r = r'
      · subst h3
        have hl := list_eq (rfl : r = r)
        rw [same_yes]
        go_enter Try.func12, Try.ntmps12
        go_wp2_with fail
        go_ret
        exact ⟨rfl, two_below _ _ _⟩
      · have hl := list_ne h3
        rw [same_not (fun e => h3 e.2.2)]
        clear h3
        go_enter Try.func12, Try.ntmps12
        go_wp2_with fail
        go_ret
        exact ⟨rfl, two_below _ _ _⟩
    · rw [same_not (fun e => h2 e.2.1)]
      have hd : (b == b') = false := by rw [beq_eq_false_iff_ne]; exact h2
      clear h2
      go_enter Try.func12, Try.ntmps12
      go_wp2_with fail
      go_ret
      exact ⟨rfl, two_below _ _ _⟩
  · rw [same_not (fun e => h1 e.1)]
    have hd : (a == a') = false := by rw [beq_eq_false_iff_ne]; exact h1
    clear h1
    go_enter Try.func12, Try.ntmps12
    go_wp2_with fail
    go_ret
    exact ⟨rfl, two_below _ _ _⟩
def RefE (w : World) (l : List UInt8) (x : Int) (e : Ending) (w' : World) : Prop := e = .returned (.tuple #[.string (sb l), .int .i64 x]) ∧ Below w.heap.size w w'
theorem refEncode_no (a b : Int) (A : Option Addr) (n c : Nat) (w : World) (h : ok a b n = false) : Calls Try.prog 8 #[.agg #[.int .i64 a, .int .i64 b, .slice A n c]] w (RefE w [] 2) := by
  have H := Lib.hid h
  clear h
  go_enter Try.func8, Try.ntmps8
  go_wp2_with fail
  refine (refSound_any a b A n c _).mono ?_
  rintro e w1 ⟨rfl, hb1⟩
  rw [H.out]
  have HB : Hid (Below w.heap.size w w1) := (box_below w _).trans (hb1.mono (by simp))
  clear hb1
  go_wp2_with fail
  go_ret2
  exact ⟨rfl, HB.out⟩
theorem little4 (n : Nat) (w : World) (hn : n ≤ 4294967296) : Calls Try.prog 18 #[.int .i64 n, .int .i64 4] w fun e w' => e = .returned (.string (sb (F.lit 4 n))) ∧ Below w.heap.size w w' := little6 n 4 w hn (by omega)
theorem little1 (n : Nat) (w : World) (hn : n ≤ 96) : Calls Try.prog 18 #[.int .i64 n, .int .i64 1] w fun e w' => e = .returned (.string (sb [UInt8.ofNat n])) ∧ Below w.heap.size w w' := by
  have h := little6 n 1 w (by omega) (by omega)
  have e : F.lit 1 n = [UInt8.ofNat n] := by simp [F.lit]
  rw [e] at h
  exact h
theorem part4_text (a b n : Nat) {r : List UInt8} (hr : r.length = n) : ({ data := #[83, 69, 65, 84] } : ByteArray) ++ sb (F.lit 4 a) ++ sb (F.lit 4 b) ++ sb [UInt8.ofNat n] ++ sb r = sb (part4 a b r) := by
  have e : ({ data := #[83, 69, 65, 84] } : ByteArray) = sb [83, 69, 65, 84] := rfl
  subst hr
  rw [e, sb_app, sb_app, sb_app, sb_app]
  rfl
theorem pre_text (a b : Nat) {r : List UInt8} (k : Nat) (hk : k = 111 - r.length) : sb (part4 a b r) ++ noughtsL k = sb (pre a b r) := by
  subst hk
  unfold noughtsL
  rw [sb_app]
  rfl
theorem noughts_at {m k : Nat} (h : (k : Int) = 124 - (m : Int)) (hk : k ≤ 1000) (w : World) : Calls Try.prog 20 #[.int .i64 (124 - (m : Int))] w fun e w' => e = .returned (.string (noughtsL k)) ∧ w = w' := by
  rw [← h]
  exact noughts_any k w hk
set_option maxRecDepth 20000 in
set_option maxHeartbeats 1000000 in
theorem refEncode_yes (a b : Nat) (A : Option Addr) (n c B : Nat) (r : List UInt8) (w : World) (hr : F.Bts w B A n c r) (hB : B ≤ w.heap.size) (h : ok a b n = true) : Calls Try.prog 8 #[.agg #[.int .i64 a, .int .i64 b, .slice A n c]] w (RefE w (sec a b r) 0) := by
  have H := Lib.hid h
  have HR := Lib.hid (hr.more hB)
  obtain ⟨_, ha, _, hb, h96⟩ := ok_iff.1 h
  have ha' : a ≤ 4294967296 := by omega
  have hb' : b ≤ 4294967296 := by omega
  clear h ha hb hr
  go_enter Try.func8, Try.ntmps8
  go_wp2_with fail
  refine (refSound_any a b A n c _).mono ?_
  rintro e w1 ⟨rfl, hb1⟩
  rw [H.out]
  have HB1 : Hid (Below w.heap.size w w1) := (box_below w _).trans (hb1.mono (by simp))
  have hlt : w.heap.size < w1.heap.size := by have := hb1.size; simp at this; omega
  have HL : Hid (w1.cell? ⟨w.heap.size, 0, none⟩ = some (.int .i64 a) ∧ w1.cell? ⟨w.heap.size, 1, none⟩ = some (.int .i64 b) ∧ w1.cell? ⟨w.heap.size, 2, none⟩ = some (.slice A n c)) := cell3 w (.int .i64 a) (.int .i64 b) (.slice A n c) 24 w.heap.size rfl w1 (hb1.mono (by simp))
  clear hb1
  have za : (sb (F.lit 4 a)).size = 4 := by rw [sb_size, F.lit_length]
  have zb : (sb (F.lit 4 b)).size = 4 := by rw [sb_size, F.lit_length]
  have zc : (sb [UInt8.ofNat n]).size = 1 := by rw [sb_size]; rfl
  have zr : (sb r).size = n := by rw [sb_size, HR.out.len]
  have hz0 : ¬ 9223372036854775807 < 13 + n := by omega
  have HP := Lib.hid (part4_text a b n HR.out.len)
  have HS : ∀ W, Hid (Below w1.heap.size w1 W → W.cell? ⟨w.heap.size, 0, none⟩ = some (.int .i64 a) ∧ W.cell? ⟨w.heap.size, 1, none⟩ = some (.int .i64 b) ∧ W.cell? ⟨w.heap.size, 2, none⟩ = some (.slice A n c) ∧ (convert 22 9 (.slice A n c)).run Try.prog W = .ok (.string (sb r)) W) := fun W hW => ⟨(hW.cell hlt).trans HL.out.1, (hW.cell hlt).trans HL.out.2.1, (hW.cell hlt).trans HL.out.2.2, fstr HR.out W (HB1.out.trans (hW.mono HB1.out.size))⟩
  have HB0 : Hid (Below w1.heap.size w1 w1.drew) := (Below.refl _ _).drew
  go_wp2_with fail
  go_region_held3 (fun w' => w'.cell? ⟨w.heap.size, 0, none⟩ = some (.int .i64 a) ∧ w'.cell? ⟨w.heap.size, 1, none⟩ = some (.int .i64 b) ∧ w'.cell? ⟨w.heap.size, 2, none⟩ = some (.slice A n c) ∧ (convert 22 9 (.slice A n c)).run Try.prog w' = .ok (.string (sb r)) w') (first | (with_reducible exact (HS _).out HB0.out) | (with_reducible exact (HS _).out HB2.out) | (with_reducible exact (HS _).out HB3.out) | (with_reducible exact (HS _).out HB4.out)) (first
    | (go_at_call 18; (with_reducible refine (little4 a _ ha').mono ?_); rintro e w2 ⟨rfl, hb2⟩; have HB2 := Lib.hid (HB0.out.trans (hb2.mono HB0.out.size)); clear hb2)
    | (go_at_call 18; (with_reducible refine (little4 b _ hb').mono ?_); rintro e w3 ⟨rfl, hb3⟩; have HB3 := Lib.hid (HB2.out.trans (hb3.mono HB2.out.size)); clear hb3)
    | (go_at_call 18; (with_reducible refine (little1 n _ h96).mono ?_); rintro e w4 ⟨rfl, hb4⟩; have HB4 := Lib.hid (HB3.out.trans (hb4.mono HB3.out.size)); clear hb4))
  rw [HP.out]
  clear hz0 za zb zc zr HS HP HB0 HB2 HB3
  obtain ⟨m, hm⟩ : ∃ m, m = 13 + n := ⟨_, rfl⟩
  have hz4 : (sb (part4 a b r)).size = m := by rw [sb_size, part4_len, HR.out.len, hm]
  have hm' : m ≤ 109 := by omega
  have HNO := Lib.hid (noughts_at (m := m) (k := 111 - n) (by omega) (by omega))
  have hzn := noughts_size (111 - n)
  have HE := Lib.hid (pre_text a b (r := r) (111 - n) (by rw [HR.out.len]))
  have hz5 : ¬ 9223372036854775807 < m + (111 - n) := by omega
  have HL4 : Hid ((pre a b r).length ≤ 281474976710656) := by show _ ≤ _; rw [pre_len a b (by rw [HR.out.len]; exact h96)]; omega
  clear hm
  go_wp2_with fail
  refine (HNO.out _).mono ?_
  rintro e w5 ⟨rfl, rfl⟩
  go_wp2_with fail
  rw [HE.out]
  refine (sealed6 (pre a b r) _ HL4.out).mono ?_
  rintro e w5 ⟨rfl, hb5⟩
  have HB5 := Lib.hid (HB4.out.trans (hb5.mono HB4.out.size))
  clear hb5
  go_wp2_with fail
  go_ret2
  exact ⟨rfl, HB1.out.trans (HB5.out.mono HB1.out.size)⟩
end Go.Proofs.Ytheimdnjmhibjaa
