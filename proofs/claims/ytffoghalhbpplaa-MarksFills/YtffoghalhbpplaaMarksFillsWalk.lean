/- MarksFills, walked. -/
import Derived.Test.YtffoghalhbpplaaRefs
namespace Go.Proofs.Ytffoghalhbpplaa.marksFills
open Go.RowKit
set_option linter.unusedVariables false

set_option maxRecDepth 20000 in
set_option maxHeartbeats 2000000 in
theorem walk_no (w : World) (A : Option Addr) (n c : Nat) (x y : Nat) (hn : n ≠ 128) :
    Calls Try.prog 5 #[.slice A n c, .int .u16 x, .int .u8 y] w fun e W' => e = .returned (.bool true) ∧ Below w.heap.size w W' := by
  have hn1 : ((n : Int) != 128) = true := by simp; omega
  go_enter Try.func5, Try.ntmps5
  go_wp2_with fail
  refine (awake_any _).mono ?_
  rintro e w1 ⟨rfl, hb1⟩
  go_wp2_with fail
  go_ret
  exact ⟨rfl, hb1⟩
/-- What holds at a round's start: all of [a, p) is marked, and p has gone on by one a round at least. -/
structure Sit (w wr : World) (A : Option Addr) (c : Nat) (l : List UInt8) (a z p i : Nat) : Prop where
  bts : Bts wr wr.heap.size A 128 c l
  bel : Below w.heap.size w wr
  lo : a + i ≤ p
  hi : p ≤ z
  full : ∀ m, a ≤ m → m < p → bt l m = true
set_option maxRecDepth 20000 in
set_option maxHeartbeats 2000000 in
theorem walk_yes (w : World) (A : Option Addr) (c : Nat) (l : List UInt8) (h : Bts w w.heap.size A 128 c l) (x : Nat) (hx : x < 65536) (y : Nat) (hy : y < 256) :
    Calls Try.prog 5 #[.slice A 128 c, .int .u16 x, .int .u8 y] w fun e W' => e = .returned (.bool true) ∧ Below w.heap.size w W' := by
  have H := Lib.hid h
  clear h
  go_enter Try.func5, Try.ntmps5
  go_wp2_with fail
  refine (awake_any _).mono ?_
  rintro e w1 ⟨rfl, hb1⟩
  have HB1 := Lib.hid hb1
  clear hb1
  go_wp2_with fail
  have e1 : (x : Int) % 900 = ((x % 900 : Nat) : Int) := by omega
  have e2 : (y : Int) % 100 = ((y % 100 : Nat) : Int) := by omega
  rw [e1, e2]
  have ha : x % 900 < 900 := by omega
  have hd : y % 100 < 100 := by omega
  clear e1 e2
  generalize x % 900 = a at *
  generalize y % 100 = d at *
  have e3 : (a : Int) + (d : Int) = ((a + d : Nat) : Int) := by omega
  rw [e3]
  clear e3
  obtain ⟨z, hz⟩ : ∃ z, a + d = z := ⟨_, rfl⟩
  rw [hz]
  have haz : a ≤ z := by omega
  have hz1 : z ≤ 1024 := by omega
  have hz2 : z < a + 100 := by omega
  clear hz hd
  go_loopw [0, 9, 10] (fun b last i wr => ∃ (k p : Nat) (q : Int) (A' : Option Addr) (c' : Nat) (l' : List UInt8), k ≤ 101 ∧ b = .slice A' 128 c' ∧ last = .int .i64 q ∧ i = .int .i64 k ∧ Hid (q = (p : Int) - 1) ∧ Hid (Sit w wr A' c' l' a z p k)) (fun _ _ i _ => 101 - (intOf i).toNat)
  case atStart =>
    exact ⟨0, a, _, A, c, l, by omega, rfl, rfl, rfl, rfl, ⟨(H.out.below HB1.out).more HB1.out.size, HB1.out, by omega, haz, fun m h1 h2 => by omega⟩⟩
  case round =>
    obtain ⟨k, p, q, A', c', l', hk, rfl, rfl, rfl, HQ, HS⟩ := hrel
    have hlt : k < 101 := by
      have h1 := HS.out.lo
      have h2 := HS.out.hi
      omega
    have hk1 : decide ((k : Int) < 101) = true := by simp; omega
    obtain ⟨R, hR⟩ : ∃ R, first l' a (z - a) = R := ⟨_, rfl⟩
    have HR := Lib.hid hR
    have HF : Hid (Calls Try.prog 12 #[.slice A' 128 c', .int .i64 a, .int .i64 z] wr fun e w' => e = .returned (.tuple #[.int .i64 (fn R), .int .i64 (fe R)]) ∧ Below wr.heap.size wr w') := by
      have := first_yes a z HS.out.bts (Nat.le_refl _) haz hz1
      rw [hR] at this
      exact this
    clear hR
    cases R with
    | none =>
      have HF' : Hid (Calls Try.prog 12 #[.slice A' 128 c', .int .i64 a, .int .i64 z] wr fun e w' => e = .returned (.tuple #[.int .i64 0, .int .i64 10]) ∧ Below wr.heap.size wr w') := HF.out
      clear HF
      go_wp2_with fail
      refine HF'.out.mono ?_
      rintro e w2 ⟨rfl, hb2⟩
      have H2 := Lib.hid (HS.out.bts.below hb2)
      have HB2 := Lib.hid (HS.out.bel.trans (hb2.mono HS.out.bel.size))
      have hs2 := hb2.size
      clear hb2 HF'
      go_wp2_with fail
      refine (count_yes a z H2.out hs2 haz hz1).mono ?_
      rintro e w3 ⟨rfl, hb3⟩
      rw [first_none HR.out]
      have HB3 := Lib.hid (HB2.out.trans (hb3.mono HB2.out.size))
      clear hb3
      have e4 : ((z - a : Nat) : Int) = (z : Int) - (a : Int) := by omega
      rw [e4]
      clear e4
      go_wp2_with fail
      go_ret
      exact ⟨rfl, HB3.out⟩
    | some n =>
      have HF' : Hid (Calls Try.prog 12 #[.slice A' 128 c', .int .i64 a, .int .i64 z] wr fun e w' => e = .returned (.tuple #[.int .i64 (n : Int), .int .i64 0]) ∧ Below wr.heap.size wr w') := HF.out
      obtain ⟨g1, g2, g3⟩ := first_some HR.out
      have hnz : n < z := by omega
      have hpn : p ≤ n := by
        apply Nat.le_of_not_lt
        intro hlt
        have := HS.out.full n g1 hlt
        rw [g3] at this
        cases this
      have t1 : ¬ (n : Int) ≤ q := by rw [HQ.out]; omega
      have t2 : ¬ (z : Int) ≤ (n : Int) := by omega
      have hn2 : n < 1024 := by omega
      clear HF g2 g3
      go_wp2_with fail
      refine HF'.out.mono ?_
      rintro e w2 ⟨rfl, hb2⟩
      have H2 := Lib.hid (HS.out.bts.below hb2)
      have HB2 := Lib.hid (HS.out.bel.trans (hb2.mono HS.out.bel.size))
      have hs2 := hb2.size
      clear hb2 HF'
      go_wp2_with fail
      refine (set_yes n true H2.out hs2 hn2).mono ?_
      rintro e w3 ⟨g, cap, rfl, h3, hb3⟩
      have HB3 := Lib.hid (HB2.out.trans (hb3.mono HB2.out.size))
      have HS3 : Hid (Sit w w3 (some ⟨g, 0, none⟩) cap (setb l' n true) a z (n + 1) (k + 1)) := by
        refine ⟨h3, HB3.out, ?_, hnz, fun m h1 h2 => ?_⟩
        · have := HS.out.lo
          omega
        · rw [bt_setb _ (by rw [HS.out.bts.len]; omega)]
          by_cases hm : m = n
          · rw [if_pos hm]
          · rw [if_neg hm]
            exact first_before HR.out m h1 (by omega)
      clear hb3 h3 HB2 H2 HS HR
      go_wp2_with fail
      go_roundw
      case rel => exact ⟨k + 1, n + 1, (n : Int), _, _, _, by omega, rfl, rfl, by go_num, by show (n : Int) = ((n + 1 : Nat) : Int) - 1; omega, HS3⟩
      case measure => simp [intOf]; omega
theorem walk (w : World) (A : Option Addr) (n c : Nat) (l : List UInt8) (h : Bts w w.heap.size A n c l) (x : Nat) (hx : x < 65536) (y : UInt8) :
    Calls Try.prog 5 #[.slice A n c, .int .u16 x, .int .u8 (y.toNat : Int)] w fun e W' => e = .returned (.bool true) ∧ Below w.heap.size w W' := by
  by_cases hn : n = 128
  · subst hn
    exact walk_yes w A c l h x hx y.toNat y.toNat_lt
  · exact walk_no w A n c x y.toNat hn
end Go.Proofs.Ytffoghalhbpplaa.marksFills
