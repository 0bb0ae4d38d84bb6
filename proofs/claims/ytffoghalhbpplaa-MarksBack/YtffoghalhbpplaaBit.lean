/- marks.bit, marks.marked, marks.one, marks.some, marks.Has, walked. -/
import Derived.Test.YtffoghalhbpplaaWords
import Derived.Deep.RegionHeld3
import Derived.WalkMore
namespace Go.Proofs.Ytffoghalhbpplaa
open Go.RowKit
set_option linter.unusedVariables false

theorem bit_any (n : Nat) (w : World) (hn : n < 1024) : Calls Try.prog 16 #[.int .i64 n] w fun e w' => e = .returned (.int .u8 ((2 ^ (n % 8) : Nat) : Int)) ∧ w = w' := by
  have hp := pow_lt8 (e := n % 8) (by omega)
  have HP : Hid ((2 : Int) ^ (n % 8) % 256 = ((2 ^ (n % 8) : Nat) : Int)) := by
    show _ = _
    have e1 : (2 : Int) ^ (n % 8) = ((2 ^ (n % 8) : Nat) : Int) := (Int.natCast_pow 2 _).symm
    rw [e1]
    exact Int.emod_eq_of_lt (Int.natCast_nonneg _) (Int.ofNat_lt.2 hp)
  clear hp
  go_enter Try.func16, Try.ntmps16
  go_wp2
  go_ret
  exact ⟨ret1 HP.out, rfl⟩
/-- May this be a map, and that a number in it? -/
def oneE (n : Nat) (x : Int) : Int := if n = 128 then (if 0 ≤ x ∧ x < 1024 then 0 else 4) else 1
theorem one_any (A : Option Addr) (n c : Nat) (x : Int) (w : World) : Calls Try.prog 14 #[.slice A n c, .int .i64 x] w fun e w' => e = .returned (.int .i64 (oneE n x)) ∧ w = w' := by
  obtain ⟨o, ho⟩ : ∃ o, oneE n x = o := ⟨_, rfl⟩
  rw [ho]
  have HO := Lib.hid ho
  clear ho
  by_cases hn : n = 128
  · subst hn
    by_cases h0 : x < 0
    · obtain rfl : o = 4 := by rw [← HO.out]; unfold oneE; rw [if_pos rfl, if_neg (by omega)]
      go_enter Try.func14, Try.ntmps14
      go_wp2
      go_ret
      exact ⟨rfl, rfl⟩
    · by_cases h1 : 1024 ≤ x
      · obtain rfl : o = 4 := by rw [← HO.out]; unfold oneE; rw [if_pos rfl, if_neg (by omega)]
        go_enter Try.func14, Try.ntmps14
        go_wp2
        go_ret
        exact ⟨rfl, rfl⟩
      · obtain rfl : o = 0 := by rw [← HO.out]; unfold oneE; rw [if_pos rfl, if_pos (by omega)]
        go_enter Try.func14, Try.ntmps14
        go_wp2
        go_ret
        exact ⟨rfl, rfl⟩
  · obtain rfl : o = 1 := by rw [← HO.out]; unfold oneE; rw [if_neg hn]
    have hn1 : ((n : Int) != 128) = true := by simp; omega
    go_enter Try.func14, Try.ntmps14
    go_wp2
    go_ret
    exact ⟨rfl, rfl⟩
/-- May this be a map, and those the ends of numbers in it? -/
def someE (n : Nat) (x y : Int) : Int := if n = 128 then (if 0 ≤ x ∧ x ≤ y ∧ y ≤ 1024 then 0 else 4) else 1
theorem some_any (A : Option Addr) (n c : Nat) (x y : Int) (w : World) : Calls Try.prog 18 #[.slice A n c, .int .i64 x, .int .i64 y] w fun e w' => e = .returned (.int .i64 (someE n x y)) ∧ w = w' := by
  obtain ⟨o, ho⟩ : ∃ o, someE n x y = o := ⟨_, rfl⟩
  rw [ho]
  have HO := Lib.hid ho
  clear ho
  by_cases hn : n = 128
  · subst hn
    by_cases h0 : x < 0
    · obtain rfl : o = 4 := by rw [← HO.out]; unfold someE; rw [if_pos rfl, if_neg (by omega)]
      go_enter Try.func18, Try.ntmps18
      go_wp2
      go_ret
      exact ⟨rfl, rfl⟩
    · by_cases h1 : 1024 < y
      · obtain rfl : o = 4 := by rw [← HO.out]; unfold someE; rw [if_pos rfl, if_neg (by omega)]
        go_enter Try.func18, Try.ntmps18
        go_wp2
        go_ret
        exact ⟨rfl, rfl⟩
      · by_cases h2 : y < x
        · obtain rfl : o = 4 := by rw [← HO.out]; unfold someE; rw [if_pos rfl, if_neg (by omega)]
          go_enter Try.func18, Try.ntmps18
          go_wp2
          go_ret
          exact ⟨rfl, rfl⟩
        · obtain rfl : o = 0 := by rw [← HO.out]; unfold someE; rw [if_pos rfl, if_pos (by omega)]
          go_enter Try.func18, Try.ntmps18
          go_wp2
          go_ret
          exact ⟨rfl, rfl⟩
  · obtain rfl : o = 1 := by rw [← HO.out]; unfold someE; rw [if_neg hn]
    have hn1 : ((n : Int) != 128) = true := by simp; omega
    go_enter Try.func18, Try.ntmps18
    go_wp2
    go_ret
    exact ⟨rfl, rfl⟩
theorem mask_val (x : UInt8) {e : Nat} (he : e < 8) : (bits .and .u8 (x.toNat : Int) ((2 ^ e : Nat) : Int) != 0) = x.toNat.testBit e := by
  rw [u8_and_nat _ _ x.toNat_lt (pow_lt8 he), Nat.testBit_eq_decide_div_mod_eq]
  rw [nat_bit]
  have hp : 0 < 2 ^ e := Nat.two_pow_pos _
  rcases Nat.mod_two_eq_zero_or_one (x.toNat / 2 ^ e) with h | h
  · simp [h]
  · rw [h, Nat.one_mul]
    have : ((2 ^ e : Nat) : Int) ≠ 0 := Int.ofNat_ne_zero.2 (by omega)
    rw [decide_eq_true rfl]
    exact bne_iff_ne.2 this
theorem marked_any {w : World} {B c : Nat} {A : Option Addr} {l : List UInt8} (n : Nat) (h : Bts w B A 128 c l) (hn : n < 1024) :
    Calls Try.prog 17 #[.slice A 128 c, .int .i64 n] w fun e w' => e = .returned (.bool (bt l n)) ∧ Below w.heap.size w w' := by
  obtain ⟨b, off, rfl, hb, hc⟩ := h.cell (k := n / 8) (by omega)
  have HE : Hid ((bits .and .u8 ((l[n / 8]?.getD 0).toNat : Int) ((2 ^ (n % 8) : Nat) : Int) != 0) = bt l n) := mask_val _ (by omega)
  have HBIT : ∀ w, Hid (Calls Try.prog 16 #[.int .i64 n] w fun e w' => e = .returned (.int .u8 ((2 ^ (n % 8) : Nat) : Int)) ∧ w = w') := fun w => bit_any n w hn
  clear h
  obtain ⟨m, hm⟩ : ∃ m, n / 8 = m := ⟨_, rfl⟩
  have hq : IntKind.i64.wrap ((n : Int) / 8) = (m : Int) := by rw [IntKind.wrap_i64]; omega
  have hm1 : m < 128 := by omega
  have hm2 : (m : Int) < 128 := by omega
  have hm3 : 0 ≤ (m : Int) := by omega
  rw [hm] at hc HE
  clear hm
  generalize bt l n = o at *
  generalize l[m]?.getD 0 = x at *
  have HS : ∀ W, Hid (Below w.heap.size w W → W.cell? ⟨b, off + m, none⟩ = some (.int .u8 (x.toNat : Int))) := fun W hW => (hW.cell (p := ⟨b, off + m, none⟩) (World.block_lt_of_cell? w ⟨b, off + m, none⟩ hc)).trans hc
  have HBD : Hid (Below w.heap.size w w.drew) := (Below.refl _ _).drew
  go_enter Try.func17, Try.ntmps17
  go_wp2_with fail
  go_region_held3 (fun w' => w'.cell? ⟨b, off + m, none⟩ = some (.int .u8 (x.toNat : Int))) (first | (with_reducible exact (HS _).out HBD.out) | (with_reducible exact (HS _).out HB1.out)) (first
    | (go_at_call 16; (with_reducible refine ((HBIT _).out).mono ?_); rintro e w1 ⟨rfl, rfl⟩))
  go_wp2_with fail
  go_ret
  exact ⟨retb HE.out, HBD.out⟩
/-- What Has tells. -/
def hasB (l : List UInt8) (n : Nat) (x : Int) : Bool := if oneE n x = 0 then bt l x.toNat else false
theorem oneE_zero {n : Nat} {x : Int} (h : oneE n x = 0) : n = 128 ∧ 0 ≤ x ∧ x < 1024 := by
  unfold oneE at h
  split at h
  · split at h
    · exact ⟨by assumption, by omega, by omega⟩
    · cases h
  · cases h
theorem oneE_cases (n : Nat) (x : Int) : oneE n x = 0 ∨ oneE n x = 1 ∨ oneE n x = 4 := by
  unfold oneE
  split
  · split <;> simp
  · simp
theorem has_any {w : World} {B n c : Nat} {A : Option Addr} {l : List UInt8} (x : Int) (h : Bts w B A n c l) :
    Calls Try.prog 8 #[.slice A n c, .int .i64 x] w fun e w' => e = .returned (.tuple #[.bool (hasB l n x), .int .i64 (oneE n x)]) ∧ Below w.heap.size w w' := by
  have H := Lib.hid h
  clear h
  have HONE : ∀ w, Hid (Calls Try.prog 14 #[.slice A n c, .int .i64 x] w fun e w' => e = .returned (.int .i64 (oneE n x)) ∧ w = w') := fun w => one_any A n c x w
  obtain ⟨o, ho⟩ : ∃ o, hasB l n x = o := ⟨_, rfl⟩
  have HO := Lib.hid ho
  rw [ho]
  clear ho
  rcases oneE_cases n x with h0 | h0 | h0
  · obtain ⟨rfl, h1, h2⟩ := oneE_zero h0
    obtain ⟨k, rfl⟩ := Int.eq_ofNat_of_zero_le h1
    rw [h0]
    have HMK : Hid (Calls Try.prog 17 #[.slice A 128 c, .int .i64 k] w fun e w' => e = .returned (.bool o) ∧ Below w.heap.size w w') := by
      have := marked_any k H.out (by omega)
      have e : bt l k = o := by rw [← HO.out]; unfold hasB; rw [if_pos h0]; rfl
      rw [e] at this
      exact this
    rw [h0] at HONE
    clear h0 h1 h2 HO
    go_enter Try.func8, Try.ntmps8
    go_wp2_with fail
    refine (HONE _).out.mono ?_
    rintro e w1 ⟨rfl, rfl⟩
    go_wp2_with fail
    refine HMK.out.mono ?_
    rintro e w1 ⟨rfl, hb⟩
    go_wp2_with fail
    go_ret2
    exact ⟨rfl, hb⟩
  all_goals
    obtain rfl : o = false := by rw [← HO.out]; unfold hasB; rw [h0]; rfl
    rw [h0] at HONE ⊢
    clear h0 HO
    go_enter Try.func8, Try.ntmps8
    go_wp2_with fail
    refine (HONE _).out.mono ?_
    rintro e w1 ⟨rfl, rfl⟩
    go_wp2_with fail
    go_ret2
    exact ⟨rfl, Below.refl _ _⟩
end Go.Proofs.Ytffoghalhbpplaa
