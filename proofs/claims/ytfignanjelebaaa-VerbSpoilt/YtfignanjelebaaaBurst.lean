/- The check sum tells every turn of bits within 32 in a row. Plain mathematics: the sum's step is linear, and a burst that has been shifted down is not 0. -/
import Derived.Test.YtfignanjelebaaaPlain
namespace Go.Proofs.Ytfignanjelebaaa

theorem zs_zero : zs 0 = 0 := by decide
theorem zs_shift (s y : Nat) : zs (s ^^^ (y * 2)) = zs s ^^^ y := by
  have h1 : (s ^^^ (y * 2)) &&& 1 = s &&& 1 := by rw [Nat.and_one_is_mod, Nat.and_one_is_mod, xor_mod2]; omega
  have h2 : (y * 2) >>> 1 = y := by rw [Nat.shiftRight_eq_div_pow]; omega
  unfold zs
  rw [h1, Nat.shiftRight_xor_distrib, h2, Nat.xor_assoc, Nat.xor_assoc, Nat.xor_comm y]
theorem xor4 (p q u v : Nat) : (p ^^^ q) ^^^ (u ^^^ v) = (p ^^^ u) ^^^ (q ^^^ v) := by
  rw [Nat.xor_assoc, Nat.xor_assoc, ← Nat.xor_assoc q, Nat.xor_comm q, Nat.xor_assoc u]
theorem xor_zero_eq {a b : Nat} (h : a ^^^ b = 0) : a = b := by
  have : (a ^^^ b) ^^^ b = a := by rw [Nat.xor_assoc, Nat.xor_self, Nat.xor_zero]
  rw [h, Nat.zero_xor] at this
  exact this.symm
theorem zs_xor (a b : Nat) : zs (a ^^^ b) = zs a ^^^ zs b := by
  have h1 : ((a ^^^ b) &&& 1) * 3988292384 = ((a &&& 1) * 3988292384) ^^^ ((b &&& 1) * 3988292384) := by
    rw [Nat.and_one_is_mod, Nat.and_one_is_mod, Nat.and_one_is_mod, xor_mod2]
    rcases Nat.mod_two_eq_zero_or_one a with ha | ha <;> rcases Nat.mod_two_eq_zero_or_one b with hb | hb
    · rw [ha, hb, show (a + b) % 2 = 0 by omega, Nat.zero_mul, Nat.xor_zero]
    · rw [ha, hb, show (a + b) % 2 = 1 by omega]; simp
    · rw [ha, hb, show (a + b) % 2 = 1 by omega]; simp
    · rw [ha, hb, show (a + b) % 2 = 0 by omega, Nat.xor_self]
  unfold zs
  rw [h1, Nat.shiftRight_xor_distrib]
  exact xor4 _ _ _ _
theorem zsN_zero (k : Nat) : zsN k 0 = 0 := by
  induction k with
  | zero => rfl
  | succ k ih => rw [zsN, ih, zs_zero]
theorem zsN_xor (k a b : Nat) : zsN k (a ^^^ b) = zsN k a ^^^ zsN k b := by
  induction k with
  | zero => rfl
  | succ k ih => rw [zsN, zsN, zsN, ih, zs_xor]
theorem zsN_shift (k s y : Nat) : zsN k (s ^^^ (y * 2 ^ k)) = zsN k s ^^^ y := by
  induction k generalizing y with
  | zero => simp [zsN]
  | succ k ih =>
    have e : y * 2 ^ (k + 1) = (y * 2) * 2 ^ k := by rw [Nat.pow_succ, Nat.mul_assoc, Nat.mul_comm 2]
    rw [zsN, zsN, e, ih, zs_shift]
theorem zsN_add (j k s : Nat) : zsN (j + k) s = zsN j (zsN k s) := by
  induction j with
  | zero => rw [Nat.zero_add]; rfl
  | succ j ih => rw [Nat.succ_add, zsN, zsN, ih]
theorem zs_ne_zero {s : Nat} (h : s < 4294967296) (h0 : s ≠ 0) : zs s ≠ 0 := by
  intro e
  unfold zs at e
  have h1 := xor_zero_eq e
  rw [Nat.and_one_is_mod, Nat.shiftRight_eq_div_pow] at h1
  omega
theorem zsN_ne_zero {s : Nat} (k : Nat) (h : s < 4294967296) (h0 : s ≠ 0) : zsN k s ≠ 0 := by
  induction k with
  | zero => exact h0
  | succ k ih => exact zs_ne_zero (zsN_lt k h) ih
theorem byte_or (b : UInt8) (y : Nat) : b.toNat + 256 * y = b.toNat ^^^ (y * 2 ^ 8) := by
  have hb := b.toNat_lt
  have h1 := Nat.two_pow_add_eq_or_of_lt (i := 8) (b := b.toNat) hb y
  have h2 : b.toNat + 256 * y = 2 ^ 8 * y ||| b.toNat := by omega
  rw [h2]
  apply Nat.eq_of_testBit_eq
  intro i
  rw [Nat.testBit_or, Nat.testBit_xor, Nat.mul_comm y, Nat.testBit_two_pow_mul]
  by_cases hi : i < 8
  · have : decide (8 ≤ i) = false := by simp; omega
    rw [this]; simp
  · have hz : b.toNat.testBit i = false := Nat.testBit_lt_two_pow (Nat.lt_of_lt_of_le hb (Nat.pow_le_pow_right (by omega) (by omega)))
    rw [hz]; simp
/-- The state behind bytes, from any state: the whole message as one number. -/
theorem feed (l : List UInt8) (s : Nat) : l.foldl bs s = zsN (8 * l.length) (s ^^^ big l) := by
  induction l generalizing s with
  | nil => simp [big, zsN]
  | cons b l ih =>
    rw [List.foldl_cons, ih, List.length_cons, Nat.mul_succ, zsN_add]
    congr 1
    show zsN 8 (s ^^^ b.toNat) ^^^ big l = zsN 8 (s ^^^ (b.toNat + 256 * big l))
    rw [byte_or, ← Nat.xor_assoc, zsN_shift]
/-- The last four bytes are the sum of those ahead. -/
def Whole (l : List UInt8) : Prop := big (l.drop (l.length - 4)) = crc (l.take (l.length - 4))
theorem whole_feed {l : List UInt8} (hl : 4 ≤ l.length) (h : Whole l) : zsN (8 * l.length) (4294967295 ^^^ big l) = zsN 32 4294967295 := by
  have hd : (l.drop (l.length - 4)).length = 4 := by rw [List.length_drop]; omega
  rw [← feed]
  conv => lhs; rw [← List.take_append_drop (l.length - 4) l]
  rw [List.foldl_append, feed (l.drop (l.length - 4)), hd]
  have hs := st_lt (l.take (l.length - 4))
  unfold Whole crc at h
  rw [h, ← not_u32 hs]
  show zsN (8 * 4) (st (l.take (l.length - 4)) ^^^ (st (l.take (l.length - 4)) ^^^ 4294967295)) = _
  rw [← Nat.xor_assoc, Nat.xor_self, Nat.zero_xor]
theorem burst_told {l l' : List UInt8} {k burst : Nat} (hl : 4 ≤ l.length) (hlen : l'.length = l.length) (hk : k ≤ 8 * l.length) (hb : burst < 4294967296) (hb0 : burst ≠ 0) (h : Whole l) (he : big l' = big l ^^^ (burst * 2 ^ k)) : ¬ Whole l' := by
  intro h'
  have h1 := whole_feed hl h
  have h2 := whole_feed (by omega) h'
  rw [hlen, he, ← Nat.xor_assoc, zsN_xor, h1] at h2
  have h3 : zsN (8 * l.length) (burst * 2 ^ k) = zsN (8 * l.length - k) burst := by
    have e : 8 * l.length = (8 * l.length - k) + k := by omega
    conv => lhs; rw [e]
    rw [zsN_add]
    have := zsN_shift k 0 burst
    rw [Nat.zero_xor, zsN_zero, Nat.zero_xor] at this
    rw [this]
  have h4 : zsN (8 * l.length) (burst * 2 ^ k) = 0 := by
    have := congrArg (fun z => zsN 32 4294967295 ^^^ z) h2
    simp only [← Nat.xor_assoc, Nat.xor_self, Nat.zero_xor] at this
    exact this
  rw [h3] at h4
  exact zsN_ne_zero _ hb hb0 h4
theorem xor_mul (a b k : Nat) : (a ^^^ b) * 2 ^ k = (a * 2 ^ k) ^^^ (b * 2 ^ k) := by
  rw [← Nat.shiftLeft_eq, ← Nat.shiftLeft_eq, ← Nat.shiftLeft_eq, Nat.shiftLeft_xor_distrib]
/-- One byte is turned. -/
theorem big_set (l : List UInt8) (j : Nat) (y : UInt8) (hj : j < l.length) : big (l.set j ((l[j]?.getD 0) ^^^ y)) = big l ^^^ (y.toNat * 2 ^ (8 * j)) := by
  induction l generalizing j with
  | nil => simp at hj
  | cons b l ih =>
    cases j with
    | zero =>
      show (b ^^^ y).toNat + 256 * big l = (b.toNat + 256 * big l) ^^^ (y.toNat * 1)
      rw [byte_or, byte_or, UInt8.toNat_xor, Nat.mul_one, Nat.xor_assoc, Nat.xor_comm y.toNat, ← Nat.xor_assoc]
    | succ j =>
      have := ih j (by simpa using hj)
      show b.toNat + 256 * big (l.set j ((l[j]?.getD 0) ^^^ y)) = (b.toNat + 256 * big l) ^^^ (y.toNat * 2 ^ (8 * (j + 1)))
      have e : (2 : Nat) ^ (8 * (j + 1)) = 2 ^ (8 * j) * 2 ^ 8 := by rw [← Nat.pow_add]; rfl
      rw [this, e, ← Nat.mul_assoc, byte_or, byte_or, xor_mul, Nat.xor_assoc]
/-- One bit is turned. -/
theorem big_turn (l : List UInt8) (p : Nat) (hp : p / 8 < l.length) : big (l.set (p / 8) ((l[p / 8]?.getD 0) ^^^ UInt8.ofNat (2 ^ (p % 8)))) = big l ^^^ 2 ^ p := by
  rw [big_set _ _ _ hp, UInt8.toNat_ofNat']
  have h1 : 2 ^ (p % 8) % 2 ^ 8 = 2 ^ (p % 8) := Nat.mod_eq_of_lt (Nat.pow_lt_pow_right (by omega) (by omega))
  rw [h1, ← Nat.pow_add]
  congr 2
  omega
theorem low_succ (b m : Nat) : b % 2 ^ (m + 1) = (b % 2 ^ m) ^^^ ((b / 2 ^ m % 2) * 2 ^ m) := by
  apply Nat.eq_of_testBit_eq
  intro i
  rw [Nat.testBit_xor, Nat.testBit_mod_two_pow, Nat.testBit_mod_two_pow, Nat.mul_comm, Nat.testBit_two_pow_mul]
  have hb : (b / 2 ^ m % 2).testBit (i - m) = (decide (i - m < 1) && (b / 2 ^ m).testBit (i - m)) := Nat.testBit_mod_two_pow (b / 2 ^ m) 1 (i - m)
  rw [hb, ← Nat.shiftRight_eq_div_pow, Nat.testBit_shiftRight]
  by_cases h1 : i < m
  · have e1 : decide (i < m + 1) = true := by simp; omega
    have e2 : decide (i < m) = true := by simp; omega
    have e3 : decide (m ≤ i) = false := by simp; omega
    rw [e1, e2, e3]; simp
  · by_cases h2 : i = m
    · subst h2
      simp
    · have e1 : decide (i < m + 1) = false := by simp; omega
      have e2 : decide (i < m) = false := by simp; omega
      have e3 : decide (i - m < 1) = false := by simp; omega
      rw [e1, e2, e3]; simp
end Go.Proofs.Ytfignanjelebaaa
