/- The plain mathematics of fields and frames: numbers as bytes, the check sum bit by bit. Nothing of the program is named here. -/
namespace Go.Proofs.Ytfignanjelebaaa

/-- A number as so many bytes, the lowest first. -/
def lit : Nat → Nat → List UInt8
  | 0, _ => []
  | k + 1, n => UInt8.ofNat n :: lit k (n / 256)
/-- The number that bytes are, the lowest first. -/
def big : List UInt8 → Nat
  | [] => 0
  | b :: l => b.toNat + 256 * big l
theorem lit_length (k n : Nat) : (lit k n).length = k := by
  induction k generalizing n with
  | zero => rfl
  | succ k ih => simp [lit, ih]
theorem big_lt (l : List UInt8) : big l < 256 ^ l.length := by
  induction l with
  | nil => simp [big]
  | cons b l ih =>
    have := b.toNat_lt
    simp only [big, List.length_cons, Nat.pow_succ]
    omega
theorem big_lit (k n : Nat) : big (lit k n) = n % 256 ^ k := by
  induction k generalizing n with
  | zero => simp [lit, big, Nat.mod_one]
  | succ k ih =>
    have e : (256 : Nat) ^ (k + 1) = 256 * 256 ^ k := by rw [Nat.pow_succ, Nat.mul_comm]
    rw [e, Nat.mod_mul]
    simp only [lit, big, ih, UInt8.toNat_ofNat']
theorem lit_big (l : List UInt8) : lit l.length (big l) = l := by
  induction l with
  | nil => rfl
  | cons b l ih =>
    have hb := b.toNat_lt
    simp only [big, List.length_cons, lit]
    have h1 : (b.toNat + 256 * big l) / 256 = big l := by omega
    have h2 : UInt8.ofNat (b.toNat + 256 * big l) = b := by
      apply UInt8.toNat_inj.1
      rw [UInt8.toNat_ofNat']
      omega
    rw [h1, h2, ih]
theorem lit_snoc (k n : Nat) : lit (k + 1) n = lit k n ++ [UInt8.ofNat (n / 256 ^ k)] := by
  induction k generalizing n with
  | zero => simp [lit]
  | succ k ih =>
    show UInt8.ofNat n :: lit (k + 1) (n / 256) = (UInt8.ofNat n :: lit k (n / 256)) ++ [UInt8.ofNat (n / 256 ^ (k + 1))]
    rw [ih, Nat.div_div_eq_div_mul, Nat.pow_succ, Nat.mul_comm 256]
    rfl
theorem lit_inj {k a b : Nat} (ha : a < 256 ^ k) (hb : b < 256 ^ k) (h : lit k a = lit k b) : a = b := by
  have := congrArg big h
  rwa [big_lit, big_lit, Nat.mod_eq_of_lt ha, Nat.mod_eq_of_lt hb] at this
theorem big_append (a b : List UInt8) : big (a ++ b) = big a + 256 ^ a.length * big b := by
  induction a with
  | nil => simp [big]
  | cons x a ih =>
    simp only [List.cons_append, big, ih, List.length_cons, Nat.pow_succ]
    rw [Nat.mul_add, Nat.mul_comm (256 ^ a.length) 256, Nat.mul_assoc]
    omega
/-- The bytes from the end on, one by one: what a loop from the end gathers. -/
def gath (l : List UInt8) : Nat := l.foldl (fun n b => n * 256 + b.toNat) 0
theorem gath_rev (l : List UInt8) : gath l.reverse = big l := by
  unfold gath
  induction l with
  | nil => rfl
  | cons b l ih =>
    rw [List.reverse_cons, List.foldl_append, ih]
    simp [big]
    omega
theorem gath_snoc (l : List UInt8) (b : UInt8) : gath (l ++ [b]) = gath l * 256 + b.toNat := by simp [gath]
theorem gath_lt (l : List UInt8) : gath l < 256 ^ l.length := by
  have := big_lt l.reverse
  rwa [← gath_rev, List.reverse_reverse, List.length_reverse] at this

/-- One bit of the sum: a shift, and the polynomial where the bit that falls out is 1. -/
def zs (s : Nat) : Nat := (s >>> 1) ^^^ ((s &&& 1) * 3988292384)
def zsN : Nat → Nat → Nat
  | 0, s => s
  | k + 1, s => zs (zsN k s)
theorem zs_lt {s : Nat} (h : s < 4294967296) : zs s < 4294967296 := by
  have h1 : s >>> 1 < 2 ^ 32 := by rw [Nat.shiftRight_eq_div_pow]; omega
  have h2 : (s &&& 1) * 3988292384 < 2 ^ 32 := by rw [Nat.and_one_is_mod]; omega
  exact Nat.xor_lt_two_pow h1 h2
theorem zsN_lt {s : Nat} (k : Nat) (h : s < 4294967296) : zsN k s < 4294967296 := by
  induction k with
  | zero => exact h
  | succ k ih => exact zs_lt ih
def bs (s : Nat) (b : UInt8) : Nat := zsN 8 (s ^^^ b.toNat)
theorem xorb_lt {s : Nat} (h : s < 4294967296) (b : UInt8) : s ^^^ b.toNat < 4294967296 := by
  have := b.toNat_lt
  exact Nat.xor_lt_two_pow (n := 32) h (by omega)
theorem bs_lt {s : Nat} (h : s < 4294967296) (b : UInt8) : bs s b < 4294967296 := zsN_lt 8 (xorb_lt h b)
/-- The state of the sum behind bytes. -/
def st (l : List UInt8) : Nat := l.foldl bs 4294967295
theorem st_lt (l : List UInt8) : st l < 4294967296 := by
  have : ∀ (l : List UInt8) (s : Nat), s < 4294967296 → l.foldl bs s < 4294967296 := by
    intro l
    induction l with
    | nil => intro s h; exact h
    | cons b l ih => intro s h; exact ih _ (bs_lt h b)
  exact this l _ (by omega)
theorem st_snoc (l : List UInt8) (b : UInt8) : st (l ++ [b]) = bs (st l) b := by simp [st]
/-- The check sum. -/
def crc (l : List UInt8) : Nat := 4294967295 - st l
theorem crc_lt (l : List UInt8) : crc l < 4294967296 := by unfold crc; omega
theorem take_snoc {l : List UInt8} {k : Nat} (h : k < l.length) : l.take (k + 1) = l.take k ++ [l[k]?.getD 0] := by
  rw [List.take_succ_eq_append_getElem h]; simp [h]
theorem not_u32 {s : Nat} (h : s < 4294967296) : s ^^^ 4294967295 = 4294967295 - s := by
  have h1 := BitVec.toNat_not (x := BitVec.ofNat 32 s)
  rw [BitVec.not_def, BitVec.toNat_xor, BitVec.toNat_allOnes, BitVec.toNat_ofNat, Nat.mod_eq_of_lt (by omega)] at h1
  rw [Nat.xor_comm]
  exact h1
end Go.Proofs.Ytfignanjelebaaa
namespace Go.Proofs.Ytfignanjelebaaa
theorem xor_mod2 (a b : Nat) : (a ^^^ b) % 2 = (a + b) % 2 := by
  have h : (a ^^^ b) % 2 = (a % 2) ^^^ (b % 2) := Nat.xor_mod_two_pow (n := 1)
  rcases Nat.mod_two_eq_zero_or_one a with ha | ha <;> rcases Nat.mod_two_eq_zero_or_one b with hb | hb <;> rw [h, ha, hb] <;> simp <;> omega
/-- One bit, the byte's bit not mixed in beforehand: the bits are unlike. -/
theorem zs_ne {r y : Nat} (h : y % 2 ≠ r % 2) : ((r >>> 1) ^^^ 3988292384) ^^^ (y >>> 1) = zs (r ^^^ y) := by
  have h1 : (r ^^^ y) &&& 1 = 1 := by
    rw [Nat.and_one_is_mod, xor_mod2]; omega
  unfold zs
  rw [h1, Nat.shiftRight_xor_distrib, Nat.one_mul, Nat.xor_assoc, Nat.xor_comm 3988292384, ← Nat.xor_assoc]
theorem zs_eq {r y : Nat} (h : y % 2 = r % 2) : (r >>> 1) ^^^ (y >>> 1) = zs (r ^^^ y) := by
  have h1 : (r ^^^ y) &&& 1 = 0 := by
    rw [Nat.and_one_is_mod, xor_mod2]; omega
  unfold zs
  rw [h1, Nat.shiftRight_xor_distrib, Nat.zero_mul, Nat.xor_zero]
theorem lit_div (m n : Nat) : lit m n ++ [UInt8.ofNat (n / 256 ^ m)] = lit (m + 1) n := (lit_snoc m n).symm
end Go.Proofs.Ytfignanjelebaaa
