/- The plain mathematics of marks: bits of a list of bytes. Nothing of the program is named here. -/
namespace Go.Proofs.Ytffoghalhbpplaa

/-- Bit n of a list of bytes: of byte n/8, the lowest first. -/
def bt (l : List UInt8) (n : Nat) : Bool := (l[n / 8]?.getD 0).toNat.testBit (n % 8)
/-- A byte of which bit e is as told. -/
def put (x : UInt8) (e : Nat) (on : Bool) : UInt8 := UInt8.ofNat (if on then x.toNat ||| 2 ^ e else x.toNat &&& (255 - 2 ^ e))
def setb (l : List UInt8) (n : Nat) (on : Bool) : List UInt8 := l.set (n / 8) (put (l[n / 8]?.getD 0) (n % 8) on)
theorem pow_lt8 {e : Nat} (h : e < 8) : 2 ^ e < 256 := by
  have : (2 : Nat) ^ e < 2 ^ 8 := Nat.pow_lt_pow_right (by omega) h
  omega
theorem put_lt (x : UInt8) {e : Nat} (on : Bool) (h : e < 8) : (if on then x.toNat ||| 2 ^ e else x.toNat &&& (255 - 2 ^ e)) < 256 := by
  have hx := x.toNat_lt
  have := pow_lt8 h
  cases on with
  | true => exact Nat.or_lt_two_pow (n := 8) (by omega) (by omega)
  | false => exact Nat.and_lt_two_pow (n := 8) _ (Nat.lt_of_le_of_lt (Nat.sub_le _ _) (by decide))
theorem put_nat (x : UInt8) {e : Nat} (on : Bool) (h : e < 8) : (put x e on).toNat = if on then x.toNat ||| 2 ^ e else x.toNat &&& (255 - 2 ^ e) := by
  unfold put
  rw [UInt8.toNat_ofNat']
  exact Nat.mod_eq_of_lt (put_lt x on h)
theorem put_bit (x : UInt8) {e k : Nat} (on : Bool) (h : e < 8) (hk : k < 8) : (put x e on).toNat.testBit k = if k = e then on else x.toNat.testBit k := by
  rw [put_nat x on h]
  cases on with
  | true =>
    simp only [if_true, Nat.testBit_or, Nat.testBit_two_pow]
    by_cases hke : k = e
    · subst hke; simp
    · simp [hke, Ne.symm hke]
  | false =>
    have e1 : 255 - 2 ^ e = 2 ^ 8 - (2 ^ e + 1) := by omega
    have h1 := Nat.testBit_two_pow_sub_succ (x := 2 ^ e) (n := 8) (by have := pow_lt8 h; omega) k
    simp only [Bool.false_eq_true, if_false, Nat.testBit_and, e1, h1, Nat.testBit_two_pow]
    by_cases hke : k = e
    · subst hke; simp
    · simp [hke, Ne.symm hke, hk]
theorem setb_length (l : List UInt8) (n : Nat) (on : Bool) : (setb l n on).length = l.length := by simp [setb]
theorem bt_setb {l : List UInt8} {n m : Nat} (on : Bool) (hn : n < 8 * l.length) : bt (setb l n on) m = if m = n then on else bt l m := by
  unfold bt setb
  rw [List.getElem?_set]
  by_cases h8 : n / 8 = m / 8
  · rw [if_pos h8, if_pos (by omega), Option.getD_some, put_bit _ _ (by omega) (by omega), h8]
    by_cases he : m = n
    · subst he; simp
    · rw [if_neg (by omega), if_neg he]
  · rw [if_neg h8, if_neg (by intro e; subst e; exact h8 rfl)]
theorem byte_ext {x y : UInt8} (h : ∀ k, k < 8 → x.toNat.testBit k = y.toNat.testBit k) : x = y := by
  apply UInt8.toNat_inj.1
  have hx := x.toNat_lt
  have hy := y.toNat_lt
  apply Nat.eq_of_testBit_eq
  intro k
  by_cases hk : k < 8
  · exact h k hk
  · have hp : 2 ^ 8 ≤ 2 ^ k := Nat.pow_le_pow_right (by omega) (by omega)
    rw [Nat.testBit_lt_two_pow (by omega), Nat.testBit_lt_two_pow (by omega)]
theorem list_ext {a b : List UInt8} (hl : a.length = b.length) (h : ∀ n, n < 8 * a.length → bt a n = bt b n) : a = b := by
  apply List.ext_getElem hl
  intro i h1 h2
  apply byte_ext
  intro k hk
  have := h (8 * i + k) (by omega)
  unfold bt at this
  have e1 : (8 * i + k) / 8 = i := by omega
  have e2 : (8 * i + k) % 8 = k := by omega
  rw [e1, e2, List.getElem?_eq_getElem h1, List.getElem?_eq_getElem h2] at this
  exact this
/-- Set and set back. -/
theorem setb_back {l : List UInt8} {n : Nat} {on : Bool} (hn : n < 8 * l.length) : setb (setb l n on) n (bt l n) = l := by
  refine list_ext (by rw [setb_length, setb_length]) fun m hm => ?_
  rw [bt_setb _ (by rw [setb_length]; exact hn)]
  by_cases h : m = n
  · rw [if_pos h, h]
  · rw [if_neg h, bt_setb _ hn, if_neg h]

/-- The first of k numbers from a on that is not marked. -/
def first (l : List UInt8) : Nat → Nat → Option Nat
  | _, 0 => none
  | a, k + 1 => if bt l a then first l (a + 1) k else some a
/-- How many of k numbers from a on are marked. -/
def count (l : List UInt8) : Nat → Nat → Nat
  | _, 0 => 0
  | a, k + 1 => (if bt l a then 1 else 0) + count l (a + 1) k
theorem count_le (l : List UInt8) (a k : Nat) : count l a k ≤ k := by
  induction k generalizing a with
  | zero => exact Nat.le_refl _
  | succ k ih =>
    have := ih (a + 1)
    unfold count
    split <;> omega
theorem first_some {l : List UInt8} {a k n : Nat} (h : first l a k = some n) : a ≤ n ∧ n < a + k ∧ bt l n = false := by
  induction k generalizing a with
  | zero => cases h
  | succ k ih =>
    unfold first at h
    split at h
    · obtain ⟨h1, h2, h3⟩ := ih h
      exact ⟨by omega, by omega, h3⟩
    · rename_i hb
      cases h
      exact ⟨by omega, by omega, by simpa using hb⟩
theorem first_before {l : List UInt8} {a k n : Nat} (h : first l a k = some n) : ∀ m, a ≤ m → m < n → bt l m = true := by
  induction k generalizing a with
  | zero => cases h
  | succ k ih =>
    intro m hm hmn
    unfold first at h
    split at h
    · rename_i hb
      by_cases e : m = a
      · subst e; exact hb
      · exact ih h m (by omega) hmn
    · cases h; omega
theorem first_none {l : List UInt8} {a k : Nat} (h : first l a k = none) : count l a k = k := by
  induction k generalizing a with
  | zero => rfl
  | succ k ih =>
    unfold first at h
    split at h
    · rename_i hb
      unfold count
      rw [if_pos hb, ih h]
      omega
    · cases h
theorem first_none_of {l : List UInt8} {a k : Nat} (h : ∀ m, a ≤ m → m < a + k → bt l m = true) : first l a k = none := by
  induction k generalizing a with
  | zero => rfl
  | succ k ih =>
    unfold first
    rw [if_pos (h a (by omega) (by omega))]
    exact ih fun m h1 h2 => h m (by omega) (by omega)
/-- From a stretch of which all below n are marked the first comes from n on. -/
theorem first_skip {l : List UInt8} {a k : Nat} (d : Nat) (hd : d ≤ k) (h : ∀ m, a ≤ m → m < a + d → bt l m = true) : first l a k = first l (a + d) (k - d) := by
  induction d generalizing a k with
  | zero => rfl
  | succ d ih =>
    obtain ⟨j, rfl⟩ : ∃ j, k = j + 1 := ⟨k - 1, by omega⟩
    conv => lhs; unfold first
    rw [if_pos (h a (by omega) (by omega)), ih (by omega) fun m h1 h2 => h m (by omega) (by omega)]
    congr 1 <;> omega
/-- All the bits. -/
def bitsL (l : List UInt8) (k : Nat) : List Bool := (List.range k).map (bt l)
theorem bitsL_length (l : List UInt8) (k : Nat) : (bitsL l k).length = k := by simp [bitsL]
theorem bitsL_succ (l : List UInt8) (k : Nat) : bitsL l (k + 1) = bitsL l k ++ [bt l k] := by simp [bitsL, List.range_succ]
theorem bitsL_get (l : List UInt8) {k n : Nat} (h : n < k) : (bitsL l k)[n]?.getD false = bt l n := by simp [bitsL, h]
theorem bitsL_set {l : List UInt8} {n k : Nat} (on : Bool) (hn : n < 8 * l.length) : (bitsL l k).set n on = bitsL (setb l n on) k := by
  apply List.ext_getElem
  · simp [bitsL]
  · intro i h1 h2
    rw [List.getElem_set]
    simp only [bitsL, List.getElem_map, List.getElem_range]
    rw [bt_setb on hn]
    by_cases h : i = n
    · subst h; simp
    · rw [if_neg (Ne.symm h), if_neg h]
/-- One bit of a number, as 'n%2 == 1' behind so many halvings. -/
theorem bit_div (x k : Nat) : x.testBit k = decide (x / 2 ^ k % 2 = 1) := by
  rw [Nat.testBit_eq_decide_div_mod_eq]
/-- What the first i bits make. -/
def part (l : List UInt8) (i : Nat) : List UInt8 := (List.range l.length).map fun j => UInt8.ofNat ((l[j]?.getD 0).toNat % 2 ^ (min 8 (i - 8 * j)))
theorem part_length (l : List UInt8) (i : Nat) : (part l i).length = l.length := by simp [part]
theorem part_zero (l : List UInt8) : part l 0 = List.replicate l.length 0 := by
  apply List.ext_getElem
  · simp [part]
  · intro i h1 h2
    simp [part, Nat.mod_one]
theorem part_all (l : List UInt8) : part l (8 * l.length) = l := by
  apply List.ext_getElem
  · simp [part]
  · intro i h1 h2
    have e : min 8 (8 * l.length - 8 * i) = 8 := by omega
    simp only [part, List.getElem_map, List.getElem_range, e, List.getElem?_eq_getElem h2, Option.getD_some]
    apply UInt8.toNat_inj.1
    have := l[i].toNat_lt
    rw [UInt8.toNat_ofNat']
    omega
theorem part_get (l : List UInt8) {i j : Nat} (h : j < l.length) : ((part l i)[j]?.getD 0).toNat = (l[j]?.getD 0).toNat % 2 ^ (min 8 (i - 8 * j)) := by
  have hx := (l[j]?.getD 0).toNat_lt
  have h1 : (part l i)[j]?.getD 0 = UInt8.ofNat ((l[j]?.getD 0).toNat % 2 ^ (min 8 (i - 8 * j))) := by simp [part, h]
  rw [h1, UInt8.toNat_ofNat']
  have := Nat.mod_le (l[j]?.getD 0).toNat (2 ^ (min 8 (i - 8 * j)))
  omega
/-- The byte that bit i lies in, behind it. -/
theorem part_at (l : List UInt8) {i : Nat} (h : i < 8 * l.length) : ((part l (i + 1))[i / 8]?.getD 0).toNat = ((part l i)[i / 8]?.getD 0).toNat + (if bt l i then 2 ^ (i % 8) else 0) := by
  rw [part_get l (by omega), part_get l (by omega)]
  have e1 : min 8 (i + 1 - 8 * (i / 8)) = i % 8 + 1 := by omega
  have e2 : min 8 (i - 8 * (i / 8)) = i % 8 := by omega
  rw [e1, e2, Nat.mod_pow_succ]
  unfold bt
  rw [bit_div]
  rcases Nat.mod_two_eq_zero_or_one ((l[i / 8]?.getD 0).toNat / 2 ^ (i % 8)) with h | h <;> simp [h]
theorem part_other (l : List UInt8) {i j : Nat} (h : j ≠ i / 8) : (part l (i + 1))[j]? = (part l i)[j]? := by
  by_cases hj : j < l.length
  · have e : min 8 (i + 1 - 8 * j) = min 8 (i - 8 * j) := by omega
    simp [part, hj, e]
  · rw [List.getElem?_eq_none (by rw [part_length]; omega), List.getElem?_eq_none (by rw [part_length]; omega)]
theorem part_same (l : List UInt8) {i : Nat} (h : i < 8 * l.length) (hb : bt l i = false) : part l (i + 1) = part l i := by
  apply List.ext_getElem?
  intro j
  by_cases hj : j = i / 8
  · subst hj
    have hl : i / 8 < l.length := by omega
    have := part_at l h
    rw [hb] at this
    have e : (part l (i + 1))[i / 8]?.getD 0 = (part l i)[i / 8]?.getD 0 := UInt8.toNat_inj.1 (by simpa using this)
    rw [List.getElem?_eq_getElem (by rw [part_length]; exact hl), List.getElem?_eq_getElem (by rw [part_length]; exact hl)] at e ⊢
    simpa using e
  · exact part_other l hj
theorem part_set (l : List UInt8) {i : Nat} (h : i < 8 * l.length) (hb : bt l i = true) : part l (i + 1) = (part l i).set (i / 8) (UInt8.ofNat (((part l i)[i / 8]?.getD 0).toNat + 2 ^ (i % 8))) := by
  apply List.ext_getElem?
  intro j
  rw [List.getElem?_set]
  by_cases hj : j = i / 8
  · subst hj
    have hl : i / 8 < l.length := by omega
    have := part_at l h
    rw [hb, if_pos rfl] at this
    rw [if_pos rfl, if_pos (by rw [part_length]; exact hl), ← this, UInt8.ofNat_toNat, List.getElem?_eq_getElem (by rw [part_length]; exact hl)]
    rfl
  · rw [if_neg (Ne.symm hj), part_other l hj]
end Go.Proofs.Ytffoghalhbpplaa
