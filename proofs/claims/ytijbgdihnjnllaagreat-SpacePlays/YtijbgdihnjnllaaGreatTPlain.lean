/- Ways, pointers and parts, in plain mathematics. -/
namespace Go.Proofs.YtijbgdihnjnllaaGreat.T

/-- The way to block n. -/
def route (n : Nat) : List Int :=
  if n < 4 then [(n : Int)] else if n < 12 then [4, (n : Int) - 4] else [5, ((n : Int) - 12) / 8, ((n : Int) - 12) % 8]
def routes (k : Nat) : List (List Int) := (List.range k).map route
theorem route_one {k : Nat} (h : k < 4) : route k = [(k : Int)] := if_pos h
theorem route_two {k : Nat} (h : k < 8) : route (4 + k) = [4, (k : Int)] := by
  unfold route
  rw [if_neg (by omega), if_pos (by omega)]
  congr 2
  omega
theorem route_three {i k : Nat} (hi : i < 8) (hk : k < 8) : route (12 + 8 * i + k) = [5, (i : Int), (k : Int)] := by
  unfold route
  rw [if_neg (by omega), if_neg (by omega)]
  congr 2
  · omega
  · congr 1
    omega

/-- May it be a pointer? -/
def okp (n : Int) : Bool := decide (n = 0 ∨ 43 ≤ n ∧ n < 1024)
theorem okp_iff {n : Int} : okp n = true ↔ n = 0 ∨ 43 ≤ n ∧ n < 1024 := by simp [okp]
def okl (l : List Int) : Bool := decide (l.length = 8) && l.all okp
theorem okl_iff {l : List Int} : okl l = true ↔ l.length = 8 ∧ ∀ x ∈ l, okp x = true := by simp [okl]
def lo (x : Int) : UInt8 := UInt8.ofNat (x % 256).toNat
theorem lo_nat (x : Int) : ((lo x).toNat : Int) = x % 256 := by
  unfold lo
  rw [UInt8.toNat_ofNat']
  omega
def z128 : List UInt8 := List.replicate 128 0
/-- One pointer more. -/
def lay1 (b : List UInt8) (k : Nat) (x : Int) : List UInt8 := (b.set (2 * k) (lo x)).set (2 * k + 1) (lo (x / 256))
/-- The sector, when k pointers are written. -/
def encS (l : List Int) : Nat → List UInt8
  | 0 => z128
  | k + 1 => lay1 (encS l k) k (l[k]?.getD 0)
theorem encS_len (l : List Int) (k : Nat) : (encS l k).length = 128 := by
  induction k with
  | zero => simp [encS, z128]
  | succ k ih => simp [encS, lay1, ih]
def num (b : List UInt8) (j : Nat) : Int := ((b[2 * j]?.getD 0).toNat + 256 * (b[2 * j + 1]?.getD 0).toNat : Nat)
def dec (b : List UInt8) : List Int := (List.range 8).map (num b)
theorem dec_len (b : List UInt8) : (dec b).length = 8 := by simp [dec]
theorem num_of {b : List UInt8} {j : Nat} {x : Int} (h1 : b[2 * j]?.getD 0 = lo x) (h2 : b[2 * j + 1]?.getD 0 = lo (x / 256)) (hx : okp x = true) : num b j = x := by
  have h := okp_iff.1 hx
  have e1 := lo_nat x
  have e2 := lo_nat (x / 256)
  unfold num
  rw [h1, h2]
  omega
theorem encS_get (l : List Int) {k i : Nat} (hk : k ≤ 64) (hi : i < k) : (encS l k)[2 * i]?.getD 0 = lo (l[i]?.getD 0) ∧ (encS l k)[2 * i + 1]?.getD 0 = lo (l[i]?.getD 0 / 256) := by
  induction k with
  | zero => omega
  | succ k ih =>
    have hl := encS_len l k
    unfold encS lay1
    by_cases e : i = k
    · subst e
      rw [List.getElem?_set_ne (by omega), List.getElem?_set_self (by omega), List.getElem?_set_self (by rw [List.length_set]; omega)]
      exact ⟨rfl, rfl⟩
    · rw [List.getElem?_set_ne (by omega), List.getElem?_set_ne (by omega), List.getElem?_set_ne (by omega), List.getElem?_set_ne (by omega)]
      exact ih (by omega) (by omega)
theorem dec_enc {l : List Int} (h : okl l = true) : dec (encS l 8) = l := by
  obtain ⟨hl, ho⟩ := okl_iff.1 h
  apply List.ext_getElem?
  intro i
  by_cases hi : i < 8
  · obtain ⟨h1, h2⟩ := encS_get l (k := 8) (i := i) (by omega) hi
    have hg : l[i]? = some (l[i]?.getD 0) := by rw [List.getElem?_eq_getElem (by omega)]; rfl
    have := num_of h1 h2 (ho _ (List.mem_of_getElem? hg))
    rw [hg, dec, List.getElem?_map, List.getElem?_range hi, Option.map_some, this]
  · rw [List.getElem?_eq_none (by rw [dec_len]; omega), List.getElem?_eq_none (by omega)]
/-- The pointers that bytes are, if they are. -/
def isPt (b : List UInt8) : Option (List Int) := if b.length = 128 ∧ okl (dec b) = true ∧ encS (dec b) 8 = b then some (dec b) else none
theorem isPt_enc {l : List Int} (h : okl l = true) : isPt (encS l 8) = some l := by
  unfold isPt
  rw [dec_enc h, if_pos ⟨encS_len l 8, h, rfl⟩]
/-- How many blocks. -/
def blocks (n : Int) : Int := if n < 1 then 0 else (n - 1) / 128 + 1
/-- How many parts. -/
def np (a s : Nat) : Nat := if s = 0 then 0 else (a + s - 1) / 128 + 1 - a / 128
def pb (a k : Nat) : Int := (a / 128 + k : Nat)
def pf (a k : Nat) : Int := max ((a : Int) - 128 * pb a k) 0
def pt (a s k : Nat) : Int := min ((a : Int) + s - 128 * pb a k) 128
/-- How many bytes the first k parts have. -/
def upto (a s k : Nat) : Int := if k = 0 then 0 else min ((a : Int) + s) ((a / 128 + k : Nat) * 128) - a
theorem np_le {a s : Nat} (h : a + s ≤ 9728 ∨ s = 0) : np a s ≤ 76 := by
  unfold np
  split <;> omega
end Go.Proofs.YtijbgdihnjnllaaGreat.T
