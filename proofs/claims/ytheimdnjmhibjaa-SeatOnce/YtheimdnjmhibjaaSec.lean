/- The sector of a seat, in plain mathematics: what is sound, its bytes, what bytes say; a turned bit is told. Nothing of the program is named here. -/
import Derived.Test.YtheimdnjmhibjaaFBurst
namespace Go.Proofs.Ytheimdnjmhibjaa
open F

/-- It is sound: the two numbers, and the length of the reply. -/
def ok (a b : Int) (m : Nat) : Bool := decide (0 ≤ a ∧ a ≤ 1073741824 ∧ 0 ≤ b ∧ b ≤ 1073741824 ∧ m ≤ 96)
theorem ok_iff {a b : Int} {m : Nat} : ok a b m = true ↔ 0 ≤ a ∧ a ≤ 1073741824 ∧ 0 ≤ b ∧ b ≤ 1073741824 ∧ m ≤ 96 := by simp [ok]
theorem ok_not {a b : Int} {m : Nat} (h : ¬ (0 ≤ a ∧ a ≤ 1073741824 ∧ 0 ≤ b ∧ b ≤ 1073741824 ∧ m ≤ 96)) : ok a b m = false := by simpa [ok] using h
theorem toNats {a b : Int} {m : Nat} (h : ok a b m = true) : ∃ x y : Nat, a = x ∧ b = y ∧ x ≤ 1073741824 ∧ y ≤ 1073741824 ∧ m ≤ 96 := by
  obtain ⟨_, _, _, _, _⟩ := ok_iff.1 h
  exact ⟨a.toNat, b.toNat, by omega, by omega, by omega, by omega, by omega⟩
/-- The bytes of the sign and of k numbers. -/
def part (a b : Nat) : Nat → List UInt8
  | 0 => [83, 69, 65, 84]
  | 1 => [83, 69, 65, 84] ++ lit 4 a
  | _ => [83, 69, 65, 84] ++ lit 4 a ++ lit 4 b
/-- With the length. -/
def part3 (a b m : Nat) : List UInt8 := part a b 2 ++ [UInt8.ofNat m]
/-- With the reply. -/
def part4 (a b : Nat) (r : List UInt8) : List UInt8 := part3 a b r.length ++ r
/-- All that the sum is of. -/
def pre (a b : Nat) (r : List UInt8) : List UInt8 := part4 a b r ++ List.replicate (111 - r.length) 0
/-- The sector. -/
def sec (a b : Nat) (r : List UInt8) : List UInt8 := pre a b r ++ lit 4 (crc (pre a b r))
theorem part_len (a b k : Nat) (hk : k ≤ 2) : (part a b k).length = 4 + 4 * k := by
  match k, hk with
  | 0, _ => rfl
  | 1, _ => simp [part, lit_length]
  | 2, _ => simp [part, lit_length]
theorem part3_len (a b m : Nat) : (part3 a b m).length = 13 := by unfold part3; rw [List.length_append, part_len _ _ _ (Nat.le_refl _)]; simp
theorem part4_len (a b : Nat) (r : List UInt8) : (part4 a b r).length = 13 + r.length := by unfold part4; rw [List.length_append, part3_len]
theorem pre_len (a b : Nat) {r : List UInt8} (h : r.length ≤ 96) : (pre a b r).length = 124 := by unfold pre; rw [List.length_append, part4_len]; simp; omega
theorem sec_len (a b : Nat) {r : List UInt8} (h : r.length ≤ 96) : (sec a b r).length = 128 := by unfold sec; rw [List.length_append, pre_len a b h, lit_length]
/-- The number at a place of bytes; the length that they tell; the reply. -/
def num (b : List UInt8) (i : Nat) : Nat := big ((b.drop (4 + 4 * i)).take 4)
def len (b : List UInt8) : Nat := (b[12]?.getD 0).toNat
def rep (b : List UInt8) : List UInt8 := (b.drop 13).take (len b)
theorem num_lt (b : List UInt8) (i : Nat) : num b i < 4294967296 := by
  have h := big_lt ((b.drop (4 + 4 * i)).take 4)
  have h2 : ((b.drop (4 + 4 * i)).take 4).length ≤ 4 := by rw [List.length_take]; omega
  have h3 : 256 ^ ((b.drop (4 + 4 * i)).take 4).length ≤ 256 ^ 4 := Nat.pow_le_pow_right (by omega) h2
  unfold num
  omega
theorem len_lt (b : List UInt8) : len b < 256 := UInt8.toNat_lt _
theorem rep_len {b : List UInt8} (hb : b.length = 128) (h : len b ≤ 96) : (rep b).length = len b := by unfold rep; rw [List.length_take, List.length_drop]; omega
theorem take4 (n : Nat) (r : List UInt8) : (lit 4 n ++ r).take 4 = lit 4 n := List.take_left' (lit_length 4 n)
theorem num_at {p r : List UInt8} {n i : Nat} (hp : p.length = 4 + 4 * i) (hn : n < 4294967296) : num (p ++ (lit 4 n ++ r)) i = n := by
  unfold num
  rw [List.drop_left' hp, take4, big_lit]
  exact Nat.mod_eq_of_lt hn
theorem num_sec0 (a b : Nat) (r : List UInt8) (h : a < 4294967296) : num (sec a b r) 0 = a := by
  have e : sec a b r = part a b 0 ++ (lit 4 a ++ (lit 4 b ++ ([UInt8.ofNat r.length] ++ (r ++ (List.replicate (111 - r.length) 0 ++ lit 4 (crc (pre a b r))))))) := by simp [sec, pre, part4, part3, part]
  rw [e]
  exact num_at (part_len _ _ 0 (by omega)) h
theorem num_sec1 (a b : Nat) (r : List UInt8) (h : b < 4294967296) : num (sec a b r) 1 = b := by
  have e : sec a b r = part a b 1 ++ (lit 4 b ++ ([UInt8.ofNat r.length] ++ (r ++ (List.replicate (111 - r.length) 0 ++ lit 4 (crc (pre a b r)))))) := by simp [sec, pre, part4, part3, part]
  rw [e]
  exact num_at (part_len _ _ 1 (by omega)) h
theorem len_sec (a b : Nat) {r : List UInt8} (h : r.length ≤ 96) : len (sec a b r) = r.length := by
  have e : sec a b r = part a b 2 ++ ([UInt8.ofNat r.length] ++ (r ++ (List.replicate (111 - r.length) 0 ++ lit 4 (crc (pre a b r))))) := by simp [sec, pre, part4, part3, part]
  have hl : (part a b 2).length = 12 := part_len _ _ 2 (by omega)
  unfold len
  rw [e, List.getElem?_append_right (by omega), hl]
  simp
  omega
theorem rep_sec (a b : Nat) {r : List UInt8} (h : r.length ≤ 96) : rep (sec a b r) = r := by
  have e : sec a b r = part3 a b r.length ++ (r ++ (List.replicate (111 - r.length) 0 ++ lit 4 (crc (pre a b r)))) := by simp [sec, pre, part4]
  unfold rep
  rw [len_sec a b h, e, List.drop_left' (part3_len _ _ _), List.take_left' rfl]
/-- Bytes that are a sector: what they say. -/
def IsSec (b : List UInt8) : Prop := b.length = 128 ∧ len b ≤ 96 ∧ ok (num b 0) (num b 1) (len b) = true ∧ b = sec (num b 0) (num b 1) (rep b)
theorem isSec_sec {a b : Nat} {r : List UInt8} (h : ok a b r.length = true) : IsSec (sec a b r) := by
  obtain ⟨_, _, _, _, h96⟩ := ok_iff.1 h
  have e0 := num_sec0 a b r (by omega)
  have e1 := num_sec1 a b r (by omega)
  have e2 := len_sec a b h96
  have e3 := rep_sec a b h96
  refine ⟨sec_len _ _ h96, by omega, ?_, ?_⟩
  · rw [e0, e1, e2]; exact h
  · rw [e0, e1, e3]
theorem sec_inj {a b a' b' : Nat} {r r' : List UInt8} (h : ok a b r.length = true) (h' : ok a' b' r'.length = true) (e : sec a b r = sec a' b' r') : a = a' ∧ b = b' ∧ r = r' := by
  obtain ⟨_, _, _, _, h96⟩ := ok_iff.1 h
  obtain ⟨_, _, _, _, h96'⟩ := ok_iff.1 h'
  have e0 := num_sec0 a b r (by omega)
  have e1 := num_sec1 a b r (by omega)
  have e2 := rep_sec a b h96
  rw [e] at e0 e1 e2
  rw [num_sec0 _ _ _ (by omega)] at e0
  rw [num_sec1 _ _ _ (by omega)] at e1
  rw [rep_sec _ _ h96'] at e2
  exact ⟨e0.symm, e1.symm, e2.symm⟩
theorem whole_sec (a b : Nat) {r : List UInt8} (h : r.length ≤ 96) : Whole (sec a b r) := by
  unfold Whole
  rw [sec_len a b h]
  unfold sec
  rw [List.drop_left' (by rw [pre_len a b h]), List.take_left' (by rw [pre_len a b h]), big_lit]
  exact Nat.mod_eq_of_lt (crc_lt _)
/-- A sector of which a bit is turned is none. -/
theorem turned {a b p : Nat} {r : List UInt8} (h96 : r.length ≤ 96) (hp : p < 1024) : ¬ IsSec ((sec a b r).set (p / 8) (((sec a b r)[p / 8]?.getD 0) ^^^ UInt8.ofNat (2 ^ (p % 8)))) := by
  have hl := sec_len a b h96
  have he := big_turn (sec a b r) p (by omega)
  generalize hX : (sec a b r).set (p / 8) (((sec a b r)[p / 8]?.getD 0) ^^^ UInt8.ofNat (2 ^ (p % 8))) = X at *
  intro h
  have hr := rep_len h.1 h.2.1
  have hw := whole_sec (num X 0) (num X 1) (r := rep X) (by have := h.2.1; omega)
  rw [← h.2.2.2] at hw
  refine burst_told (l := sec a b r) (l' := X) (k := p) (burst := 1) (by omega) (by rw [← hX]; simp) (by omega) (by omega) (by omega) (whole_sec a b h96) ?_ hw
  rw [he, Nat.one_mul]
/-- What becomes of a request. -/
def fate (a b : Int) (hello : Bool) (life seq : Int) : Int :=
  if life < 1 ∨ 1073741824 < life ∨ seq < 0 ∨ 1073741824 < seq then 0
  else if life = a ∧ seq = b then 2
  else if hello = true ∧ a < life then 3
  else if hello = false ∧ life = a ∧ b < seq then 1
  else 0
end Go.Proofs.Ytheimdnjmhibjaa
