/- The sector of a beginning, in plain mathematics: what is sound, its bytes, what bytes say; a turned bit is told. Nothing of the program is named here. -/
import Derived.Test.YtbcomdjliioljaaFBurst
namespace Go.Proofs.Ytbcomdjliioljaa
open F

/-- It is sound. -/
def ok (a b c : Int) : Bool := decide (64 ≤ a ∧ a ≤ 1024 ∧ 0 ≤ b ∧ b ≤ 1073741824 ∧ 0 ≤ c ∧ c ≤ 1073741824)
theorem ok_iff {a b c : Int} : ok a b c = true ↔ 64 ≤ a ∧ a ≤ 1024 ∧ 0 ≤ b ∧ b ≤ 1073741824 ∧ 0 ≤ c ∧ c ≤ 1073741824 := by simp [ok]
theorem ok_not {a b c : Int} (h : ¬ (64 ≤ a ∧ a ≤ 1024 ∧ 0 ≤ b ∧ b ≤ 1073741824 ∧ 0 ≤ c ∧ c ≤ 1073741824)) : ok a b c = false := by simpa [ok] using h
/-- The bytes ahead of the noughts, when k numbers are written. -/
def part (a b c : Nat) : Nat → List UInt8
  | 0 => [67, 79, 80, 89]
  | 1 => [67, 79, 80, 89] ++ lit 4 a
  | 2 => [67, 79, 80, 89] ++ lit 4 a ++ lit 4 b
  | _ => [67, 79, 80, 89] ++ lit 4 a ++ lit 4 b ++ lit 4 c
/-- All that the sum is of. -/
def pre (a b c : Nat) : List UInt8 := part a b c 3 ++ List.replicate 108 0
/-- The sector. -/
def sec (a b c : Nat) : List UInt8 := pre a b c ++ lit 4 (crc (pre a b c))
theorem part_len (a b c k : Nat) (hk : k ≤ 3) : (part a b c k).length = 4 + 4 * k := by
  match k, hk with
  | 0, _ => rfl
  | 1, _ => simp [part, lit_length]
  | 2, _ => simp [part, lit_length]
  | 3, _ => simp [part, lit_length]
theorem pre_len (a b c : Nat) : (pre a b c).length = 124 := by unfold pre; rw [List.length_append, part_len _ _ _ _ (Nat.le_refl _)]; simp
theorem sec_len (a b c : Nat) : (sec a b c).length = 128 := by unfold sec; rw [List.length_append, pre_len, lit_length]
/-- The number at a place of bytes. -/
def num (b : List UInt8) (i : Nat) : Nat := big ((b.drop (4 + 4 * i)).take 4)
theorem num_lt (b : List UInt8) (i : Nat) : num b i < 4294967296 := by
  have h := big_lt ((b.drop (4 + 4 * i)).take 4)
  have h2 : ((b.drop (4 + 4 * i)).take 4).length ≤ 4 := by rw [List.length_take]; omega
  have h3 : 256 ^ ((b.drop (4 + 4 * i)).take 4).length ≤ 256 ^ 4 := Nat.pow_le_pow_right (by omega) h2
  unfold num
  omega
theorem take4 (n : Nat) (r : List UInt8) : (lit 4 n ++ r).take 4 = lit 4 n := List.take_left' (lit_length 4 n)
theorem num_at {p r : List UInt8} {n i : Nat} (hp : p.length = 4 + 4 * i) (hn : n < 4294967296) : num (p ++ (lit 4 n ++ r)) i = n := by
  unfold num
  rw [List.drop_left' hp, take4, big_lit]
  exact Nat.mod_eq_of_lt hn
theorem num_sec0 (a b c : Nat) (h : a < 4294967296) : num (sec a b c) 0 = a := by
  have e : sec a b c = part a b c 0 ++ (lit 4 a ++ (lit 4 b ++ (lit 4 c ++ (List.replicate 108 0 ++ lit 4 (crc (pre a b c)))))) := by simp [sec, pre, part]
  rw [e]
  exact num_at (part_len _ _ _ 0 (by omega)) h
theorem num_sec1 (a b c : Nat) (h : b < 4294967296) : num (sec a b c) 1 = b := by
  have e : sec a b c = part a b c 1 ++ (lit 4 b ++ (lit 4 c ++ (List.replicate 108 0 ++ lit 4 (crc (pre a b c))))) := by simp [sec, pre, part]
  rw [e]
  exact num_at (part_len _ _ _ 1 (by omega)) h
theorem num_sec2 (a b c : Nat) (h : c < 4294967296) : num (sec a b c) 2 = c := by
  have e : sec a b c = part a b c 2 ++ (lit 4 c ++ (List.replicate 108 0 ++ lit 4 (crc (pre a b c)))) := by simp [sec, pre, part]
  rw [e]
  exact num_at (part_len _ _ _ 2 (by omega)) h
/-- Bytes that are a sector: what they say. -/
def IsSec (b : List UInt8) : Prop := b.length = 128 ∧ ok (num b 0) (num b 1) (num b 2) = true ∧ b = sec (num b 0) (num b 1) (num b 2)
theorem isSec_sec {a b c : Nat} (h : ok a b c = true) : IsSec (sec a b c) := by
  obtain ⟨_, _, _, _, _, _⟩ := ok_iff.1 h
  have e0 := num_sec0 a b c (by omega)
  have e1 := num_sec1 a b c (by omega)
  have e2 := num_sec2 a b c (by omega)
  refine ⟨sec_len _ _ _, ?_, ?_⟩
  · rw [e0, e1, e2]; exact h
  · rw [e0, e1, e2]
theorem sec_inj {a b c a' b' c' : Nat} (h : ok a b c = true) (h' : ok a' b' c' = true) (e : sec a b c = sec a' b' c') : a = a' ∧ b = b' ∧ c = c' := by
  obtain ⟨_, _, _, _, _, _⟩ := ok_iff.1 h
  obtain ⟨_, _, _, _, _, _⟩ := ok_iff.1 h'
  have e0 := num_sec0 a b c (by omega)
  have e1 := num_sec1 a b c (by omega)
  have e2 := num_sec2 a b c (by omega)
  rw [e] at e0 e1 e2
  rw [num_sec0 _ _ _ (by omega)] at e0
  rw [num_sec1 _ _ _ (by omega)] at e1
  rw [num_sec2 _ _ _ (by omega)] at e2
  exact ⟨e0.symm, e1.symm, e2.symm⟩
theorem whole_sec (a b c : Nat) : Whole (sec a b c) := by
  unfold Whole
  rw [sec_len]
  unfold sec
  rw [List.drop_left' (by rw [pre_len]), List.take_left' (by rw [pre_len]), big_lit]
  exact Nat.mod_eq_of_lt (crc_lt _)
/-- A sector of which a bit is turned is none. -/
theorem turned {a b c p : Nat} (hp : p < 1024) : ¬ IsSec ((sec a b c).set (p / 8) (((sec a b c)[p / 8]?.getD 0) ^^^ UInt8.ofNat (2 ^ (p % 8)))) := by
  intro h
  have hl := sec_len a b c
  have he := big_turn (sec a b c) p (by omega)
  have hw := whole_sec (num ((sec a b c).set (p / 8) (((sec a b c)[p / 8]?.getD 0) ^^^ UInt8.ofNat (2 ^ (p % 8)))) 0) (num ((sec a b c).set (p / 8) (((sec a b c)[p / 8]?.getD 0) ^^^ UInt8.ofNat (2 ^ (p % 8)))) 1) (num ((sec a b c).set (p / 8) (((sec a b c)[p / 8]?.getD 0) ^^^ UInt8.ofNat (2 ^ (p % 8)))) 2)
  rw [← h.2.2] at hw
  refine burst_told (l := sec a b c) (k := p) (burst := 1) (by omega) (by simp) (by omega) (by omega) (by omega) (whole_sec a b c) ?_ hw
  rw [he, Nat.one_mul]
end Go.Proofs.Ytbcomdjliioljaa
