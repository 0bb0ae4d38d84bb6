/- The plain mathematics of nodes: a node as 32 bytes, what 32 bytes say, a piece of a sector. Nothing of the program is named here. -/
import Derived.Test.YtijphembfohfnaaFPlain
namespace Go.Proofs.Ytijphembfohfnaa
set_option linter.unusedVariables false

/-- A node: any numbers. -/
structure Nd where
  k : Int
  l : Int
  g : Int
  s : Int
  c : Int
  d0 : Int
  d1 : Int
  d2 : Int
  d3 : Int
  o : Int
  t : Int
instance : DecidableEq Nd := fun x y => decidable_of_iff (x.k = y.k ∧ x.l = y.l ∧ x.g = y.g ∧ x.s = y.s ∧ x.c = y.c ∧ x.d0 = y.d0 ∧ x.d1 = y.d1 ∧ x.d2 = y.d2 ∧ x.d3 = y.d3 ∧ x.o = y.o ∧ x.t = y.t) (by cases x; cases y; simp)
/-- A node of numbers that are not below 0. -/
structure Nn where
  k : Nat
  l : Nat
  g : Nat
  s : Nat
  c : Nat
  d0 : Nat
  d1 : Nat
  d2 : Nat
  d3 : Nat
  o : Nat
  t : Nat
def Nn.up (x : Nn) : Nd := ⟨x.k, x.l, x.g, x.s, x.c, x.d0, x.d1, x.d2, x.d3, x.o, x.t⟩
def zeroN : Nn := ⟨0, 0, 0, 0, 0, 0, 0, 0, 0, 0, 0⟩
theorem Nn.up_inj {x y : Nn} (h : x.up = y.up) : x = y := by
  cases x; cases y
  simp only [Nn.up, Nd.mk.injEq] at h
  simp only [Nn.mk.injEq]
  omega
/-- May a number be a pointer? -/
def ptr (n : Int) : Bool := decide (n = 0 ∨ (43 ≤ n ∧ n ≤ 1023))
theorem ptr_iff {n : Int} : ptr n = true ↔ n = 0 ∨ (43 ≤ n ∧ n ≤ 1023) := by simp [ptr]
theorem ptr_not {n : Int} : ptr n = false ↔ ¬ (n = 0 ∨ (43 ≤ n ∧ n ≤ 1023)) := by simp [ptr]
/-- All six. -/
def Nd.ptrs (x : Nd) : Bool := ptr x.d0 && ptr x.d1 && ptr x.d2 && ptr x.d3 && ptr x.o && ptr x.t
def Nd.none_ (x : Nd) : Bool := decide (x.d0 = 0 ∧ x.d1 = 0 ∧ x.d2 = 0 ∧ x.d3 = 0 ∧ x.o = 0 ∧ x.t = 0)
/-- Gen, Change, Size. -/
def Nd.nums (x : Nd) : Bool := decide (0 ≤ x.g ∧ x.g ≤ 1073741824 ∧ 0 ≤ x.c ∧ x.c ≤ 1073741824)
def Nd.kind (x : Nd) : Bool := decide ((x.k = 0 ∧ x.l = 0 ∧ x.s = 0 ∧ x.none_ = true) ∨ (x.k = 1 ∧ 1 ≤ x.l ∧ x.l ≤ 255 ∧ 0 ≤ x.s ∧ x.s ≤ 9728) ∨ (x.k = 2 ∧ x.l = 1 ∧ 0 ≤ x.s ∧ x.s ≤ 9728 ∧ x.s % 32 = 0))
/-- Is it sound? -/
def Nd.ok (x : Nd) : Bool := x.nums && x.ptrs && x.kind
theorem Nd.ok_iff {x : Nd} : x.ok = true ↔ x.nums = true ∧ x.ptrs = true ∧ x.kind = true := by simp [Nd.ok, and_assoc]
theorem Nd.ok_nat {x : Nd} (h : x.ok = true) : ∃ y : Nn, x = y.up ∧ y.k < 256 ∧ y.l < 256 ∧ y.g < 4294967296 ∧ y.s < 4294967296 ∧ y.c < 4294967296 ∧ y.d0 < 1024 ∧ y.d1 < 1024 ∧ y.d2 < 1024 ∧ y.d3 < 1024 ∧ y.o < 1024 ∧ y.t < 1024 := by
  obtain ⟨h1, h2, h3⟩ := Nd.ok_iff.1 h
  simp only [Nd.nums, decide_eq_true_eq] at h1
  simp only [Nd.ptrs, Bool.and_eq_true, ptr_iff] at h2
  simp only [Nd.kind, decide_eq_true_eq] at h3
  refine ⟨⟨x.k.toNat, x.l.toNat, x.g.toNat, x.s.toNat, x.c.toNat, x.d0.toNat, x.d1.toNat, x.d2.toNat, x.d3.toNat, x.o.toNat, x.t.toNat⟩, ?_, ?_⟩
  · cases x
    simp only [Nn.up, Nd.mk.injEq] at h1 h2 h3 ⊢
    omega
  · simp only
    omega
/-- Do the numbers go into their bytes? -/
structure Nn.Fits (y : Nn) : Prop where
  k : y.k < 256
  l : y.l < 256
  g : y.g < 4294967296
  s : y.s < 4294967296
  c : y.c < 4294967296
  d0 : y.d0 < 65536
  d1 : y.d1 < 65536
  d2 : y.d2 < 65536
  d3 : y.d3 < 65536
  o : y.o < 65536
  t : y.t < 65536
theorem Nn.fits {y : Nn} (h : y.up.ok = true) : y.Fits := by
  obtain ⟨z, e, h0, h1, h2, h3, h4, h5, h6, h7, h8, h9, h10⟩ := Nd.ok_nat h
  obtain rfl := Nn.up_inj e
  exact ⟨h0, h1, h2, h3, h4, by omega, by omega, by omega, by omega, by omega, by omega⟩
/-- The numbers of a node, its head. -/
def Nn.head (y : Nn) : List UInt8 := [UInt8.ofNat y.k, UInt8.ofNat y.l]
def Nn.nums3 (y : Nn) : Nat → Nat
  | 0 => y.g
  | 1 => y.s
  | _ => y.c
def Nn.ptr6 (y : Nn) : Nat → Nat
  | 0 => y.d0
  | 1 => y.d1
  | 2 => y.d2
  | 3 => y.d3
  | 4 => y.o
  | _ => y.t
/-- The bytes, k of the three numbers in. -/
def Nn.part (y : Nn) : Nat → List UInt8
  | 0 => y.head
  | k + 1 => y.part k ++ F.lit 4 (y.nums3 k)
/-- The bytes, k of the six pointers in. -/
def Nn.parp (y : Nn) : Nat → List UInt8
  | 0 => y.part 3
  | k + 1 => y.parp k ++ F.lit 2 (y.ptr6 k)
/-- A node's bytes. -/
def Nn.img (y : Nn) : List UInt8 := y.parp 6 ++ List.replicate 6 0
theorem Nn.part_len (y : Nn) (k : Nat) : (y.part k).length = 2 + 4 * k := by
  induction k with
  | zero => rfl
  | succ k ih => simp [Nn.part, ih, F.lit_length]; omega
theorem Nn.parp_len (y : Nn) (k : Nat) : (y.parp k).length = 14 + 2 * k := by
  induction k with
  | zero => exact y.part_len 3
  | succ k ih => simp [Nn.parp, ih, F.lit_length]; omega
theorem Nn.img_len (y : Nn) : y.img.length = 32 := by simp [Nn.img, Nn.parp_len]
theorem Nn.img_eq (y : Nn) : y.img = F.lit 1 y.k ++ F.lit 1 y.l ++ F.lit 4 y.g ++ F.lit 4 y.s ++ F.lit 4 y.c ++ F.lit 2 y.d0 ++ F.lit 2 y.d1 ++ F.lit 2 y.d2 ++ F.lit 2 y.d3 ++ F.lit 2 y.o ++ F.lit 2 y.t ++ List.replicate 6 0 := rfl
/-- A number of two bytes, where it lies. -/
def num2 (b : List UInt8) (i : Nat) : Nat := (b[14 + 2 * i]?.getD 0).toNat + 256 * (b[14 + 2 * i + 1]?.getD 0).toNat
def num4 (b : List UInt8) (i : Nat) : Nat := F.big ((b.drop (2 + 4 * i)).take 4)
/-- What bytes say. -/
def rd (b : List UInt8) : Nn := ⟨(b[0]?.getD 0).toNat, (b[1]?.getD 0).toNat, num4 b 0, num4 b 1, num4 b 2, num2 b 0, num2 b 1, num2 b 2, num2 b 3, num2 b 4, num2 b 5⟩
theorem num2_lt (b : List UInt8) (i : Nat) : num2 b i < 65536 := by
  have h1 := (b[14 + 2 * i]?.getD 0).toNat_lt
  have h2 := (b[14 + 2 * i + 1]?.getD 0).toNat_lt
  unfold num2
  omega
theorem num4_lt (b : List UInt8) (i : Nat) : num4 b i < 4294967296 := by
  have h := F.big_lt ((b.drop (2 + 4 * i)).take 4)
  have h2 : ((b.drop (2 + 4 * i)).take 4).length ≤ 4 := by simp; omega
  have h3 : 256 ^ ((b.drop (2 + 4 * i)).take 4).length ≤ 256 ^ 4 := Nat.pow_le_pow_right (by omega) h2
  unfold num4
  omega
theorem rd_fits (b : List UInt8) : (rd b).Fits :=
  ⟨UInt8.toNat_lt _, UInt8.toNat_lt _, num4_lt b 0, num4_lt b 1, num4_lt b 2, num2_lt b 0, num2_lt b 1, num2_lt b 2, num2_lt b 3, num2_lt b 4, num2_lt b 5⟩
theorem rd_img {y : Nn} (h : y.Fits) (z : List UInt8) : rd (y.parp 6 ++ z) = y := by
  obtain ⟨h0, h1, h2, h3, h4, h5, h6, h7, h8, h9, h10⟩ := h
  cases y
  simp only at h0 h1 h2 h3 h4 h5 h6 h7 h8 h9 h10
  simp [rd, num2, num4, Nn.parp, Nn.part, Nn.head, Nn.nums3, Nn.ptr6, F.lit, F.big]
  omega
theorem img_rd {b : List UInt8} (h : b.length = 32) : (rd b).img = b.take 26 ++ List.replicate 6 0 := by
  have h1 : ∀ a, F.lit 1 a.toNat = [a] := fun a => by simp [F.lit]
  have h2 : ∀ a b : UInt8, F.lit 2 (a.toNat + 256 * b.toNat) = [a, b] := fun a b => by
    have := F.lit_big [a, b]
    simpa [F.big] using this
  have h4 : ∀ a b c d, F.lit 4 (F.big [a, b, c, d]) = [a, b, c, d] := fun a b c d => F.lit_big [a, b, c, d]
  match b, h with
  | [b0, b1, b2, b3, b4, b5, b6, b7, b8, b9, b10, b11, b12, b13, b14, b15, b16, b17, b18, b19, b20, b21, b22, b23, b24, b25, b26, b27, b28, b29, b30, b31], _ =>
    rw [Nn.img_eq]
    show F.lit 1 b0.toNat ++ F.lit 1 b1.toNat ++ F.lit 4 (F.big [b2, b3, b4, b5]) ++ F.lit 4 (F.big [b6, b7, b8, b9]) ++ F.lit 4 (F.big [b10, b11, b12, b13]) ++ F.lit 2 (b14.toNat + 256 * b15.toNat) ++ F.lit 2 (b16.toNat + 256 * b17.toNat) ++ F.lit 2 (b18.toNat + 256 * b19.toNat) ++ F.lit 2 (b20.toNat + 256 * b21.toNat) ++ F.lit 2 (b22.toNat + 256 * b23.toNat) ++ F.lit 2 (b24.toNat + 256 * b25.toNat) ++ List.replicate 6 0 = _
    simp only [h1, h2, h4]
    rfl
theorem img_inj {x y : Nn} (hx : x.Fits) (hy : y.Fits) (h : x.img = y.img) : x = y := by
  rw [← rd_img hx (List.replicate 6 0), ← rd_img hy (List.replicate 6 0)]
  exact congrArg rd h
/-- A sector with bytes in the i-th place. -/
def put (b : List UInt8) (i : Nat) (p : List UInt8) : List UInt8 := b.take (32 * i) ++ p ++ b.drop (32 * i + 32)
/-- The bytes in the i-th place. -/
def piece (b : List UInt8) (i : Nat) : List UInt8 := (b.drop (32 * i)).take 32
theorem put_len {b p : List UInt8} {i : Nat} (hb : b.length = 128) (hi : i < 4) (hp : p.length = 32) : (put b i p).length = 128 := by
  simp [put, hb, hp]; omega
theorem piece_len {b : List UInt8} {i : Nat} (hb : b.length = 128) (hi : i < 4) : (piece b i).length = 32 := by
  simp [piece, hb]; omega
theorem piece_put {b p : List UInt8} {i : Nat} (hb : b.length = 128) (hi : i < 4) (hp : p.length = 32) : piece (put b i p) i = p := by
  have h1 : (b.take (32 * i)).length = 32 * i := by simp [hb]; omega
  unfold piece put
  rw [List.append_assoc, List.drop_append_of_le_length (by omega), List.drop_of_length_le (by omega), List.nil_append, List.take_append_of_le_length (by omega), List.take_of_length_le (by omega)]
theorem piece_put_ne {b p : List UInt8} {i j : Nat} (hb : b.length = 128) (hi : i < 4) (hj : j < 4) (hp : p.length = 32) (hn : i ≠ j) : piece (put b i p) j = piece b j := by
  apply List.ext_getElem?
  intro n
  unfold piece put
  simp only [List.getElem?_take, List.getElem?_drop]
  split
  · rename_i hn'
    by_cases hlt : i < j
    · rw [List.getElem?_append_right (by simp [hb, hp]; omega)]
      simp [hb, hp]
      congr 1
      omega
    · rw [List.append_assoc, List.getElem?_append_left (by simp [hb]; omega)]
      simp [List.getElem?_take]
      omega
  · rfl
theorem put_inj {b p q : List UInt8} {i : Nat} (hb : b.length = 128) (hi : i < 4) (hp : p.length = 32) (hq : q.length = 32) (h : put b i p = put b i q) : p = q := by
  rw [← piece_put hb hi hp, h, piece_put hb hi hq]
/-- What Get tells of 32 bytes: is it a node? -/
def good (p : List UInt8) : Bool := (rd p).up.ok && decide ((rd p).img = p)
theorem good_img {y : Nn} (h : y.up.ok = true) : good y.img = true ∧ rd y.img = y := by
  have e : rd y.img = y := rd_img (Nn.fits h) _
  refine ⟨?_, e⟩
  simp [good, e, h]
/-- A byte turned behind a node's fields. -/
theorem good_turn {y : Nn} (h : y.up.ok = true) {a : Nat} (ha : a < 6) (x : UInt8) : good (y.img.set (26 + a) x) = decide (x = 0) := by
  have hl := y.parp_len 6
  have e1 : y.img.set (26 + a) x = y.parp 6 ++ (List.replicate 6 0).set a x := by
    unfold Nn.img
    rw [List.set_append_right _ _ (by omega), hl]
    congr 2
    omega
  have e2 : rd (y.img.set (26 + a) x) = y := by rw [e1]; exact rd_img (Nn.fits h) _
  unfold good
  rw [e2, h, Bool.true_and, decide_eq_decide, e1]
  unfold Nn.img
  constructor
  · intro e
    have e' := List.append_cancel_left e
    have : (List.replicate 6 (0 : UInt8))[a]? = ((List.replicate 6 (0 : UInt8)).set a x)[a]? := by rw [← e']
    rw [List.getElem?_set_self (by simpa using ha), List.getElem?_replicate, if_pos ha] at this
    exact (Option.some.inj this).symm
  · rintro rfl
    congr 1
    apply List.ext_getElem?
    intro n
    rw [List.getElem?_set]
    split
    · rename_i e; subst e; rw [if_pos (by simpa using ha), List.getElem?_replicate, if_pos ha]
    · rfl
end Go.Proofs.Ytijphembfohfnaa
