/- strings.Cut and strings.CutPrefix at a /, walked. -/
import Derived.Test.YtkkfndilgoamkaaStrs
import Derived.Test.YtkkfndilgoamkaaShelf
import Derived.Laws.Strings3
namespace Go.Proofs.Ytkkfndilgoamkaa
open Go.RowKit
set_option linter.unusedVariables false

theorem index_no {l : List UInt8} (h : 47 ∉ l) : Lib.indexByte l 47 = -1 := by
  induction l with
  | nil => rfl
  | cons c r ih =>
    have h1 : c ≠ 47 := fun e => h (by simp [e])
    have h2 : 47 ∉ r := fun e => h (by simp [e])
    simp [Lib.indexByte, h1, ih h2]
theorem index_yes {p r : List UInt8} (h : 47 ∉ p) : Lib.indexByte (p ++ 47 :: r) 47 = p.length := by
  induction p with
  | nil => simp [Lib.indexByte]
  | cons c q ih =>
    have h1 : c ≠ 47 := fun e => h (by simp [e])
    have h2 : 47 ∉ q := fun e => h (by simp [e])
    have h3 : ¬ ((q.length : Int) = -1) := by omega
    simp [Lib.indexByte, h1, ih h2, h3]
theorem cut_parts (l : List UInt8) (h : 47 ∈ l) : ∃ p r, l = p ++ 47 :: r ∧ 47 ∉ p := by
  induction l with
  | nil => cases h
  | cons c q ih =>
    by_cases hc : c = 47
    · exact ⟨[], q, by simp [hc], by simp⟩
    · obtain ⟨p, r, e, hp⟩ := ih (by simpa [Ne.symm hc] using h)
      exact ⟨c :: p, r, by simp [e], by simp [Ne.symm hc, hp]⟩
set_option maxHeartbeats 1000000 in
theorem lcut_no (l : List UInt8) (w : World) (h : 47 ∉ l) : Calls Try.prog 29 #[.string (bs l), .string ⟨#[47]⟩] w fun e w' => e = .returned (.tuple #[.string (bs l), .string ⟨#[]⟩, .bool false]) ∧ Below w.heap.size w w' := by
  have HI : Hid (Lib.indexByte (bs l).data.toList 47 = -1) := index_no h
  clear h
  go_enter Try.func29, Try.ntmps29
  go_wp2_with (go_at_call 35; refine (Try.stringslite_Index_one _ _ _).mono ?_; rintro e w' ⟨rfl, rfl⟩; rw [HI.out])
  go_ret3
  exact ⟨rfl, Below.refl _ _⟩
set_option maxHeartbeats 1000000 in
theorem cut_no (l : List UInt8) (w : World) (h : 47 ∉ l) : Calls Try.prog 22 #[.string (bs l), .string ⟨#[47]⟩] w fun e w' => e = .returned (.tuple #[.string (bs l), .string ⟨#[]⟩, .bool false]) ∧ Below w.heap.size w w' := by
  go_enter Try.func22, Try.ntmps22
  go_wp2_with (go_at_call 29; refine (lcut_no _ _ h).mono ?_; rintro e w' ⟨rfl, hb⟩)
  go_ret3
  exact ⟨rfl, hb⟩
theorem cut_take (p r : List UInt8) : (bs (p ++ 47 :: r)).extract 0 p.length = bs p := by
  rw [← data_bs ((bs (p ++ 47 :: r)).extract 0 p.length)]
  congr 1
  rw [Lib.extract_data, bs_data]
  simp
theorem cut_drop (p r : List UInt8) : (bs (p ++ 47 :: r)).extract (p.length + 1) (bs (p ++ 47 :: r)).size = bs r := by
  rw [← data_bs ((bs (p ++ 47 :: r)).extract (p.length + 1) (bs (p ++ 47 :: r)).size)]
  congr 1
  rw [Lib.extract_data, bs_data, bs_size]
  simp
  exact List.take_of_length_le (by omega)
set_option maxHeartbeats 1000000 in
theorem lcut_yes (p r : List UInt8) (w : World) (h : 47 ∉ p) (hl : (p ++ 47 :: r).length ≤ 1000000) : Calls Try.prog 29 #[.string (bs (p ++ 47 :: r)), .string ⟨#[47]⟩] w fun e w' => e = .returned (.tuple #[.string (bs p), .string (bs r), .bool true]) ∧ Below w.heap.size w w' := by
  have HI : Hid (Lib.indexByte (bs (p ++ 47 :: r)).data.toList 47 = p.length) := index_yes h
  have H1 := Lib.hid (cut_take p r)
  have H2 := Lib.hid (cut_drop p r)
  have hsz := bs_size (p ++ 47 :: r)
  have hsz2 : (p ++ 47 :: r).length = p.length + 1 + r.length := by simp; omega
  have i1 : p.length + 1 ≤ (bs (p ++ 47 :: r)).size := by omega
  have i2 : (bs (p ++ 47 :: r)).size ≤ 1000000 := by omega
  clear h hsz hsz2 hl
  generalize bs (p ++ 47 :: r) = s at *
  generalize p.length = k at *
  go_enter Try.func29, Try.ntmps29
  go_wp2_with (go_at_call 35; refine (Try.stringslite_Index_one _ _ _).mono ?_; rintro e w' ⟨rfl, rfl⟩; rw [HI.out])
  go_quiet (fail)
  go_wp2
  go_ret3
  refine ⟨?_, below_drewN (Below.refl _ _) _⟩
  rw [← H1.out, ← H2.out]
  rfl
set_option maxHeartbeats 1000000 in
theorem cut_yes (p r : List UInt8) (w : World) (h : 47 ∉ p) (hl : (p ++ 47 :: r).length ≤ 1000000) : Calls Try.prog 22 #[.string (bs (p ++ 47 :: r)), .string ⟨#[47]⟩] w fun e w' => e = .returned (.tuple #[.string (bs p), .string (bs r), .bool true]) ∧ Below w.heap.size w w' := by
  go_enter Try.func22, Try.ntmps22
  go_wp2_with (go_at_call 29; refine (lcut_yes _ _ _ h hl).mono ?_; rintro e w' ⟨rfl, hb⟩)
  go_ret3
  exact ⟨rfl, hb⟩
end Go.Proofs.Ytkkfndilgoamkaa
