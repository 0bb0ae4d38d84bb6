/- path.Split whole; ref.Split, walked. -/
import Derived.Test.YtkkfndilgoamkaaSplit
namespace Go.Proofs.Ytkkfndilgoamkaa
open Go.RowKit
set_option linter.unusedVariables false

set_option maxHeartbeats 1000000 in
theorem split_any (s : List UInt8) (w : World) : Calls Try.prog 10 #[.string (bs s)] w (Splits w (split s)) := by
  by_cases hl : 96 < s.length
  · have HS : Hid (split s = ([], 17)) := by show _ = _; unfold split; rw [if_pos hl]
    have hs : 96 < (bs s).size := by rw [bs_size]; omega
    clear hl
    go_enter Try.func10, Try.ntmps10
    go_wp2
    go_step3
    go_wp2
    rw [Exit.noGoto_ret]
    go_ret2
    rw [HS.out]
    exact Splits.none (Below.refl _ _)
  · have hs : (bs s).size ≤ 96 := by rw [bs_size]; omega
    by_cases hp : ∃ r, s = 47 :: r
    · obtain ⟨r, rfl⟩ := hp
      have e : split (47 :: r) = goes [] (parts r) := by unfold split; rw [if_neg hl]; simp
      rw [e]
      exact split_loop _ r w hl rfl
    · have HS : Hid (split s = ([], 5)) := by
        show _ = _
        unfold split
        rw [if_neg hl]
        cases s with
        | nil => rfl
        | cons c r =>
          by_cases hc : c = 47
          · exact absurd ⟨r, by rw [hc]⟩ hp
          · simp [hc]
      have HP : Hid (Lib.hasPrefix (bs s).data.toList (⟨#[47]⟩ : ByteArray).data.toList = false) := by
        show _ = _
        rw [bs_data]
        cases s with
        | nil => rfl
        | cons c r =>
          by_cases hc : c = 47
          · exact absurd ⟨r, by rw [hc]⟩ hp
          · simp [Lib.hasPrefix, List.isPrefixOf, Ne.symm hc]
      clear hp
      go_enter Try.func10, Try.ntmps10
      go_wp2
      go_step3
      go_wp2_with (go_at_call 21; refine (Try.strings_CutPrefix _ _ _).mono ?_; rintro e w' ⟨rfl, rfl⟩; rw [HP.out])
      rw [Exit.noGoto_ret]
      go_ret2
      rw [HS.out]
      exact Splits.none (Below.refl _ _)

/-- The parts that are still to come. -/
def pend (s : List UInt8) (f : Nat) : List (List UInt8) := if f ≤ s.length then parts (s.drop f) else []
theorem pend_cut {s : List UInt8} {f i : Nat} (hf : f ≤ i) (hi : i < s.length) (hc : s[i] = 47) (hn : 47 ∉ (s.drop f).take (i - f)) : pend s f = (s.drop f).take (i - f) :: pend s (i + 1) := by
  unfold pend
  rw [if_pos (by omega), if_pos (by omega)]
  have e : s.drop f = (s.drop f).take (i - f) ++ 47 :: s.drop (i + 1) := by
    conv => lhs; rw [← List.take_append_drop (i - f) (s.drop f)]
    congr 1
    rw [List.drop_drop, show f + (i - f) = i by omega, List.drop_eq_getElem_cons hi, hc]
  conv => lhs; rw [e]
  rw [parts_cut hn]
theorem pend_end {s : List UInt8} {f : Nat} (hf : f ≤ s.length) (hn : 47 ∉ (s.drop f).take (s.length - f)) : pend s f = (s.drop f).take (s.length - f) :: pend s (s.length + 1) := by
  have e : (s.drop f).take (s.length - f) = s.drop f := List.take_of_length_le (by simp)
  unfold pend
  rw [if_pos hf, if_neg (by omega), e]
  rw [e] at hn
  exact parts_none hn
theorem not_more {s : List UInt8} {f i : Nat} (hf : f ≤ i) (hi : i < s.length) (hc : ¬ s[i] = 47) (hn : 47 ∉ (s.drop f).take (i - f)) : 47 ∉ (s.drop f).take (i + 1 - f) := by
  rw [show i + 1 - f = (i - f) + 1 by omega, List.take_succ_eq_append_getElem (by simp; omega)]
  simp only [List.mem_append, List.mem_singleton, not_or]
  refine ⟨hn, ?_⟩
  rw [List.getElem_drop]
  intro e
  apply hc
  rw [e]
  congr 1
  omega
theorem bs_get (s : List UInt8) (k : Nat) (h1 : k < (bs s).size) (h2 : k < s.length) : (bs s)[k]'h1 = s[k]'h2 := by
  show (bs s).data[k] = _
  simp [bs]
theorem bs_extract (s : List UInt8) (f i : Nat) : (bs s).extract f i = bs ((s.drop f).take (i - f)) := by
  rw [← data_bs ((bs s).extract f i)]
  congr 1
  rw [Lib.extract_data, bs_data]
end Go.Proofs.Ytkkfndilgoamkaa
