/- copyholdref06.Good, Ints, copyholdref03.Noughts, walked. -/
import Derived.Test.YtlhkkelpombbiaaNums
import Derived.BigQuiet
import Derived.Deep.QuietTactic
namespace Go.Proofs.Ytlhkkelpombbiaa
open Go.RowKit
set_option linter.unusedVariables false

theorem below_drewN {B : Nat} {a w : World} (h : Below B a w) (n : Nat) : Below B a (w.drewN n) := ⟨h.os, h.tape, h.output, h.size, h.block⟩
set_option maxRecDepth 20000 in
set_option maxHeartbeats 1000000 in
theorem refGood_any {w : World} {M : Nat → Prop} {A : Option Addr} {n c : Nat} {l : List Int} (h : Ints w M A n c l) (hM : ∀ b, M b → b < w.heap.size) :
    Calls Try.prog 29 #[.slice A n c] w fun e w' => e = .returned (.bool (good l)) ∧ Below w.heap.size w w' := by
  have HM0 := Lib.hid hM
  clear hM
  have HI := Lib.hid h
  have HL := Lib.hid h.len
  have hcap := h.cap
  have hlim := h.lim
  unfold maxLen at hlim
  clear h
  by_cases hn : 24 < n
  · have HG : Hid (good l = false) := by show _ = _; rw [Bool.eq_false_iff]; intro hg; have := (good_iff.1 hg).1; have := HL.out; omega
    have hn1 : decide (24 < (n : Int)) = true := by simp; omega
    go_enter Try.func29, Try.ntmps29
    go_wp2_with fail
    go_ret
    exact ⟨retb HG.out.symm, Below.refl _ _⟩
  have hn1 : decide (24 < (n : Int)) = false := by simp; omega
  go_enter Try.func29, Try.ntmps29
  go_wp2_with fail
  go_loopw [3] (fun i wr => ∃ k : Nat, k ≤ n ∧ i = .int .i64 k ∧ Hid ((l.take k).all okn = true ∧ (l.take k).Nodup) ∧ Hid (Below w.heap.size w wr)) (fun i _ => n - (intOf i).toNat)
  case atStart => exact ⟨0, Nat.zero_le _, rfl, by simp [Hid], Below.refl _ _⟩
  case round =>
    obtain ⟨k, hk, rfl, HN, HB⟩ := hrel
    by_cases hlt : k < n
    · obtain ⟨b, off, rfl, hb, hc⟩ := (HI.out.keep (w' := wr) fun b hb => HB.out.block b (HM0.out b hb)).cell hlt
      have HX : Hid (l[k]? = some (l[k]?.getD 0)) := get_of HL.out hlt
      generalize l[k]?.getD 0 = x at *
      by_cases h0 : x < 0
      · have HG := Lib.hid (not_good_at HX.out (.inl (by rw [Bool.eq_false_iff, Ne, okn_iff]; omega)))
        go_wp2_with fail
        go_ret
        exact ⟨retb HG.out.symm, HB.out⟩
      by_cases h1 : 1023 < x
      · have HG := Lib.hid (not_good_at HX.out (.inl (by rw [Bool.eq_false_iff, Ne, okn_iff]; omega)))
        go_wp2_with fail
        go_ret
        exact ⟨retb HG.out.symm, HB.out⟩
      by_cases h2 : 1 ≤ x ∧ x ≤ 25
      · have HG := Lib.hid (not_good_at HX.out (.inl (by rw [Bool.eq_false_iff, Ne, okn_iff]; omega)))
        obtain ⟨h2, h3⟩ := h2
        go_wp2_with fail
        go_ret
        exact ⟨retb HG.out.symm, HB.out⟩
      have HO : Hid (okn x = true) := okn_iff.2 ⟨by omega, by omega, by omega⟩
      have hcase : x < 1 ∨ (¬ x < 1 ∧ ¬ x ≤ 25) := by omega
      clear h2
      rcases hcase with h2 | ⟨h2, h3⟩
      all_goals
        go_wp2_with fail
        go_loopw [4] (fun i wr => ∃ m : Nat, m ≤ k ∧ i = .int .i64 m ∧ Hid (x ∉ l.take m) ∧ Hid (Below w.heap.size w wr)) (fun i _ => k - (intOf i).toNat)
        case atStart => exact ⟨0, Nat.zero_le _, rfl, by simp [Hid], HB⟩
        case round =>
          clear HB
          obtain ⟨m, hm, rfl, HM, HB⟩ := hrel
          by_cases hlt2 : m < k
          · obtain ⟨b2, off2, e2, hb2, hc2⟩ := (HI.out.keep (w' := wr) fun b hb => HB.out.block b (HM0.out b hb)).cell (show m < n by omega)
            cases e2
            have HY : Hid (l[m]? = some (l[m]?.getD 0)) := get_of HL.out (by omega)
            have HT : Hid (x ∈ l.take (m + 1) ↔ x ∈ l.take m ∨ x = l[m]?.getD 0) := mem_take (by rw [HL.out]; omega)
            generalize l[m]?.getD 0 = y at *
            obtain ⟨b3, off3, e3, hb3, hc3⟩ := (HI.out.keep (w' := wr) fun b hb => HB.out.block b (HM0.out b hb)).cell hlt
            cases e3
            rw [HX.out] at hc3
            simp only [Option.getD_some] at hc3
            by_cases hxy : y = x
            · subst hxy
              have HG : Hid (good l = false) := not_good_at HX.out (.inr (List.mem_of_getElem? (i := m) (by rw [List.getElem?_take, if_pos hlt2]; exact HY.out)))
              go_wp2_with fail
              go_quiet (fail)
              go_wp2_with fail
              go_ret
              exact ⟨retb HG.out.symm, below_drewN HB.out _⟩
            · have hxy' : (y == x) = false := by simpa using hxy
              have HXY := Lib.hid hxy
              clear hxy
              go_wp2_with fail
              go_quiet (fail)
              go_wp2_with fail
              go_roundw
              case rel => exact ⟨m + 1, by omega, by go_num, fun hmem => (by rcases HT.out.1 hmem with h | h; exact HM.out h; exact HXY.out h.symm), below_drewN HB.out _⟩
              case measure => simp [intOf]; omega
          · obtain rfl : m = k := by omega
            have HN2 : Hid ((l.take (m + 1)).all okn = true ∧ (l.take (m + 1)).Nodup) := ⟨all_take HX.out HN.out.1 HO.out, take_nodup HX.out HN.out.2 HM.out⟩
            go_wp2_with fail
            go_roundw
            case rel => exact ⟨m + 1, by omega, by go_num, HN2, HB⟩
            case measure => simp [intOf]; omega
    · obtain rfl : k = n := by omega
      have HG : Hid (good l = true) := by
        have := HN.out
        rw [List.take_of_length_le (by rw [HL.out]; omega)] at this
        exact good_upto (by rw [HL.out]; omega) this.1 this.2
      go_wp2_with fail
      go_ret
      exact ⟨retb HG.out.symm, HB.out⟩
end Go.Proofs.Ytlhkkelpombbiaa
