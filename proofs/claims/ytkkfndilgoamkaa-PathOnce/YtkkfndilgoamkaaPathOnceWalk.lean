/- PathOnce, walked: it returns true. -/
import Derived.Test.YtkkfndilgoamkaaAwake
namespace Go.Proofs.Ytkkfndilgoamkaa.pathOnce
open Go.RowKit
set_option linter.unusedVariables false

theorem clean_again (s : List UInt8) (h : (split s).2 = 0) : split (joinL (split s).1) = ((split s).1, 0) := by
  have h1 := split_good s
  have h2 := split_len s h
  exact split_joinL _ h1.1 h1.2 (by omega)
theorem cleanS_again (s : List UInt8) (h : (split s).2 = 0) : cleanS (joinL (split s).1) = joinL (split s).1 := by
  unfold cleanS
  rw [clean_again s h]
  simp
theorem not_both (s t : List UInt8) : withinR s t = true → withinR t s = true → False := by
  intro h1 h2
  unfold withinR at h1 h2
  split at h1
  · split at h2
    · rcases within_not (split s).1 (split t).1 with h | h
      · rw [h1] at h; cases h
      · rw [h2] at h; cases h
    · cases h2
  · cases h1
set_option maxHeartbeats 4000000 in
set_option maxRecDepth 100000 in
theorem walkL (w : World) (s t : List UInt8) : Calls Try.prog 7 #[.string (bs s), .string (bs t)] w fun e w' => e = .returned (.bool true) ∧ Below w.heap.size w w' := by
  go_enter Try.func7, Try.ntmps7
  go_wp2_with fail
  refine (clean_any s w).mono ?_
  rintro e w1 ⟨rfl, hb1⟩
  have B1 := Lib.hid hb1
  have hz1 := hb1.size
  clear hb1
  go_wp2_with fail
  refine (awake_any w1).mono ?_
  rintro e w2 ⟨rfl, hb2⟩
  have B2 := Lib.hid (B1.out.trans (hb2.mono hz1))
  have hz2 := hb2.size
  clear B1 hb2
  by_cases h0 : (split s).2 = 0
  · have HC : cleanS s = joinL (split s).1 := by unfold cleanS; rw [if_pos h0]
    have hl1 : (bs (joinL (split s).1)).size ≤ (bs s).size := by rw [bs_size, bs_size]; exact (split_len s h0).1
    have HA := Lib.hid (clean_again s h0)
    have HA2 := Lib.hid (cleanS_again s h0)
    have HJ := Lib.hid (joinS_split s h0)
    have HE := Lib.hid (joinE_split s h0)
    have H0 := Lib.hid h0
    have HNB := Lib.hid (not_both s t)
    rw [HC, h0]
    clear HC h0
    go_wp2_with fail
    refine (clean_any (joinL (split s).1) w2).mono ?_
    rintro e w3 ⟨rfl, hb3⟩
    rw [HA2.out, HA.out]
    have B3 := Lib.hid (B2.out.trans (hb3.mono (by omega)))
    have hz3 := hb3.size
    clear B2 hb3
    go_wp2_with fail
    refine (split_any s w3).mono ?_
    rintro e w4 ⟨A, c, rfl, hs4, hb4⟩
    rw [H0.out]
    have B4 := Lib.hid (B3.out.trans (hb4.mono (by omega)))
    have S4 := Lib.hid hs4
    have hz4 := hb4.size
    clear B3 hb4 hs4
    go_wp2_with fail
    refine (pathJoin_any _ _ _ _ _ w4 S4.out (Nat.le_refl _)).mono ?_
    rintro e w5 ⟨rfl, hb5⟩
    rw [HJ.out, HE.out]
    have B5 := Lib.hid (B4.out.trans (hb5.mono (by omega)))
    have hz5 := hb5.size
    clear B4 hb5
    go_wp2_with fail
    refine (within_any s t w5).mono ?_
    rintro e w6 ⟨rfl, hb6⟩
    have B6 := Lib.hid (B5.out.trans (hb6.mono (by omega)))
    have hz6 := hb6.size
    clear B5 hb6
    go_wp2_with fail
    refine (within_any t s w6).mono ?_
    rintro e w7 ⟨rfl, hb7⟩
    have B7 := Lib.hid (B6.out.trans (hb7.mono (by omega)))
    clear B6 hb7
    generalize joinL (split s).1 = j at *
    generalize withinE s t = e1 at *
    generalize withinE t s = e2 at *
    generalize withinR s t = r1 at *
    generalize withinR t s = r2 at *
    by_cases h1 : e1 = 0
    · subst h1
      by_cases h2 : e2 = 0
      · subst h2
        cases r1 with
        | false =>
          go_wp2
          go_ret
          exact ⟨rfl, B7.out⟩
        | true =>
          cases r2 with
          | false =>
            go_wp2
            go_ret
            exact ⟨rfl, B7.out⟩
          | true => exact (HNB.out rfl rfl).elim
      · have h2' : (e2 == 0) = false := by simpa using h2
        go_wp2
        go_ret
        exact ⟨rfl, B7.out⟩
    · have h1' : (e1 == 0) = false := by simpa using h1
      go_wp2
      go_ret
      exact ⟨rfl, B7.out⟩
  · have HC : cleanS s = [] := by unfold cleanS; rw [if_neg h0]
    rw [HC]
    clear HC
    generalize (split s).2 = x at *
    have hx : (x == 0) = false := by simpa using h0
    go_wp2_with fail
    refine (awake_any w2).mono ?_
    rintro e w3 ⟨rfl, hb3⟩
    go_wp2
    go_ret
    exact ⟨rfl, B2.out.trans (hb3.mono (by omega))⟩
theorem walk (w : World) (s t : ByteArray) : Calls Try.prog 7 #[.string s, .string t] w fun e w' => e = .returned (.bool true) ∧ Below w.heap.size w w' := by
  have := walkL w s.data.toList t.data.toList
  rwa [data_bs, data_bs] at this
end Go.Proofs.Ytkkfndilgoamkaa.pathOnce
