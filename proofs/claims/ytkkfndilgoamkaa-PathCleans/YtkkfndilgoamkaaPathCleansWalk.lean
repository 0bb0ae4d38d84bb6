/- PathCleans, walked: it returns true. -/
import Derived.Test.YtkkfndilgoamkaaAwake
namespace Go.Proofs.Ytkkfndilgoamkaa.pathCleans
open Go.RowKit
set_option linter.unusedVariables false

theorem split_joinT (s : List UInt8) (h : (split s).2 = 0) : (joinT (split s).1).length ≤ 96 := by
  have h2 := split_len s h
  have h3 : (joinT (split s).1).length ≤ (joinL (split s).1).length := by
    unfold joinL
    split
    · rename_i e
      rw [e]
      simp [joinT]
    · exact Nat.le_refl _
  omega
set_option maxHeartbeats 4000000 in
set_option maxRecDepth 100000 in
theorem walkL (w : World) (s : List UInt8) : Calls Try.prog 5 #[.string (bs s)] w fun e w' => e = .returned (.bool true) ∧ Below w.heap.size w w' := by
  go_enter Try.func5, Try.ntmps5
  go_wp2_with fail
  refine (clean_any s w).mono ?_
  rintro e w1 ⟨rfl, hb1⟩
  have B1 := Lib.hid hb1
  have hz1 := hb1.size
  clear hb1
  go_wp2_with fail
  refine (last_any s w1).mono ?_
  rintro e w2 ⟨rfl, hb2⟩
  have B2 := Lib.hid (B1.out.trans (hb2.mono hz1))
  have hz2 := hb2.size
  clear B1 hb2
  go_wp2_with fail
  refine (refSplit_any s w2).mono ?_
  rintro e w3 ⟨A, c, rfl, hs3, hb3⟩
  have B3 := Lib.hid (B2.out.trans (hb3.mono (by omega)))
  have S3 := Lib.hid hs3
  have hz3 := hb3.size
  clear B2 hb3 hs3
  have k0 : (bs []).toList = [] := bs_list _
  by_cases h0 : (split s).2 = 0
  · by_cases h1 : (split s).1 = []
    · have HE : lastE s = 13 := by unfold lastE; rw [if_neg (by simpa using h0), if_pos h1]
      have HA : lastA s = [] := by unfold lastA; rw [if_neg (by rw [HE]; decide)]
      have HN : lastN s = [] := by unfold lastN; rw [if_neg (by rw [HE]; decide)]
      have HC : cleanS s = [47] := by unfold cleanS; rw [if_pos h0, h1]; rfl
      have k1 : (bs [47]).toList = [47] := bs_list _
      rw [HE, HA, HN, HC, h0, h1]
      clear HE HA HN HC h0 h1
      go_wp2_with fail
      refine (awake_any w3).mono ?_
      rintro e w4 ⟨rfl, hb4⟩
      go_wp2
      go_ret
      exact ⟨rfl, B3.out.trans (hb4.mono (by omega))⟩
    · have HE : lastE s = 0 := by unfold lastE; rw [if_neg (by simpa using h0), if_neg h1]
      have HA : lastA s = joinL (split s).1.dropLast := by unfold lastA; rw [if_pos HE]
      have HN : lastN s = (split s).1.getLastD [] := by unfold lastN; rw [if_pos HE]
      have HC : cleanS s = joinL (split s).1 := by unfold cleanS; rw [if_pos h0]
      have hj := split_joinT s h0
      rw [HE, HA, HN, HC, h0]
      clear HE HA HN HC h0
      generalize (split s).1 = ns at *
      obtain ⟨m, x, rfl⟩ : ∃ m x, ns = m ++ [x] := ⟨ns.dropLast, ns.getLast h1, (List.dropLast_concat_getLast h1).symm⟩
      have hlen : (m ++ [x]).length = m.length + 1 := by simp
      rw [List.dropLast_concat, List.getLastD_concat]
      rw [hlen] at S3 ⊢
      have hjm : (joinT m).length ≤ 96 := by
        have := joinT_dropLast (m ++ [x])
        rw [List.dropLast_concat] at this
        omega
      have hcap := S3.out.cap
      have hlim := S3.out.lim
      unfold maxLen at hlim
      clear hlen h1
      go_wp2_with fail
      refine (awake_any w3).mono ?_
      rintro e w4 ⟨rfl, hb4⟩
      have B4 := Lib.hid (B3.out.trans (hb4.mono (by omega)))
      have S4 := Lib.hid (S3.out.below hb4)
      clear B3 S3 hb4
      have HD : Hid (Strs w4 w3.heap.size A m.length c m) := by
        have := S4.out.head (s := m.length) (by omega)
        rwa [List.take_left] at this
      go_wp2_with fail
      refine (refJoin_any _ _ _ _ (m ++ [x]) w4 S4.out (by omega)).mono ?_
      rintro e w5 ⟨rfl, rfl⟩
      go_wp2_with fail
      refine (refJoin_any _ _ _ _ m w4 HD.out (by omega)).mono ?_
      rintro e w5 ⟨rfl, rfl⟩
      obtain ⟨b, off, rfl, hbb, hcell⟩ := S4.out.cell (k := m.length) (by omega)
      have hx : (m ++ [x])[m.length]?.getD [] = x := by simp
      rw [hx] at hcell
      clear hx
      go_wp2
      go_ret
      exact ⟨rfl, B4.out⟩
  · have HE : lastE s = (split s).2 := by unfold lastE; rw [if_pos h0]
    have HA : lastA s = [] := by unfold lastA; rw [if_neg (by rw [HE]; exact h0)]
    have HN : lastN s = [] := by unfold lastN; rw [if_neg (by rw [HE]; exact h0)]
    have HC : cleanS s = [] := by unfold cleanS; rw [if_neg h0]
    rw [HE, HA, HN, HC]
    clear HE HA HN HC
    generalize (split s).2 = x at *
    have hx : (x == 0) = false := by simpa using h0
    go_wp2_with fail
    refine (awake_any w3).mono ?_
    rintro e w4 ⟨rfl, hb4⟩
    go_wp2
    go_ret
    exact ⟨rfl, B3.out.trans (hb4.mono (by omega))⟩
theorem walk (w : World) (s : ByteArray) : Calls Try.prog 5 #[.string s] w fun e w' => e = .returned (.bool true) ∧ Below w.heap.size w w' := by
  have := walkL w s.data.toList
  rwa [data_bs] at this
end Go.Proofs.Ytkkfndilgoamkaa.pathCleans
