/- copyholdref17: number, in, has, walked. -/
import Derived.Test.YtfignanjelebaaaVMem
namespace Go.Proofs.Ytfignanjelebaaa
open Go.RowKit
set_option linter.unusedVariables false
theorem number_yes (n : Int) (w : World) (h : num n) : Calls Try.prog 43 #[.int .i64 n] w fun e w' => e = .returned (.bool true) ∧ w = w' := by
  obtain ⟨h0, h1⟩ := h
  go_enter Try.func43, Try.ntmps43
  go_wp2_with fail
  go_ret
  exact ⟨rfl, rfl⟩
theorem number_no (n : Int) (w : World) (h : ¬ num n) : Calls Try.prog 43 #[.int .i64 n] w fun e w' => e = .returned (.bool false) ∧ w = w' := by
  by_cases h0 : 0 ≤ n
  · have h1 : ¬ n ≤ 1073741824 := fun h1 => h ⟨h0, h1⟩
    clear h
    go_enter Try.func43, Try.ntmps43
    go_wp2_with fail
    go_ret
    exact ⟨rfl, rfl⟩
  · clear h
    go_enter Try.func43, Try.ntmps43
    go_wp2_with fail
    go_ret
    exact ⟨rfl, rfl⟩
theorem number_any (n : Int) (w : World) : Calls Try.prog 43 #[.int .i64 n] w fun e w' => e = .returned (.bool (decide (num n))) ∧ w = w' := by
  by_cases h : num n
  · rw [decide_eq_true h]
    exact number_yes n w h
  · rw [decide_eq_false h]
    exact number_no n w h
set_option maxHeartbeats 1000000 in
theorem in_any (l : List UInt8) (b : UInt8) (w : World) (hl : l.length ≤ 10) : Calls Try.prog 44 #[.string ⟨l.toArray⟩, .int .u8 (b.toNat : Int)] w fun e w' => e = .returned (.bool (decide (b ∈ l))) ∧ w = w' := by
  have hsz : (ByteArray.mk l.toArray).size = l.length := rfl
  obtain ⟨o, ho⟩ : ∃ o, decide (b ∈ l) = o := ⟨_, rfl⟩
  rw [ho]
  have HO := Lib.hid ho
  clear ho
  go_enter Try.func44, Try.ntmps44
  go_wp2
  go_loop [5] (fun i => ∃ m : Nat, m ≤ l.length ∧ i = .int .i64 m ∧ Hid (∀ j, j < m → l[j]?.getD 0 ≠ b)) (fun i => l.length - (intOf i).toNat)
  case atStart => exact ⟨0, Nat.zero_le _, rfl, fun j hj => absurd hj (by omega)⟩
  case round =>
    obtain ⟨m, hm, rfl, H⟩ := hrel
    by_cases hlt : m < l.length
    · have hlt' : m < (ByteArray.mk l.toArray).size := by rw [hsz]; exact hlt
      have hg : (ByteArray.mk l.toArray)[m] = l[m] := rfl
      by_cases he : l[m] = b
      · have hb : (((ByteArray.mk l.toArray)[m].toNat : Int) == (b.toNat : Int)) = true := by rw [hg, beq_iff_eq, he]
        obtain rfl : o = true := by
          rw [← HO.out, decide_eq_true_eq, ← he]
          exact List.getElem_mem hlt
        clear hg
        go_wp2
        go_ret
        exact ⟨rfl, rfl⟩
      · have hb : (((ByteArray.mk l.toArray)[m].toNat : Int) == (b.toNat : Int)) = false := by
          rw [hg, beq_eq_false_iff_ne]
          intro h
          exact he (UInt8.toNat_inj.1 (by omega))
        have H' : Hid (∀ j, j < m + 1 → l[j]?.getD 0 ≠ b) := fun j hj => by
          rcases Nat.lt_or_ge j m with h1 | h1
          · exact H.out j h1
          · obtain rfl : j = m := by omega
            rw [List.getElem?_eq_getElem hlt]
            exact he
        clear he hg
        go_wp2
        go_round
        case rel => exact ⟨m + 1, by omega, by go_num, H'⟩
        case measure => simp [intOf]; omega
    · obtain rfl : m = l.length := by omega
      obtain rfl : o = false := by
        rw [← HO.out, decide_eq_false_iff_not]
        intro h
        obtain ⟨j, hj, e⟩ := List.mem_iff_getElem.1 h
        exact H.out j hj (by rw [List.getElem?_eq_getElem hj]; exact e)
      go_wp2
      go_ret
      exact ⟨rfl, rfl⟩
set_option maxHeartbeats 2000000 in
theorem has_any (k : Int) (w : World) : Calls Try.prog 42 #[.int .i64 k] w fun e w' => e = .returned (.string ⟨(hs k).toArray⟩) ∧ w = w' := by
  have bt : ∀ {a b : Int}, a = b → (a == b) = true := fun h => by rw [beq_iff_eq]; exact h
  have bf : ∀ {a b : Int}, ¬ a = b → (a == b) = false := fun h => by rw [beq_eq_false_iff_ne]; exact h
  by_cases hk : 1 ≤ k ∧ k ≤ 15
  · obtain ⟨n, rfl⟩ := Int.eq_ofNat_of_zero_le (show 0 ≤ k by omega)
    have hn : n ≤ 15 := by omega
    have hn1 : 1 ≤ n := by omega
    clear hk bt bf
    match n, hn, hn1 with
    | 1, _, _ | 2, _, _ | 3, _, _ | 4, _, _ | 5, _, _ | 6, _, _ | 7, _, _ | 8, _, _ | 9, _, _ | 10, _, _ | 11, _, _ | 12, _, _ | 13, _, _ | 14, _, _ | 15, _, _ =>
      go_enter Try.func42, Try.ntmps42
      go_wp2_with fail
      go_ret
      exact ⟨rfl, rfl⟩
  · have h1 := bf (a := k) (b := 1) (by omega)
    have h2 := bf (a := k) (b := 2) (by omega)
    have h3 := bf (a := k) (b := 3) (by omega)
    have h4 := bf (a := k) (b := 4) (by omega)
    have h5 := bf (a := k) (b := 5) (by omega)
    have h6 := bf (a := k) (b := 6) (by omega)
    have h7 := bf (a := k) (b := 7) (by omega)
    have h8 := bf (a := k) (b := 8) (by omega)
    have h9 := bf (a := k) (b := 9) (by omega)
    have h10 := bf (a := k) (b := 10) (by omega)
    have h11 := bf (a := k) (b := 11) (by omega)
    have h12 := bf (a := k) (b := 12) (by omega)
    have h13 := bf (a := k) (b := 13) (by omega)
    have h14 := bf (a := k) (b := 14) (by omega)
    have h15 := bf (a := k) (b := 15) (by omega)
    have hh : hs k = [] := Classical.byContradiction fun h => hk (hs_kind h)
    rw [hh]
    clear hk bt bf hh
    go_enter Try.func42, Try.ntmps42
    go_wp2_with fail
    go_ret
    exact ⟨rfl, rfl⟩
end Go.Proofs.Ytfignanjelebaaa
