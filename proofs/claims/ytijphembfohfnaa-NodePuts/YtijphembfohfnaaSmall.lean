/- node.has, node.upTo, (node.pointers).allowed, copyholdref10.Pointer, walked. -/
import Derived.Test.YtijphembfohfnaaPtrs
namespace Go.Proofs.Ytijphembfohfnaa
open Go.RowKit
set_option linter.unusedVariables false
theorem has_yes (A : Option Addr) (n c : Nat) (i : Int) (w : World) (hn : n = 128) (h0 : 0 ≤ i) (h1 : i < 4) : Calls Try.prog 14 #[.slice A n c, .int .i64 i] w fun e w' => e = .returned (.bool true) ∧ w = w' := by
  subst hn
  have h2 : ((128 : Nat) : Int) = 128 := rfl
  go_enter Try.func14, Try.ntmps14
  go_wp2_with fail
  go_ret
  exact ⟨rfl, rfl⟩
theorem has_no (A : Option Addr) (n c : Nat) (i : Int) (w : World) (h : ¬ (n = 128 ∧ 0 ≤ i ∧ i < 4)) : Calls Try.prog 14 #[.slice A n c, .int .i64 i] w fun e w' => e = .returned (.bool false) ∧ w = w' := by
  by_cases hn : n = 128
  · subst hn
    by_cases h0 : 0 ≤ i
    · have h1 : ¬ i < 4 := by omega
      clear h
      go_enter Try.func14, Try.ntmps14
      go_wp2_with fail
      go_ret
      exact ⟨rfl, rfl⟩
    · clear h
      go_enter Try.func14, Try.ntmps14
      go_wp2_with fail
      go_ret
      exact ⟨rfl, rfl⟩
  · have h1 : ((n : Int) == 128) = false := by rw [beq_eq_false_iff_ne]; omega
    clear h hn
    go_enter Try.func14, Try.ntmps14
    go_wp2_with fail
    go_ret
    exact ⟨rfl, rfl⟩
theorem upTo_yes (n m : Int) (w : World) (h0 : 0 ≤ n) (h1 : n ≤ m) : Calls Try.prog 18 #[.int .i64 n, .int .i64 m] w fun e w' => e = .returned (.bool true) ∧ w = w' := by
  go_enter Try.func18, Try.ntmps18
  go_wp2_with fail
  go_ret
  exact ⟨rfl, rfl⟩
theorem upTo_no (n m : Int) (w : World) (h : ¬ (0 ≤ n ∧ n ≤ m)) : Calls Try.prog 18 #[.int .i64 n, .int .i64 m] w fun e w' => e = .returned (.bool false) ∧ w = w' := by
  by_cases h0 : 0 ≤ n
  · have h1 : ¬ n ≤ m := by omega
    clear h
    go_enter Try.func18, Try.ntmps18
    go_wp2_with fail
    go_ret
    exact ⟨rfl, rfl⟩
  · clear h
    go_enter Try.func18, Try.ntmps18
    go_wp2_with fail
    go_ret
    exact ⟨rfl, rfl⟩
theorem refPtr_any (n : Int) (w : World) : Calls Try.prog 20 #[.int .i64 n] w fun e w' => e = .returned (.bool (ptr n)) ∧ w = w' := by
  obtain ⟨o, ho⟩ : ∃ o, ptr n = o := ⟨_, rfl⟩
  rw [ho]
  have HO := Lib.hid ho
  clear ho
  by_cases h0 : n = 0
  · obtain rfl : o = true := by rw [← HO.out]; exact ptr_iff.2 (by omega)
    subst h0
    go_enter Try.func20, Try.ntmps20
    go_wp2_with fail
    go_ret
    exact ⟨rfl, rfl⟩
  · have h0' : (n == 0) = false := by rw [beq_eq_false_iff_ne]; exact h0
    by_cases h1 : 43 ≤ n
    · by_cases h2 : n ≤ 1023
      · obtain rfl : o = true := by rw [← HO.out]; exact ptr_iff.2 (by omega)
        go_enter Try.func20, Try.ntmps20
        go_wp2_with fail
        go_ret
        exact ⟨rfl, rfl⟩
      · obtain rfl : o = false := by rw [← HO.out]; exact ptr_not.2 (by omega)
        go_enter Try.func20, Try.ntmps20
        go_wp2_with fail
        go_ret
        exact ⟨rfl, rfl⟩
    · obtain rfl : o = false := by rw [← HO.out]; exact ptr_not.2 (by omega)
      go_enter Try.func20, Try.ntmps20
      go_wp2_with fail
      go_ret
      exact ⟨rfl, rfl⟩
/-- The k-th pointer. -/
def Nd.p (x : Nd) : Nat → Int
  | 0 => x.d0
  | 1 => x.d1
  | 2 => x.d2
  | 3 => x.d3
  | 4 => x.o
  | _ => x.t
theorem idxp0 (x : Nd) (w : World) : (Instr.index 49 (.agg (pc x).toArray) (.int .i64 0)).run Try.prog w = .ok (.int .i64 x.d0) w := by kernel_rfl
theorem idxp1 (x : Nd) (w : World) : (Instr.index 49 (.agg (pc x).toArray) (.int .i64 1)).run Try.prog w = .ok (.int .i64 x.d1) w := by kernel_rfl
theorem idxp2 (x : Nd) (w : World) : (Instr.index 49 (.agg (pc x).toArray) (.int .i64 2)).run Try.prog w = .ok (.int .i64 x.d2) w := by kernel_rfl
theorem idxp3 (x : Nd) (w : World) : (Instr.index 49 (.agg (pc x).toArray) (.int .i64 3)).run Try.prog w = .ok (.int .i64 x.d3) w := by kernel_rfl
theorem idxp4 (x : Nd) (w : World) : (Instr.index 49 (.agg (pc x).toArray) (.int .i64 4)).run Try.prog w = .ok (.int .i64 x.o) w := by kernel_rfl
theorem idxp5 (x : Nd) (w : World) : (Instr.index 49 (.agg (pc x).toArray) (.int .i64 5)).run Try.prog w = .ok (.int .i64 x.t) w := by kernel_rfl
theorem idxp (x : Nd) {k : Nat} (hk : k < 6) (w : World) : (Instr.index 49 (.agg (pc x).toArray) (.int .i64 k)).run Try.prog w = .ok (.int .i64 (x.p k)) w := by
  match k, hk with
  | 0, _ => exact idxp0 x w
  | 1, _ => exact idxp1 x w
  | 2, _ => exact idxp2 x w
  | 3, _ => exact idxp3 x w
  | 4, _ => exact idxp4 x w
  | 5, _ => exact idxp5 x w
theorem ptrs_of {x : Nd} (h : ∀ j, j < 6 → ptr (x.p j) = true) : x.ptrs = true := by
  have h0 := h 0 (by omega)
  have h1 := h 1 (by omega)
  have h2 := h 2 (by omega)
  have h3 := h 3 (by omega)
  have h4 := h 4 (by omega)
  have h5 := h 5 (by omega)
  simp only [Nd.p] at h0 h1 h2 h3 h4 h5
  simp [Nd.ptrs, h0, h1, h2, h3, h4, h5]
theorem ptrs_not {x : Nd} {k : Nat} (hk : k < 6) (h : ptr (x.p k) = false) : x.ptrs = false := by
  match k, hk with
  | 0, _ => simp only [Nd.p] at h; simp [Nd.ptrs, h]
  | 1, _ => simp only [Nd.p] at h; simp [Nd.ptrs, h]
  | 2, _ => simp only [Nd.p] at h; simp [Nd.ptrs, h]
  | 3, _ => simp only [Nd.p] at h; simp [Nd.ptrs, h]
  | 4, _ => simp only [Nd.p] at h; simp [Nd.ptrs, h]
  | 5, _ => simp only [Nd.p] at h; simp [Nd.ptrs, h]
set_option maxHeartbeats 1000000 in
theorem allowed_any (x : Nd) (w : World) : Calls Try.prog 19 #[.agg (pc x).toArray] w fun e w' => e = .returned (.bool x.ptrs) ∧ Below w.heap.size w w' := by
  obtain ⟨o, ho⟩ : ∃ o, x.ptrs = o := ⟨_, rfl⟩
  rw [ho]
  have HO := Lib.hid ho
  clear ho
  obtain ⟨a0, ab, az⟩ := box1 w (Obj.cells (pc x).toArray 49)
  have A0 := Lib.hid a0
  have AB := Lib.hid ab
  clear a0 ab az
  go_enter Try.func19, Try.ntmps19
  go_wp2_with (first | (refine wpList_load_row rfl 49 _ rfl w.heap.size rfl _ _ _ A0.out _ Try.underlying49 rfl s49 ?_) | fail)
  clear A0
  go_loop [6] (fun i => ∃ k : Nat, k ≤ 6 ∧ i = .int .i64 k ∧ Hid (∀ j, j < k → ptr (x.p j) = true)) (fun i => 6 - (intOf i).toNat)
  case atStart => exact ⟨0, Nat.zero_le _, rfl, fun j hj => absurd hj (by omega)⟩
  case round =>
    obtain ⟨k, hk, rfl, HA⟩ := hrel
    by_cases hlt : k < 6
    · have hi := idxp x hlt
      have HP := Lib.hid (@ptrs_not x k hlt)
      obtain ⟨n, hn⟩ : ∃ n, x.p k = n := ⟨_, rfl⟩
      rw [hn] at hi HP
      have HN := Lib.hid hn
      clear hn
      have HS : Hid (ptr n = true → ∀ j, j < k + 1 → ptr (x.p j) = true) := fun hp j hj => by
        rcases Nat.lt_or_ge j k with h | h
        · exact HA.out j h
        · obtain rfl : j = k := by omega
          rw [HN.out]; exact hp
      by_cases h0 : n = 0
      · subst h0
        go_wp2_with fail
        go_round
        case rel => exact ⟨k + 1, by omega, by go_num, HS.out (ptr_iff.2 (by omega))⟩
        case measure => simp [intOf]; omega
      have h0' : (n != 0) = true := by rw [bne_iff_ne]; exact h0
      by_cases h1 : n < 43
      · obtain rfl : o = false := by rw [← HO.out]; exact HP.out (ptr_not.2 (by omega))
        go_wp2_with fail
        go_ret
        exact ⟨rfl, AB.out⟩
      by_cases h2 : 1024 ≤ n
      · obtain rfl : o = false := by rw [← HO.out]; exact HP.out (ptr_not.2 (by omega))
        go_wp2_with fail
        go_ret
        exact ⟨rfl, AB.out⟩
      · go_wp2_with fail
        go_round
        case rel => exact ⟨k + 1, by omega, by go_num, HS.out (ptr_iff.2 (by omega))⟩
        case measure => simp [intOf]; omega
    · obtain rfl : k = 6 := by omega
      obtain rfl : o = true := by rw [← HO.out]; exact ptrs_of HA.out
      go_wp2_with fail
      go_ret
      exact ⟨rfl, AB.out⟩
end Go.Proofs.Ytijphembfohfnaa
