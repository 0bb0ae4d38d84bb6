/- copyholdref10.Sound, walked. -/
import Derived.Test.YtijphembfohfnaaSound
namespace Go.Proofs.Ytijphembfohfnaa
open Go.RowKit
set_option linter.unusedVariables false
/-- None of the pointers, k of Direct gone through. -/
def Nd.nn (x : Nd) : Nat → Bool
  | 0 => x.o == 0 && x.t == 0
  | k + 1 => x.nn k && x.p k == 0
theorem nn4 (x : Nd) : x.nn 4 = x.none_ := by
  rw [Bool.eq_iff_iff]
  simp [Nd.nn, Nd.none_, Nd.p]
  omega
theorem dir_cell {W : World} {g : Nat} {x : Nd} {t : TypeId} {fr : Nat × Nat} (h : W.heap[g]? = some (.cells (nc x).toArray t fr)) {k : Nat} (hk : k < 4) : W.cell? ⟨g, 5 + k, none⟩ = some (.int .i64 (x.p k)) := by
  rw [cell_of_row W g _ _ t fr h]
  match k, hk with
  | 0, _ => rfl
  | 1, _ => rfl
  | 2, _ => rfl
  | 3, _ => rfl
theorem ptrs_all {x : Nd} (h : ∀ j, j < 4 → ptr (x.p j) = true) (h1 : ptr x.o = true) (h2 : ptr x.t = true) : x.ptrs = true := by
  have a0 := h 0 (by omega)
  have a1 := h 1 (by omega)
  have a2 := h 2 (by omega)
  have a3 := h 3 (by omega)
  simp only [Nd.p] at a0 a1 a2 a3
  simp [Nd.ptrs, a0, a1, a2, a3, h1, h2]
theorem one_cells (W : World) (g : Nat) (x : Nd) (t : TypeId) (fr : Nat × Nat) (h : W.heap[g]? = some (.cells (nc x).toArray t fr)) : W.cell? ⟨g, 9, none⟩ = some (.int .i64 x.o) ∧ W.cell? ⟨g, 10, none⟩ = some (.int .i64 x.t) :=
  ⟨cell_of_row _ _ 9 _ _ _ h, cell_of_row _ _ 10 _ _ _ h⟩
set_option maxHeartbeats 2000000 in
theorem refSound_any (x : Nd) (w : World) : Calls Try.prog 10 #[.agg (nc x).toArray] w fun e w' => e = .returned (.bool x.ok) ∧ Below w.heap.size w w' := by
  obtain ⟨o, ho⟩ : ∃ o, x.ok = o := ⟨_, rfl⟩
  rw [ho]
  have HO := Lib.hid ho
  clear ho
  obtain ⟨a0, ab, az⟩ := box1 w (Obj.cells (nc x).toArray 25)
  have A0 := Lib.hid a0
  have AB := Lib.hid ab
  clear a0 ab az
  obtain ⟨c0, c1, c2, c3, c4⟩ := nd_cells A0.out
  obtain ⟨c9, c10⟩ := one_cells _ _ _ _ _ A0.out
  go_enter Try.func10, Try.ntmps10
  by_cases g0 : x.g < 0
  case pos =>
    obtain rfl : o = false := by rw [← HO.out]; exact ok_nums (by omega)
    go_wp2_with fail
    go_ret
    exact ⟨rfl, AB.out⟩
  by_cases g1 : 1073741824 < x.g
  case pos =>
    obtain rfl : o = false := by rw [← HO.out]; exact ok_nums (by omega)
    go_wp2_with fail
    go_ret
    exact ⟨rfl, AB.out⟩
  by_cases h0 : x.c < 0
  case pos =>
    obtain rfl : o = false := by rw [← HO.out]; exact ok_nums (by omega)
    go_wp2_with fail
    go_ret
    exact ⟨rfl, AB.out⟩
  by_cases h1 : 1073741824 < x.c
  case pos =>
    obtain rfl : o = false := by rw [← HO.out]; exact ok_nums (by omega)
    go_wp2_with fail
    go_ret
    exact ⟨rfl, AB.out⟩
  go_wp2_with fail
  generalize w.alloc (Obj.cells (nc x).toArray 25) = W at *
  refine (refPtr_any x.o _).mono ?_
  rintro e w1 ⟨rfl, rfl⟩
  cases po : ptr x.o with
  | false =>
    obtain rfl : o = false := by rw [← HO.out]; exact ok_ptrs (by simp [Nd.ptrs, po])
    clear po
    go_wp2_with fail
    go_ret
    exact ⟨rfl, AB.out⟩
  | true =>
  have PO := Lib.hid po
  clear po
  go_wp2_with fail
  refine (refPtr_any x.t _).mono ?_
  rintro e w1 ⟨rfl, rfl⟩
  cases pt : ptr x.t with
  | false =>
    obtain rfl : o = false := by rw [← HO.out]; exact ok_ptrs (by simp [Nd.ptrs, pt])
    clear pt
    go_wp2_with fail
    go_ret
    exact ⟨rfl, AB.out⟩
  | true =>
  have PT := Lib.hid pt
  clear pt
  have HN0 : Hid (x.nn 0 = (x.o == 0 && x.t == 0)) := rfl
  have HG : Hid (0 ≤ x.g ∧ x.g ≤ 1073741824 ∧ 0 ≤ x.c ∧ x.c ≤ 1073741824) := by show _ ∧ _; omega
  clear g0 g1 h0 h1 c2 c4
  rcases (by cases x.o == 0 <;> simp : (x.o == 0) = true ∨ (x.o == 0) = false) with o0 | o0
  all_goals rw [o0] at HN0
  all_goals go_wp2_with fail
  all_goals clear c9 c10 o0
  all_goals (
    go_loop [3, 4] (fun s i => ∃ k : Nat, ∃ b : Bool, k ≤ 4 ∧ i = .int .i64 k ∧ s = .bool b ∧ Hid (x.nn k = b) ∧ Hid (∀ j, j < k → ptr (x.p j) = true)) (fun _ i => 4 - (intOf i).toNat)
    case atStart => exact ⟨0, _, Nat.zero_le _, rfl, rfl, HN0, fun j hj => absurd hj (by omega)⟩
    case round =>
      clear HN0
      obtain ⟨k, b, hk, rfl, rfl, HN, HA⟩ := hrel
      by_cases hlt : k < 4
      · have hc := dir_cell A0.out hlt
        have HP := Lib.hid (@ptrs_not x k (by omega))
        have HNS : Hid (x.nn (k + 1) = (b && x.p k == 0)) := by show _ = _; rw [Nd.nn, HN.out]
        obtain ⟨n, hn⟩ : ∃ n, x.p k = n := ⟨_, rfl⟩
        rw [hn] at hc HP HNS
        have HQ := Lib.hid hn
        clear hn
        have HS : Hid (ptr n = true → ∀ j, j < k + 1 → ptr (x.p j) = true) := fun hp j hj => by
          rcases Nat.lt_or_ge j k with h | h
          · exact HA.out j h
          · obtain rfl : j = k := by omega
            rw [HQ.out]; exact hp
        go_wp2_with fail
        refine (refPtr_any n _).mono ?_
        rintro e w1 ⟨rfl, rfl⟩
        cases pn : ptr n with
        | false =>
          obtain rfl : o = false := by rw [← HO.out]; exact ok_ptrs (HP.out pn)
          clear pn
          go_wp2_with fail
          go_ret
          exact ⟨rfl, AB.out⟩
        | true =>
          have PN := Lib.hid pn
          clear pn
          cases b with
          | false =>
            go_wp2_with fail
            go_round
            case rel => exact ⟨k + 1, _, by omega, by go_num, rfl, HNS, HS.out PN.out⟩
            case measure => simp [intOf]; omega
          | true =>
            go_wp2_with fail
            go_round
            case rel => exact ⟨k + 1, _, by omega, by go_num, rfl, HNS, HS.out PN.out⟩
            case measure => simp [intOf]; omega
      · obtain rfl : k = 4 := by omega
        have HK : Hid (x.kind = o) := (ok_kind HG.out.1 HG.out.2.1 HG.out.2.2.1 HG.out.2.2.2 (ptrs_all HA.out PO.out PT.out)).symm.trans HO.out
        have HZ : Hid (x.none_ = b) := (nn4 x).symm.trans HN.out
        clear HN HA HO HG PO PT
        have bt : ∀ {a b : Int}, a = b → (a == b) = true := fun h => by rw [beq_iff_eq]; exact h
        have bf : ∀ {a b : Int}, ¬ a = b → (a == b) = false := fun h => by rw [beq_eq_false_iff_ne]; exact h
        by_cases k0 : x.k = 0
        · have k0' := bt k0
          cases b with
          | false =>
            obtain rfl : o = false := by
              rw [← HK.out]
              simp only [Nd.kind, HZ.out, decide_eq_false_iff_not]
              rintro (⟨_, _, _, h⟩ | h | h)
              · cases h
              · omega
              · omega
            clear k0 HK bt bf
            go_wp2_with fail
            go_ret
            exact ⟨rfl, AB.out⟩
          | true =>
          by_cases l0 : x.l = 0
          · have l0' := bt l0
            by_cases s0 : x.s = 0
            · have s0' := bt s0
              obtain rfl : o = true := by rw [← HK.out, kind_0 k0 l0 s0]; exact HZ.out
              clear k0 l0 s0 HK bt bf
              go_wp2_with fail
              go_ret
              exact ⟨rfl, AB.out⟩
            · have s0' := bf s0
              obtain rfl : o = false := by rw [← HK.out]; exact kind_not (fun _ h => s0 h.2) (by omega) (by omega)
              clear k0 l0 s0 HK bt bf
              go_wp2_with fail
              go_ret
              exact ⟨rfl, AB.out⟩
          · have l0' := bf l0
            obtain rfl : o = false := by rw [← HK.out]; exact kind_not (fun _ h => l0 h.1) (by omega) (by omega)
            clear k0 l0 HK bt bf
            go_wp2_with fail
            go_ret
            exact ⟨rfl, AB.out⟩
        have k0' := bf k0
        by_cases s0 : x.s < 0
        · obtain rfl : o = false := by
            rw [← HK.out]
            simp only [Nd.kind, decide_eq_false_iff_not]
            omega
          clear k0 HK bt bf
          go_wp2_with fail
          go_ret
          exact ⟨rfl, AB.out⟩
        by_cases s1 : 9728 < x.s
        · obtain rfl : o = false := by
            rw [← HK.out]
            simp only [Nd.kind, decide_eq_false_iff_not]
            omega
          clear k0 HK bt bf
          go_wp2_with fail
          go_ret
          exact ⟨rfl, AB.out⟩
        by_cases k1 : x.k = 1
        · have k1' := bt k1
          by_cases l1 : 1 ≤ x.l
          · by_cases l2 : x.l ≤ 255
            · obtain rfl : o = true := by rw [← HK.out]; exact kind_1 k1 l1 l2 (by omega) (by omega)
              clear k0 k1 HK bt bf
              go_wp2_with fail
              go_ret
              exact ⟨rfl, AB.out⟩
            · obtain rfl : o = false := by rw [← HK.out]; exact kind_not (by omega) (by omega) (by omega)
              clear k0 k1 HK bt bf
              go_wp2_with fail
              go_ret
              exact ⟨rfl, AB.out⟩
          · obtain rfl : o = false := by rw [← HK.out]; exact kind_not (by omega) (by omega) (by omega)
            clear k0 k1 HK bt bf
            go_wp2_with fail
            go_ret
            exact ⟨rfl, AB.out⟩
        have k1' := bf k1
        by_cases k2 : x.k = 2
        · have k2' := bt k2
          by_cases l1 : x.l = 1
          · have l1' := bt l1
            have s0' : 0 ≤ x.s := by omega
            by_cases s2 : x.s % 32 = 0
            · have s2' := bt s2
              obtain rfl : o = true := by rw [← HK.out]; exact kind_2 k2 l1 s2 (by omega) (by omega)
              clear k0 k1 k2 l1 s2 HK bt bf
              go_wp2_with fail
              go_ret
              exact ⟨rfl, AB.out⟩
            · have s2' := bf s2
              obtain rfl : o = false := by rw [← HK.out]; exact kind_not (by omega) (by omega) (fun _ h => s2 h.2)
              clear k0 k1 k2 l1 s2 HK bt bf
              go_wp2_with fail
              go_ret
              exact ⟨rfl, AB.out⟩
          · have l1' := bf l1
            obtain rfl : o = false := by rw [← HK.out]; exact kind_not (by omega) (by omega) (fun _ h => l1 h.1)
            clear k0 k1 k2 l1 HK bt bf
            go_wp2_with fail
            go_ret
            exact ⟨rfl, AB.out⟩
        have k2' := bf k2
        obtain rfl : o = false := by rw [← HK.out]; exact kind_not (fun h => absurd h k0) (fun h => absurd h k1) (fun h => absurd h k2)
        clear k0 k1 k2 HK bt bf
        go_wp2_with fail
        go_ret
        exact ⟨rfl, AB.out⟩)
end Go.Proofs.Ytijphembfohfnaa
