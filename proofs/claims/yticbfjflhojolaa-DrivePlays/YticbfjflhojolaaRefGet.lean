/- The document's find, Get, Sure, Flush, walked. -/
import Derived.Test.YticbfjflhojolaaRef
namespace Go.Proofs.Yticbfjflhojolaa
open Go.RowKit
set_option linter.unusedVariables false

theorem RAt.at_ {w : World} {r N : Nat} {q : RD} {v : Value} (h : RAt w r N q v) {k : Nat} {d : Done} (hd : q.list[k]? = some d) :
    ∃ g c, v = .slice (some ⟨g, 0, none⟩) q.list.length c ∧ q.list.length ≤ c ∧ c ≤ maxLen ∧ g < w.heap.size ∧ g ≠ r ∧ w.cell? ⟨g, k * 3, none⟩ = some (.int .i64 (d.at_ : Int)) ∧ w.cell? ⟨g, k * 3 + 1, none⟩ = some (.string ⟨d.data.toArray⟩) ∧ w.cell? ⟨g, k * 3 + 2, none⟩ = some (.bool d.sure) ∧ w.frozen? ⟨g, k * 3 + 2, none⟩ = false := by
  have hk : k < q.list.length := (List.getElem?_eq_some_iff.1 hd).1
  have hne := h.ne
  rcases h.own.2 with ⟨_, h0⟩ | ⟨g, cap, cur, rfl, _, hg, hn, hm, hs, ht⟩
  · omega
  · have hl : ∀ x ∈ q.list, (dc x).length = 3 := fun x _ => rfl
    have key : ∀ j, j < 3 → w.cell? ⟨g, k * 3 + j, none⟩ = (dc d)[j]? := fun j hj => by
      have : (k + 1) * 3 ≤ q.list.length * 3 := Nat.mul_le_mul_right _ hk
      rw [cell_of hg, ← Array.getElem?_toList, ← flat_get hl hd hj, ← ht, List.getElem?_take, if_pos (by omega)]
    exact ⟨g, cap, rfl, hn, hm, (Array.getElem?_eq_some_iff.1 hg).1, fun e => hne (by simp [Value.ownBlock, e]), key 0 (by omega), key 1 (by omega), key 2 (by omega), frozen_of hg _⟩
theorem rets {a b : List UInt8} (h : a = b) : Ending.returned (.string ⟨a.toArray⟩) = .returned (.string ⟨b.toArray⟩) := by rw [h]
theorem rev_take {α : Type} {l : List α} {j : Nat} {x : α} (h : l[j]? = some x) : (l.take (j + 1)).reverse = x :: (l.take j).reverse := by
  obtain ⟨hk, rfl⟩ := List.getElem?_eq_some_iff.1 h
  rw [List.take_succ_eq_append_getElem hk, List.reverse_append]
  rfl
set_option maxHeartbeats 4000000 in
theorem find_any {w : World} {r N : Nat} {q : RD} {v : Value} (n : Int) (sure : Bool) (h : RAt w r N q v) :
    Calls Try.prog 33 #[.pointer (some ⟨r, 0, none⟩), .int .i64 n, .bool sure] w fun e w' => e = .returned (.string ⟨(q.find n sure).toArray⟩) ∧ Below w.heap.size w w' := by
  obtain ⟨A, c, hv, hc1, hc2⟩ := h.slice
  have h1 := h.st.c1
  rw [hv] at h1
  have HV := Lib.hid hv
  have H := Lib.hid h
  unfold maxLen at hc2
  clear hv h
  go_enter Try.func33, Try.ntmps33
  go_wp2_with fail
  go_loop [7] (fun i => ∃ m : Nat, m ≤ q.list.length ∧ i = .int .i64 ((m : Int) - 1) ∧ Hid (q.find n sure = fnd n sure (q.list.take m).reverse)) (fun i => (intOf i + 1).toNat)
  case atStart => exact ⟨q.list.length, Nat.le_refl _, rfl, by show _ = _; rw [List.take_length]; rfl⟩
  case round =>
    obtain ⟨m, hm, hi, HF⟩ := hrel
    cases m with
    | zero =>
      rw [show (((0 : Nat) : Int) - 1) = -1 from rfl] at hi
      subst hi
      obtain ⟨b, w1, hmk, ho, hbe, hb1⟩ := make128 w
      have hst := ho.str zeros_len
      have HB1 := Lib.hid hb1
      have HE : Hid (q.find n sure = zeros) := by
        have := HF.out
        rw [List.take_zero] at this
        exact this
      clear ho hbe hb1 HF
      go_wp2_with fail
      go_ret
      exact ⟨rets HE.out.symm, HB1.out⟩
    | succ j =>
      rw [show (((j + 1 : Nat) : Int) - 1) = (j : Int) by omega] at hi
      subst hi
      obtain ⟨d, hd⟩ : ∃ d, q.list[j]? = some d := ⟨_, List.getElem?_eq_getElem (by omega)⟩
      obtain ⟨g, c', hv, _, _, hg, hgr, k0, k1, k2, _⟩ := H.out.at_ hd
      have hv' : Value.slice A q.list.length c = .slice (some ⟨g, 0, none⟩) q.list.length c' := by rw [← HV.out, hv]
      obtain ⟨rfl, rfl⟩ : A = some ⟨g, 0, none⟩ ∧ c = c' := by simpa using hv'
      have hF := HF.out
      rw [rev_take hd] at hF
      clear hv hv' HF
      have HD := Lib.hid hd
      clear hd
      unfold fnd at hF
      have i0 : (0 : Int) ≤ (j : Int) := Int.natCast_nonneg _
      have i1 : (j : Int) < (q.list.length : Int) := by omega
      obtain ⟨at_, data, ds⟩ := d
      simp only at k0 k1 k2 hF
      by_cases hat : (at_ : Int) = n
      · subst hat
        cases ds with
        | true =>
          rw [if_pos ⟨rfl, .inl rfl⟩] at hF
          have HF := Lib.hid hF
          clear hF
          go_wp2_with fail
          go_ret
          exact ⟨rets HF.out.symm, Below.refl _ _⟩
        | false =>
          cases sure with
          | false =>
            rw [if_pos ⟨rfl, .inr rfl⟩] at hF
            have HF := Lib.hid hF
            clear hF
            go_wp2_with fail
            go_ret
            exact ⟨rets HF.out.symm, Below.refl _ _⟩
          | true =>
            rw [if_neg (by simp)] at hF
            have HF := Lib.hid hF
            clear hF
            go_wp2_with fail
            go_round
            case rel => exact ⟨j, by omega, by go_num, HF⟩
            case measure => simp [intOf]
      · have t1 : ((at_ : Int) == n) = false := by simpa using hat
        rw [if_neg (fun h => hat h.1)] at hF
        have HF := Lib.hid hF
        clear hF
        go_wp2_with fail
        go_round
        case rel => exact ⟨j, by omega, by go_num, HF⟩
        case measure => simp [intOf]
theorem sure_any {w : World} {r : Nat} {O : List Nat} {N : Nat} {q : RD} (n : Int) (h : RDrv w r O N q) :
    Calls Try.prog 24 #[.pointer (some ⟨r, 0, none⟩), .int .i64 n] w fun e w' => e = .returned (.string ⟨(q.find n true).toArray⟩) ∧ Below w.heap.size w w' := by
  obtain ⟨v, rfl, h⟩ := h
  have H := Lib.hid h
  clear h
  go_enter Try.func24, Try.ntmps24
  go_wp2_with fail
  refine (find_any n true H.out).mono ?_
  rintro e w' ⟨rfl, hb⟩
  have HB := Lib.hid hb
  clear hb
  go_wp2_with fail
  go_ret
  exact ⟨rfl, HB.out⟩
def rget (q : RD) (N : Nat) (n : Int) : List UInt8 × Int := if q.dead then ([], 11) else if inR N n then (q.find n false, 0) else ([], 4)
theorem rget_any {w : World} {r : Nat} {O : List Nat} {N : Nat} {q : RD} (n : Int) (h : RDrv w r O N q) :
    Calls Try.prog 21 #[.pointer (some ⟨r, 0, none⟩), .int .i64 n] w fun e w' => e = .returned (.tuple #[.string ⟨(rget q N n).1.toArray⟩, .int .i64 (rget q N n).2]) ∧ Below w.heap.size w w' := by
  obtain ⟨v, rfl, h⟩ := h
  have H := Lib.hid h
  have c3 := h.st.c3
  have c0 := h.st.c0
  clear h
  unfold rget
  cases hd : q.dead with
  | true =>
    rw [hd] at c3
    simp only [if_true]
    clear hd
    go_enter Try.func21, Try.ntmps21
    go_wp2_with fail
    go_ret2
    exact ⟨rfl, Below.refl _ _⟩
  | false =>
    rw [hd] at c3
    clear hd
    by_cases h0 : n < 0
    · have e : inR N n = false := by simp [inR]; omega
      simp only [e, Bool.false_eq_true, if_false]
      have t : decide (n < 0) = true := by simpa using h0
      go_enter Try.func21, Try.ntmps21
      go_wp2_with fail
      go_ret2
      exact ⟨rfl, Below.refl _ _⟩
    · have t : decide (n < 0) = false := by simpa using h0
      by_cases h1 : n < N
      · have e : inR N n = true := by simp [inR]; omega
        simp only [e, Bool.false_eq_true, if_false, if_true]
        have t2 : decide ((N : Int) ≤ n) = false := by simp; omega
        go_enter Try.func21, Try.ntmps21
        go_wp2_with fail
        refine (find_any n false H.out).mono ?_
        rintro e w' ⟨rfl, hb⟩
        have HB := Lib.hid hb
        clear hb
        go_wp2_with fail
        go_ret2
        exact ⟨rfl, HB.out⟩
      · have e : inR N n = false := by simp [inR]; omega
        simp only [e, Bool.false_eq_true, if_false]
        have t2 : decide ((N : Int) ≤ n) = true := by simp; omega
        go_enter Try.func21, Try.ntmps21
        go_wp2_with fail
        go_ret2
        exact ⟨rfl, Below.refl _ _⟩
end Go.Proofs.Yticbfjflhojolaa
