/- package verb: within, inBounds, tooLong, ContainsFunc, Changes, goodRecall. -/
import Derived.Test.YtfignanjelebaaaYOf
namespace Go.Proofs.Ytfignanjelebaaa
open Go.RowKit
set_option linter.unusedVariables false
def wthn (n a b : Int) : Prop := a ≤ n ∧ n ≤ b
instance (n a b : Int) : Decidable (wthn n a b) := inferInstanceAs (Decidable (a ≤ n ∧ n ≤ b))
theorem within_any (n a b : Int) (w : World) : Calls Try.prog 40 #[.int .i64 n, .int .i64 a, .int .i64 b] w fun e w' => e = .returned (.bool (decide (wthn n a b))) ∧ w = w' := by
  by_cases h0 : a ≤ n
  · by_cases h1 : n ≤ b
    · rw [decide_eq_true (show wthn n a b from ⟨h0, h1⟩)]
      go_enter Try.func40, Try.ntmps40
      go_wp2_with fail
      go_ret
      exact ⟨rfl, rfl⟩
    · rw [decide_eq_false (show ¬ wthn n a b from fun h => h1 h.2)]
      go_enter Try.func40, Try.ntmps40
      go_wp2_with fail
      go_ret
      exact ⟨rfl, rfl⟩
  · rw [decide_eq_false (show ¬ wthn n a b from fun h => h0 h.1)]
    go_enter Try.func40, Try.ntmps40
    go_wp2_with fail
    go_ret
    exact ⟨rfl, rfl⟩
set_option maxHeartbeats 1000000 in
theorem inB_any (ps : List (Nat × Nat)) (xs : List Int) (A : Option Addr) (n c : Nat) (w : World) (hA : Ptrs w A n ps) (hl : ps.length = xs.length) (hp : ∀ k (h : k < ps.length), w.cell? ⟨ps[k].1, ps[k].2, none⟩ = some (iv (xs[k]?.getD 0))) (hn : n ≤ 9223372036854775807) :
    Calls Try.prog 74 #[.slice A n c] w fun e w' => e = .returned (.bool (decide (∀ x ∈ xs, num x))) ∧ w = w' := by
  obtain ⟨o, ho⟩ : ∃ o, decide (∀ x ∈ xs, num x) = o := ⟨_, rfl⟩
  rw [ho]
  have HO := Lib.hid ho
  have HA := Lib.hid hA
  have HP := Lib.hid hp
  have hpl : ps.length = n := hA.len
  clear ho hA hp
  go_enter Try.func74, Try.ntmps74
  go_wp2_with fail
  go_loop [7] (fun i => ∃ m : Nat, m ≤ n ∧ i = .int .i64 m ∧ Hid (∀ j, j < m → num (xs[j]?.getD 0))) (fun i => n - (intOf i).toNat)
  case atStart => exact ⟨0, Nat.zero_le _, rfl, fun j hj => absurd hj (by omega)⟩
  case round =>
    obtain ⟨m, hm, rfl, H⟩ := hrel
    by_cases hlt : m < n
    · have hmp : m < ps.length := by omega
      obtain ⟨f, hAe, hc⟩ := HA.out.at_ hmp
      have hc2 := HP.out m hmp
      have hmem : xs[m]?.getD 0 ∈ xs := by
        rw [List.getElem?_eq_getElem (by omega)]
        exact List.getElem_mem _
      generalize ps[m] = p at *
      obtain ⟨pb, po⟩ := p
      subst hAe
      unfold PV at hc
      unfold iv at hc2
      by_cases hx : num (xs[m]?.getD 0)
      · have hnx := Lib.hid hx
        have HMEM := Lib.hid hmem
        have H' : Hid (∀ j, j < m + 1 → num (xs[j]?.getD 0)) := fun j hj => by
          rcases Nat.lt_or_ge j m with h1 | h1
          · exact H.out j h1
          · obtain rfl : j = m := by omega
            exact hnx.out
        generalize xs[m]?.getD 0 = x at *
        clear hx hmem
        go_wp2_with fail
        refine (within_any x 0 1073741824 w).mono ?_
        rintro e w1 ⟨rfl, rfl⟩
        rw [decide_eq_true (show wthn x 0 1073741824 from hnx.out)]
        go_wp2_with fail
        go_round
        case rel => exact ⟨m + 1, by omega, by go_num, H'⟩
        case measure => simp [intOf]; omega
      · obtain rfl : o = false := by
          rw [← HO.out, decide_eq_false_iff_not]
          exact fun h => hx (h _ hmem)
        have hnx := Lib.hid hx
        generalize xs[m]?.getD 0 = x at *
        clear hx hmem
        go_wp2_with fail
        refine (within_any x 0 1073741824 w).mono ?_
        rintro e w1 ⟨rfl, rfl⟩
        rw [decide_eq_false (show ¬ wthn x 0 1073741824 from hnx.out)]
        go_wp2_with fail
        go_ret
        exact ⟨rfl, rfl⟩
    · obtain rfl : m = n := by omega
      obtain rfl : o = true := by
        rw [← HO.out, decide_eq_true_eq]
        intro x hx
        obtain ⟨j, hj, e⟩ := List.mem_iff_getElem.1 hx
        have := H.out j (by omega)
        rwa [List.getElem?_eq_getElem hj, Option.getD_some, e] at this
      go_wp2_with fail
      go_ret
      exact ⟨rfl, rfl⟩
theorem tooLong_any (s : List UInt8) (w : World) : Calls Try.prog 76 #[.string ⟨s.toArray⟩] w fun e w' => e = .returned (.bool (decide (24 < s.length))) ∧ w = w' := by
  have hsz : (ByteArray.mk s.toArray).size = s.length := rfl
  by_cases h : 24 < s.length
  · rw [decide_eq_true h]
    have h2 : (24 : Int) < (s.length : Int) := by omega
    go_enter Try.func76, Try.ntmps76
    go_wp2_with fail
    go_ret
    exact ⟨rfl, rfl⟩
  · rw [decide_eq_false h]
    have h2 : ¬ (24 : Int) < (s.length : Int) := by omega
    go_enter Try.func76, Try.ntmps76
    go_wp2_with fail
    go_ret
    exact ⟨rfl, rfl⟩
def IdxQ (l : List (List UInt8)) (w : World) (e : Ending) (w' : World) : Prop := ∃ r : Int, e = .returned (.int .i64 r) ∧ ((r = -1 ∧ ∀ s ∈ l, s.length ≤ 24) ∨ (0 ≤ r ∧ ¬ ∀ s ∈ l, s.length ≤ 24)) ∧ w = w'
set_option maxHeartbeats 1000000 in
theorem index_any (l : List (List UInt8)) (A : Option Addr) (n c B : Nat) (w : World) (h : Strs w B A n c l) (hn : n ≤ 9223372036854775807) : Calls Try.prog 81 #[.slice A n c, .func (.func 76) #[] #[]] w (IdxQ l w) := by
  have H := Lib.hid h
  have hl := h.len
  clear h
  go_enter Try.func81, Try.ntmps81
  go_wp2_with fail
  go_loop [8] (fun i => ∃ m : Nat, m ≤ n ∧ i = .int .i64 m ∧ Hid (∀ j, j < m → (l[j]?.getD []).length ≤ 24)) (fun i => n - (intOf i).toNat)
  case atStart => exact ⟨0, Nat.zero_le _, rfl, fun j hj => absurd hj (by omega)⟩
  case round =>
    obtain ⟨m, hm, rfl, HJ⟩ := hrel
    by_cases hlt : m < n
    · obtain ⟨b, off, hAe, hb, hc⟩ := H.out.cell hlt
      have hmem : l[m]?.getD [] ∈ l := by
        rw [List.getElem?_eq_getElem (by omega)]
        exact List.getElem_mem _
      subst hAe
      by_cases hx : 24 < (l[m]?.getD []).length
      · have HX := Lib.hid hx
        have HMEM := Lib.hid hmem
        generalize l[m]?.getD [] = x at *
        clear hx hmem
        go_wp2_with fail
        refine (tooLong_any x w).mono ?_
        rintro e w1 ⟨rfl, rfl⟩
        rw [decide_eq_true HX.out]
        go_wp2_with fail
        go_ret
        exact ⟨_, rfl, .inr ⟨by omega, fun h => absurd (h x HMEM.out) (by have := HX.out; omega)⟩, rfl⟩
      · have HX := Lib.hid hx
        have H' : Hid (∀ j, j < m + 1 → (l[j]?.getD []).length ≤ 24) := fun j hj => by
          rcases Nat.lt_or_ge j m with h1 | h1
          · exact HJ.out j h1
          · obtain rfl : j = m := by omega
            exact Nat.le_of_not_lt HX.out
        generalize l[m]?.getD [] = x at *
        clear hx hmem
        go_wp2_with fail
        refine (tooLong_any x w).mono ?_
        rintro e w1 ⟨rfl, rfl⟩
        rw [decide_eq_false HX.out]
        go_wp2_with fail
        go_round
        case rel => exact ⟨m + 1, by omega, by go_num, H'⟩
        case measure => simp [intOf]; omega
    · obtain rfl : m = n := by omega
      go_wp2_with fail
      go_ret
      refine ⟨_, rfl, .inl ⟨rfl, fun s hs => ?_⟩, rfl⟩
      obtain ⟨j, hj, e⟩ := List.mem_iff_getElem.1 hs
      have := HJ.out j (by omega)
      rwa [List.getElem?_eq_getElem hj, Option.getD_some, e] at this
theorem contains_any (l : List (List UInt8)) (A : Option Addr) (n c B : Nat) (w : World) (h : Strs w B A n c l) (hn : n ≤ 9223372036854775807) : Calls Try.prog 75 #[.slice A n c, .func (.func 76) #[] #[]] w fun e w' => e = .returned (.bool (!decide (∀ s ∈ l, s.length ≤ 24))) ∧ w = w' := by
  have H := Lib.hid h
  clear h
  go_enter Try.func75, Try.ntmps75
  go_wp2_with fail
  refine (index_any l A n c B w H.out hn).mono ?_
  rintro e w1 ⟨r, rfl, ⟨rfl, hh⟩ | ⟨h0, hh⟩, rfl⟩
  · have HH := Lib.hid hh
    clear hh
    go_wp2_with fail
    go_ret
    exact ⟨by rw [decide_eq_true HH.out]; rfl, rfl⟩
  · have HH := Lib.hid hh
    clear hh
    have hb : decide (r ≥ 0) = true := decide_eq_true h0
    go_wp2_with fail
    go_ret
    exact ⟨by rw [decide_eq_false HH.out]; rfl, rfl⟩
/-- Cells of one block, by their places. -/
theorem cells_of {w : World} {g : Nat} {t : TypeId} {fr : Nat × Nat} {C : List Value} {os : List Nat} {vs : List Value} (hC : w.heap[g]? = some (.cells C.toArray t fr)) (hm : os.map (fun o => C[o]?) = vs.map some) :
    (os.map fun o => (g, o)).length = vs.length ∧ ∀ k (h : k < (os.map fun o => (g, o)).length), w.cell? ⟨((os.map fun o => (g, o))[k]).1, ((os.map fun o => (g, o))[k]).2, none⟩ = some (vs[k]?.getD undef) := by
  have hl : os.length = vs.length := by
    have := congrArg List.length hm
    simpa using this
  refine ⟨by simpa using hl, fun k h => ?_⟩
  have hk : k < os.length := by simpa using h
  have e : (os.map (fun o => C[o]?))[k]? = (vs.map some)[k]? := by rw [hm]
  have hk2 : k < vs.length := by omega
  rw [show ((os.map fun o => (g, o))[k]).1 = g by simp, cell_of_row w g _ _ t fr hC]
  simp only [List.getElem?_map, List.getElem?_eq_getElem hk, List.getElem?_eq_getElem hk2, Option.map_some, Option.some.injEq] at e
  simp [e, hk2]
theorem flds_of {base : Nat} {w : World} {g : Nat} {t : TypeId} {fr : Nat × Nat} {C : List Value} {os : List Nat} {vs : List Value} (hC : w.heap[g]? = some (.cells C.toArray t fr)) (ht : t ≠ 5) (hm : os.map (fun o => C[o]?) = vs.map some) : Flds base w (os.map fun o => (g, o)) vs := by
  have h := cells_of hC hm
  refine ⟨h.1, fun k hk => ⟨?_, h.2 k hk⟩⟩
  have e : ((os.map fun o => (g, o))[k]).1 = g := by simp
  rw [e]
  exact ⟨lt_of_heap hC, .inr ⟨_, _, _, hC, ht⟩⟩
theorem inB_of {W : World} {g c n : Nat} {t : TypeId} {fr : Nat × Nat} {C : List Value} {os : List Nat} {xs : List Int} {A : Option Addr} (hC : W.heap[g]? = some (.cells C.toArray t fr)) (hm : os.map (fun o => C[o]?) = (xs.map iv).map some) (hA : Ptrs W A n (os.map fun o => (g, o))) (hn : os.length ≤ 1000) :
    Calls Try.prog 74 #[.slice A n c] W fun e w' => e = .returned (.bool (decide (∀ x ∈ xs, num x))) ∧ W = w' := by
  have h := cells_of hC hm
  have hl : (os.map fun o => (g, o)).length = xs.length := by rw [h.1, List.length_map]
  have hn2 := hA.len
  rw [List.length_map] at hn2
  refine inB_any _ xs A n c W hA hl (fun k hk => ?_) (by omega)
  rw [h.2 k hk]
  have hk2 : k < xs.length := by omega
  simp [hk2]
set_option maxHeartbeats 1000000 in
theorem goodC_any (r : Rc) (w : World) : Calls Try.prog 58 #[.agg (kc r).toArray] w fun e w' => e = .returned (.bool (decide r.Good)) ∧ Below w.heap.size w w' := by
  obtain ⟨a0, ab, az⟩ := box1 w (Obj.cells (kc r).toArray 52)
  have A0 := Lib.hid a0
  have AB := Lib.hid ab
  clear a0 ab az
  go_enter Try.func58, Try.ntmps58
  go_wp2_with fail
  generalize w.alloc (Obj.cells (kc r).toArray 52) = W at *
  refine (ofRecall_any w.heap.size W).mono ?_
  rintro e w1 ⟨A, n, c, rfl, hp, hf, hb⟩
  have HP := Lib.hid hp
  have HB := Lib.hid (AB.out.trans (hb.mono AB.out.size))
  have A1 := Lib.hid ((hb.block w.heap.size (lt_of_heap A0.out)).trans A0.out)
  clear hp hf hb A0
  go_wp2_with fail
  refine (inB_of (xs := r.xs) A1.out rfl HP.out (by decide)).mono ?_
  rintro e w2 ⟨rfl, rfl⟩
  go_wp2_with fail
  go_ret
  refine ⟨?_, HB.out⟩
  have e : (∀ x ∈ r.xs, num x) ↔ r.Good := by simp [Rc.xs, Rc.Good]
  simp only [e]
  rfl
end Go.Proofs.Ytfignanjelebaaa
