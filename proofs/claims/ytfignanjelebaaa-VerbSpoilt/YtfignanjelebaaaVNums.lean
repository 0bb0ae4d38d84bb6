/- copyholdref17: nums, stat, walked. -/
import Derived.Test.YtfignanjelebaaaVEq
namespace Go.Proofs.Ytfignanjelebaaa
open Go.RowKit
set_option linter.unusedVariables false
theorem nums_take {xs : List Int} {k q : Nat} (h : k < xs.length) (hq : xs[k] = (q : Int)) : nums (xs.take (k + 1)) = nums (xs.take k) ++ lit 4 q := by
  rw [List.take_succ_eq_append_getElem h, nums_append, hq]
  simp [nums]
set_option maxHeartbeats 1000000 in
theorem nums_any (xs : List Int) (hx : ∀ n ∈ xs, 0 ≤ n ∧ n < 4294967296) (hl : xs.length ≤ 10) (g : Nat) (w : World) (h : w.heap[g]? = some (.cells (xs.map iv).toArray 3 (0, 0))) :
    Calls Try.prog 37 #[.slice (some ⟨g, 0, none⟩) xs.length xs.length] w fun e w' => e = .returned (.string ⟨(nums xs).toArray⟩) ∧ Below w.heap.size w w' := by
  have HX := Lib.hid hx
  have H := Lib.hid h
  have hg : g < w.heap.size := lt_of_heap h
  clear h hx
  go_enter Try.func37, Try.ntmps37
  go_wp2_with fail
  go_loopw [3, 4] (fun s i wr => ∃ k : Nat, k ≤ xs.length ∧ i = .int .i64 k ∧ s = .string ⟨(nums (xs.take k)).toArray⟩ ∧ Hid (Below w.heap.size w wr)) (fun _ i _ => xs.length - (intOf i).toNat)
  case atStart => exact ⟨0, Nat.zero_le _, rfl, by simp [nums], Below.refl _ _⟩
  case round =>
    obtain ⟨k, hk, rfl, rfl, HB⟩ := hrel
    by_cases hlt : k < xs.length
    · obtain ⟨q, hq, hq2⟩ : ∃ q : Nat, xs[k] = (q : Int) ∧ q < 4294967296 := by
        have := HX.out xs[k] (List.getElem_mem hlt)
        exact ⟨xs[k].toNat, by omega, by omega⟩
      have hc : wr.cell? ⟨g, k, none⟩ = some (.int .i64 (q : Int)) := by
        rw [cell_of_row wr g k _ 3 (0, 0) ((HB.out.block g hg).trans H.out)]
        simp [iv, hlt, hq]
      have E1 := Lib.hid (str_app (nums (xs.take k)) (lit 4 q))
      have E2 := Lib.hid (nums_take hlt hq)
      have hln : (nums (xs.take k)).length = 4 * k := by rw [nums_length, List.length_take]; omega
      have z1 : ¬ 9223372036854775807 < (nums (xs.take k)).length + (lit 4 q).length := by rw [lit_length]; omega
      clear hq hln
      go_wp2_with fail
      refine (little_any q 4 _ (by omega) (by omega)).mono ?_
      rintro e w1 ⟨rfl, hb⟩
      have HB1 := Lib.hid (HB.out.trans (hb.mono HB.out.size))
      clear hb hc
      go_wp2_with fail
      go_roundw
      case rel => exact ⟨k + 1, by omega, by go_num, by rw [E1.out, E2.out], HB1⟩
      case measure => simp [intOf]; omega
    · obtain rfl : k = xs.length := by omega
      rw [List.take_length]
      go_wp2_with fail
      go_ret
      exact ⟨rfl, HB.out⟩
set_option maxHeartbeats 1000000 in
theorem stat_any (r : Rp) (w : World) : Calls Try.prog 56 #[.agg (sc r).toArray] w fun e w' => ∃ g, e = .returned (.slice (some ⟨g, 0, none⟩) 6 6) ∧ w'.heap[g]? = some (.cells (r.st.map iv).toArray 3 (0, 0)) ∧ Below w.heap.size w w' ∧ w.heap.size ≤ g := by
  obtain ⟨a0, ab, az⟩ := box1 w (Obj.cells (sc r).toArray 41)
  have A0 := Lib.hid a0
  have AB := Lib.hid ab
  have AZ := Lib.hid az
  clear a0 ab az
  obtain ⟨c0, c1, c2, c3, c4, c5⟩ := sc_cells A0.out
  go_enter Try.func56, Try.ntmps56
  go_wp2_with fail
  go_ret
  obtain ⟨b0, bb, bz⟩ := box1 (w.alloc (Obj.cells (sc r).toArray 41)) (Obj.cells (r.st.map iv).toArray 3)
  rw [AZ.out] at b0
  exact ⟨w.heap.size + 1, rfl, b0, AB.out.trans (bb.mono (by rw [AZ.out]; omega)), by omega⟩
end Go.Proofs.Ytfignanjelebaaa
