/- copyholdref17.Short, walked. -/
import Derived.Test.YtfignanjelebaaaVRefA
namespace Go.Proofs.Ytfignanjelebaaa
open Go.RowKit
set_option linter.unusedVariables false
theorem st_low {r : Rp} (h : r.Good) : ∀ n ∈ r.st, 0 ≤ n ∧ n < 4294967296 := fun n hn => h.nums n (by simp only [Rp.xs, List.mem_append]; exact .inr hn)
theorem e_low {r : Rp} (h : r.Good) : ∀ n ∈ [r.e], 0 ≤ n ∧ n < 4294967296 := fun n hn => h.nums n (by simp [Rp.xs] at hn ⊢; simp [hn])
set_option maxRecDepth 100000 in
set_option maxHeartbeats 4000000 in
theorem refShort_any (r : Rp) (A A' : Option Addr) (n c n' c' B : Nat) (w : World) (hn : r.d.length = n) (h : Strs w B A' n' c' r.ns) (hB : B ≤ w.heap.size) : Calls Try.prog 26 #[.agg (rc r A n c A' n' c').toArray] w fun e w' => e = .returned (.string ⟨(if r.Good then r.short else []).toArray⟩) ∧ Below w.heap.size w w' := by
  obtain ⟨a0, ab, az⟩ := box1 w (Obj.cells (rc r A n c A' n' c').toArray 44)
  have A0 := Lib.hid a0
  have AB := Lib.hid ab
  have AZ := Lib.hid az
  have HN := Lib.hid (h.below (ab.mono hB))
  clear a0 ab az h
  go_enter Try.func26, Try.ntmps26
  go_wp2_with (first | (refine wpList_load_row rfl 44 _ rfl w.heap.size rfl _ _ _ A0.out _ Try.underlying44 rfl s44 ?_) | fail)
  refine (refRight_any r A A' n c n' c' B _ hn HN.out (by rw [AZ.out]; omega)).mono ?_
  rintro e w1 ⟨rfl, hb1⟩
  have A1 : Hid (w1.heap[w.heap.size]? = some (.cells (rc r A n c A' n' c').toArray 44 (0, 0))) := (hb1.block _ (by rw [AZ.out]; omega)).trans A0.out
  have AB1 : Hid (Below w.heap.size w w1) := AB.out.trans (hb1.mono (by rw [AZ.out]; omega))
  have hs1 : w.heap.size < w1.heap.size := by have := hb1.size; rw [AZ.out] at this; omega
  clear hb1 AB A0 AZ HN
  by_cases hg : r.Good
  case neg =>
    rw [decide_eq_false hg]
    have HG := Lib.hid hg
    clear hg
    go_wp2_with fail
    go_ret
    exact ⟨rfl, AB1.out⟩
  rw [decide_eq_true hg]
  have HG := Lib.hid hg
  clear hg
  have HS : ∀ V, Hid (Below w1.heap.size w1 V → V.cell? ⟨w.heap.size, 3, none⟩ = some (.int .i64 r.e) ∧ V.rangeAt w.heap.size 4 (sc r)) := fun V hV => by
    obtain ⟨_, _, _, d3, _⟩ := rc_cells ((hV.block _ hs1).trans A1.out)
    exact ⟨d3, range_of ((hV.block _ hs1).trans A1.out) 4 (sc r) (fun j u h => by
      match j, h with
      | 0, h | 1, h | 2, h | 3, h | 4, h | 5, h => exact h)⟩
  have HB0 : Hid (Below w1.heap.size w1 w1.drew) := (Below.refl _ _).drew
  obtain ⟨b0, bb, bz⟩ := box1 w1.drew (Obj.cells ([r.e].map iv).toArray 3)
  have B0 := Lib.hid b0
  have HB1 : Hid (Below w1.heap.size w1 (w1.drew.alloc (Obj.cells ([r.e].map iv).toArray 3))) := HB0.out.trans bb
  have e1 := str_app (nums [r.e]) (nums r.st)
  have z1 : ¬ 9223372036854775807 < (nums [r.e]).length + (nums r.st).length := by rw [nums_length, nums_length]; simp [Rp.st]
  clear b0 bb bz
  go_upto_region 3 with fail
  refine wp_region_noPanic ?_
  refine wp_region_held_drew (S := fun V => V.cell? ⟨w.heap.size, 3, none⟩ = some (.int .i64 r.e) ∧ V.rangeAt w.heap.size 4 (sc r)) (by kernel_rfl) (HS _ |>.out HB0.out) (fun hHeld => ?_)
  refine wpAnyH_take (i := 0) (oi := _) (v := ?_) rfl (by kernel_rfl) (by kernel_rfl) (by kernel_rfl) (fun _ _ _ h => h) (Or.inl ⟨by rfl, ?_⟩) (by assumption) ?_
  rotate_left
  · intro w hSw; (try dsimp only at hSw); go_simp <;> with_reducible rfl
  refine wpAnyH_take (i := 1) (oi := _) (v := ?_) rfl (by kernel_rfl) (by kernel_rfl) (by kernel_rfl) (fun _ _ _ h => h) (Or.inl ⟨by rfl, ?_⟩) (by assumption) ?_
  rotate_left
  · intro w hSw; (try dsimp only at hSw); go_simp <;> with_reducible rfl
  refine wpAnyH_take (i := 4) (oi := _) (v := ?_) rfl (by kernel_rfl) (by kernel_rfl) (by kernel_rfl) (fun _ _ _ h => h) (Or.inl ⟨by rfl, ?_⟩) (by assumption) ?_
  rotate_left
  · intro w hSw; (try dsimp only at hSw); go_simp <;> with_reducible rfl
  refine wpAnyH_take (i := 5) (oi := _) (v := .agg (sc r).toArray) rfl (by kernel_rfl) (by kernel_rfl) (by kernel_rfl) (fun _ _ _ h => h) (yieldsIf_load_mid (by rfl) 41 _ rfl w.heap.size (4) rfl (sc r) _ (fun V hV => hV.2) und41 rfl s41) (by assumption) ?_
  refine wpAnyH_ready (rs := [2]) (by kernel_rfl) (by simp) ?_
  refine AllReadyH.cons (o := _) rfl (fun K hK => ?_) AllReadyH.nil
  go_simp
  refine hK.out _ _ (HS _ |>.out HB1.out) (fun hHeld => ?_)
  clear hK K
  refine wpAnyH_ready (rs := [3]) (by kernel_rfl) (by simp) ?_
  refine AllReadyH.cons (o := _) rfl (fun K hK => ?_) AllReadyH.nil
  go_simp
  go_at_call 37
  refine (nums_any [r.e] (e_low HG.out) (by show 1 ≤ 10; omega) w1.heap.size _ B0.out).mono ?_
  rintro e w3 ⟨rfl, hb3⟩
  have HB3 := Lib.hid (HB1.out.trans (hb3.mono HB1.out.size))
  clear hb3
  go_wp2_with fail
  refine hK.out _ _ (HS _ |>.out HB3.out) (fun hHeld => ?_)
  clear hK K
  refine wpAnyH_ready (rs := [6]) (by kernel_rfl) (by simp) ?_
  refine AllReadyH.cons (o := _) rfl (fun K hK => ?_) AllReadyH.nil
  go_simp
  go_at_call 56
  refine (stat_any r _).mono ?_
  rintro e w4 ⟨g, rfl, hg4, hb4, hl4⟩
  have HB4 := Lib.hid (HB3.out.trans (hb4.mono HB3.out.size))
  have G4 := Lib.hid hg4
  clear hb4 hg4 hl4
  go_wp2_with fail
  refine hK.out _ _ (HS _ |>.out HB4.out) (fun hHeld => ?_)
  clear hK K
  refine wpAnyH_ready (rs := [7]) (by kernel_rfl) (by simp) ?_
  refine AllReadyH.cons (o := _) rfl (fun K hK => ?_) AllReadyH.nil
  go_simp
  go_at_call 37
  refine (nums_any r.st (st_low HG.out) (by show 6 ≤ 10; omega) _ _ G4.out).mono ?_
  rintro e w5 ⟨rfl, hb5⟩
  have HB5 := Lib.hid (HB4.out.trans (hb5.mono HB4.out.size))
  clear hb5
  go_wp2_with fail
  refine hK.out _ _ (HS _ |>.out HB5.out) (fun hHeld => ?_)
  clear hK K
  refine wpAnyH_take (i := 8) (oi := _) (v := ?_) rfl (by kernel_rfl) (by kernel_rfl) (by kernel_rfl) (fun _ _ _ h => h) (Or.inl ⟨by rfl, ?_⟩) (by assumption) ?_
  rotate_left
  · intro w hSw; (try dsimp only at hSw); go_simp <;> with_reducible rfl
  refine wpAnyH_take (i := 9) (oi := _) (v := ?_) rfl (by kernel_rfl) (by kernel_rfl) (by kernel_rfl) (fun _ _ _ h => h) (Or.inl ⟨by rfl, ?_⟩) (by assumption) ?_
  rotate_left
  · intro w hSw; (try dsimp only at hSw); go_simp <;> with_reducible rfl
  refine wpAnyH_done (by kernel_rfl) ?_ _
  refine NoPanic.normal ?_
  go_wp2_with fail
  go_ret
  have HE : r.short = nums [r.e] ++ nums r.st := nums_append [r.e] r.st
  exact ⟨by rw [HE]; rfl, AB1.out.trans (HB5.out.mono (by omega))⟩
end Go.Proofs.Ytfignanjelebaaa
