/- copyholdref17: Same, Alike of two that are equal, walked. -/
import Derived.Test.YtfignanjelebaaaVGood
import Derived.Test.YtfignanjelebaaaVRefA
namespace Go.Proofs.Ytfignanjelebaaa
open Go.RowKit
set_option linter.unusedVariables false
set_option maxRecDepth 100000 in
set_option maxHeartbeats 4000000 in
theorem refSame_eq (v : Vb) (A A' : Option Addr) (n c n' c' B : Nat) (w : World) (h : Bts w B A n c v.d) (h' : Bts w B A' n' c' v.d) (hB : B ≤ w.heap.size) : Calls Try.prog 17 #[.agg (vc v A n c).toArray, .agg (vc v A' n' c').toArray] w fun e w' => e = .returned (.bool true) ∧ Below w.heap.size w w' := by
  obtain ⟨a0, a1, ab, az⟩ := box2 w (Obj.cells (vc v A n c).toArray 26) (Obj.cells (vc v A' n' c').toArray 26)
  have A0 := Lib.hid a0
  have A1 := Lib.hid a1
  have AB := Lib.hid ab
  clear a0 a1 ab az
  obtain ⟨c0, c1, c2, c3, c4, c5, c6, c7, c8, c9, c10, c11, c12⟩ := vc_cells A0.out
  obtain ⟨d0, d1, d2, d3, d4, d5, d6, d7, d8, d9, d10, d11, d12⟩ := vc_cells A1.out
  have HR := Lib.hid (range_of A0.out 7 [.int .i64 v.nd, .int .i64 v.gn] (fun j u h => by
    match j, h with
    | 0, h | 1, h => exact h))
  have HR' := Lib.hid (range_of A1.out 7 [.int .i64 v.nd, .int .i64 v.gn] (fun j u h => by
    match j, h with
    | 0, h | 1, h => exact h))
  have hc1 := (h.below (AB.out.mono hB)).str ((w.alloc (Obj.cells (vc v A n c).toArray 26)).alloc (Obj.cells (vc v A' n' c').toArray 26)) (fun _ _ => rfl)
  have hc2 := (h'.below (AB.out.mono hB)).str ((w.alloc (Obj.cells (vc v A n c).toArray 26)).alloc (Obj.cells (vc v A' n' c').toArray 26)) (fun _ _ => rfl)
  have hq := eq23 9998 v.nd v.gn v.nd v.gn ((w.alloc (Obj.cells (vc v A n c).toArray 26)).alloc (Obj.cells (vc v A' n' c').toArray 26))
  rw [decide_eq_true ⟨rfl, rfl⟩] at hq
  go_enter Try.func17, Try.ntmps17
  go_wp2_with (first | (refine wpList_load_part rfl 23 _ rfl w.heap.size 7 rfl _ HR.out _ und23 rfl s23 ?_) | (refine wpList_load_part rfl 23 _ rfl (w.heap.size + 1) 7 rfl _ HR'.out _ und23 rfl s23 ?_) | fail)
  go_ret
  exact ⟨rfl, AB.out⟩
set_option maxRecDepth 100000 in
set_option maxHeartbeats 4000000 in
theorem refAlike_eq (r : Rp) (A A' X X' : Option Addr) (n c n' c' m k m' k' B : Nat) (w : World) (h : Bts w B A n c r.d) (h' : Bts w B A' n' c' r.d) (g : Strs w B X m k r.ns) (g' : Strs w B X' m' k' r.ns) (hm : m ≤ 1099511627776) (hB : B ≤ w.heap.size) :
    Calls Try.prog 21 #[.agg (rc r A n c X m k).toArray, .agg (rc r A' n' c' X' m' k').toArray] w fun e w' => e = .returned (.bool true) ∧ Below w.heap.size w w' := by
  obtain rfl : m' = m := by rw [← g.len, ← g'.len]
  obtain ⟨a0, a1, ab, az⟩ := box2 w (Obj.cells (rc r A n c X m' k).toArray 44) (Obj.cells (rc r A' n' c' X' m' k').toArray 44)
  have A0 := Lib.hid a0
  have A1 := Lib.hid a1
  have AB := Lib.hid ab
  clear a0 a1 ab az
  obtain ⟨c0, c1, c2, c3, c4, c5, c6, c7, c8, c9, c10, c11⟩ := rc_cells A0.out
  obtain ⟨d0, d1, d2, d3, d4, d5, d6, d7, d8, d9, d10, d11⟩ := rc_cells A1.out
  have HR := Lib.hid (range_of A0.out 4 [.int .i64 r.nd, .int .i64 r.gn, .int .i64 r.k, .int .i64 r.lk, .int .i64 r.sz, .int .i64 r.ch] (fun j u h => by
    match j, h with
    | 0, h | 1, h | 2, h | 3, h | 4, h | 5, h => exact h))
  have HR' := Lib.hid (range_of A1.out 4 [.int .i64 r.nd, .int .i64 r.gn, .int .i64 r.k, .int .i64 r.lk, .int .i64 r.sz, .int .i64 r.ch] (fun j u h => by
    match j, h with
    | 0, h | 1, h | 2, h | 3, h | 4, h | 5, h => exact h))
  have hc1 := (h.below (AB.out.mono hB)).str ((w.alloc (Obj.cells (rc r A n c X m' k).toArray 44)).alloc (Obj.cells (rc r A' n' c' X' m' k').toArray 44)) (fun _ _ => rfl)
  have hc2 := (h'.below (AB.out.mono hB)).str ((w.alloc (Obj.cells (rc r A n c X m' k).toArray 44)).alloc (Obj.cells (rc r A' n' c' X' m' k').toArray 44)) (fun _ _ => rfl)
  have hq : ∀ V, (Op.equalIn 10000 41 (.agg #[.int .i64 r.nd, .int .i64 r.gn, .int .i64 r.k, .int .i64 r.lk, .int .i64 r.sz, .int .i64 r.ch]) (.agg #[.int .i64 r.nd, .int .i64 r.gn, .int .i64 r.k, .int .i64 r.lk, .int .i64 r.sz, .int .i64 r.ch])).run Try.prog V = .ok true V := fun V => by
    have := eq41 r r V
    rw [decide_eq_true rfl] at this
    exact this
  have G := Lib.hid (g.below (AB.out.mono hB))
  have G' := Lib.hid (g'.below (AB.out.mono hB))
  clear h h' g g'
  go_enter Try.func21, Try.ntmps21
  go_wp2_with (first | (refine wpList_load_part rfl 41 _ rfl w.heap.size 4 rfl _ HR.out _ und41 rfl s41 ?_) | (refine wpList_load_part rfl 41 _ rfl (w.heap.size + 1) 4 rfl _ HR'.out _ und41 rfl s41 ?_) | fail)
  generalize (w.alloc (Obj.cells (rc r A n c X m' k).toArray 44)).alloc (Obj.cells (rc r A' n' c' X' m' k').toArray 44) = W at *
  clear hq hc1 hc2
  go_loopw [5] (fun i wr => ∃ j : Nat, j ≤ m' ∧ i = .int .i64 j ∧ Hid (Below W.heap.size W wr)) (fun i _ => m' - (intOf i).toNat)
  case atStart => exact ⟨0, Nat.zero_le _, rfl, Below.refl _ _⟩
  case round =>
    obtain ⟨j, hj, rfl, HB⟩ := hrel
    have hl0 := lt_of_heap A0.out
    have hl1 := lt_of_heap A1.out
    obtain ⟨_, _, _, _, _, _, _, _, _, _, _, f11⟩ := rc_cells ((HB.out.block _ hl0).trans A0.out)
    obtain ⟨_, _, _, _, _, _, _, _, _, _, _, g11⟩ := rc_cells ((HB.out.block _ hl1).trans A1.out)
    clear c0 c1 c2 c3 c4 c5 c6 c7 c8 c9 c10 c11 d0 d1 d2 d3 d4 d5 d6 d7 d8 d9 d10 d11
    by_cases hlt : j < m'
    · have hlt' : (j : Int) < (m' : Int) := by omega
      have hj0 : (0 : Int) ≤ (j : Int) := by omega
      obtain ⟨b, off, rfl, hb, hc⟩ := G.out.cell hlt
      obtain ⟨b', off', rfl, hb', hc'⟩ := G'.out.cell hlt
      have HC := Lib.hid ((HB.out.cell (p := ⟨b, off + j, none⟩) (by have := AB.out.size; show b < W.heap.size; omega)).trans hc)
      have HC' := Lib.hid ((HB.out.cell (p := ⟨b', off' + j, none⟩) (by have := AB.out.size; show b' < W.heap.size; omega)).trans hc')
      clear hc hc'
      generalize r.ns[j]?.getD [] = s at *
      have x1 := HC.out
      have x2 := HC'.out
      have HBd := Lib.hid HB.out.drew
      go_wp2_with fail
      go_region
      go_wp2_with fail
      go_roundw
      case rel => exact ⟨j + 1, by omega, by go_num, HBd⟩
      case measure => simp [intOf]; omega
    · obtain rfl : j = m' := by omega
      have hlt' : ¬ (j : Int) < (j : Int) := by omega
      go_wp2_with fail
      go_ret
      exact ⟨rfl, AB.out.trans (HB.out.mono (by have := AB.out.size; omega))⟩
end Go.Proofs.Ytfignanjelebaaa
