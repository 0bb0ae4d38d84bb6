/- node.pointersOf, walked. -/
import Derived.Test.YtijphembfohfnaaMem
namespace Go.Proofs.Ytijphembfohfnaa
open Go.RowKit
set_option linter.unusedVariables false
abbrev z6 : Array Value := #[.int .i64 0, .int .i64 0, .int .i64 0, .int .i64 0, .int .i64 0, .int .i64 0]
/-- The four of Direct. -/
def dc (x : Nd) : List Value := [iv x.d0, iv x.d1, iv x.d2, iv x.d3]
theorem dc_one (x : Nd) : ∀ v ∈ dc x, v.oneCell' = true := by
  intro v hv
  simp only [dc, List.mem_cons, List.not_mem_nil, or_false] at hv
  rcases hv with rfl | rfl | rfl | rfl <;> rfl
theorem dc_in {W : World} {g : Nat} {x : Nd} {t : TypeId} {fr : Nat × Nat} (h : W.heap[g]? = some (.cells (nc x).toArray t fr)) : ∀ j v, (dc x)[j]? = some v → W.cell? ((⟨g, 5, none⟩ : Addr).add j) = some v := by
  intro j v hv
  rw [Addr.add_mid, cell_of_row W g _ _ t fr h]
  match j, hv with
  | 0, hv => exact hv
  | 1, hv => exact hv
  | 2, hv => exact hv
  | 3, hv => exact hv
set_option maxHeartbeats 1000000 in
theorem pointersOf_any (x : Nd) (w : World) : Calls Try.prog 17 #[.agg (nc x).toArray] w fun e w' => e = .returned (.agg (pc x).toArray) ∧ Below w.heap.size w w' := by
  go_enter Try.func17, Try.ntmps17
  go_wp2_with fail
  obtain ⟨a0, a1, a2, ab, az⟩ := box3 w (Obj.cells (nc x).toArray 25) (Obj.cells z6 49) (Obj.cells z6 49)
  generalize ((w.alloc (Obj.cells (nc x).toArray 25)).alloc (Obj.cells z6 49)).alloc (Obj.cells z6 49) = W at *
  have A0 := Lib.hid a0
  have A1 := Lib.hid a1
  have AB := Lib.hid ab
  obtain ⟨W2, hr, hg2, hgr, hz2⟩ := copy_run (w := W.drew) (ty := 3) (dLen := 6) (dCap := 6) (sLen := 4) (sCap := 4) Try.underlying59 s3 (L := z6.toList) (off := 0) a2 (cs := dc x) rfl (dc_in (W := W.drew) a0) (by simp [dc]) (dc_one x)
  have A2 : Hid (W2.heap[w.heap.size]? = some (.cells (nc x).toArray 25 (0, 0))) := (hgr.block _ (by simp; omega) (by simp; omega)).trans a0
  have A3 : Hid (W2.heap[w.heap.size + 1]? = some (.cells z6 49 (0, 0))) := (hgr.block _ (by simp; omega) (by simp)).trans a1
  have B2 : Hid (Below w.heap.size w W2) := ab.drew.grown hgr (by simp; omega) (fun k hk => by cases hk; omega)
  have G2 := Lib.hid hg2
  have c9 : W2.cell? ⟨w.heap.size, 9, none⟩ = some (.int .i64 x.o) := cell_of_row _ _ 9 _ _ _ A2.out
  have c10 : W2.cell? ⟨w.heap.size, 10, none⟩ = some (.int .i64 x.t) := cell_of_row _ _ 10 _ _ _ A2.out
  have e4 : W2.cell? ⟨w.heap.size + 1 + 1, 4, none⟩ = some (.int .i64 0) := cell_of_row _ _ 4 _ _ _ G2.out
  have e5 : W2.cell? ⟨w.heap.size + 1 + 1, 5, none⟩ = some (.int .i64 0) := cell_of_row _ _ 5 _ _ _ G2.out
  have f4 := F.free_in G2.out 4
  have f5 := F.free_in G2.out 5
  have HB : Hid (Below w.heap.size w ((W2.setCell ⟨w.heap.size + 1 + 1, 4, none⟩ (.int .i64 x.o)).setCell ⟨w.heap.size + 1 + 1, 5, none⟩ (.int .i64 x.t))) := (B2.out.setCell (p := ⟨w.heap.size + 1 + 1, 4, none⟩) (by simp; omega) _).setCell (p := ⟨w.heap.size + 1 + 1, 5, none⟩) (by simp; omega) _
  have HG : Hid (((W2.setCell ⟨w.heap.size + 1 + 1, 4, none⟩ (.int .i64 x.o)).setCell ⟨w.heap.size + 1 + 1, 5, none⟩ (.int .i64 x.t)).heap[w.heap.size + 1 + 1]? = some (.cells (pc x).toArray 49 (0, 0))) := F.heap_set (F.heap_set G2.out 4 _) 5 _
  have HR : Hid (((W2.setCell ⟨w.heap.size + 1 + 1, 4, none⟩ (.int .i64 x.o)).setCell ⟨w.heap.size + 1 + 1, 5, none⟩ (.int .i64 x.t)).heap[w.heap.size + 1]? = some (.cells z6 49 (0, 0))) := by
    show _ = _
    rw [Below.heap_setCell _ _ _ _ (by simp), Below.heap_setCell _ _ _ _ (by simp)]
    exact A3.out
  clear a0 a1 a2 ab az hgr hg2 hz2
  go_region
  go_wp2_with (first | (refine wpList_load_row rfl 49 _ rfl (w.heap.size + 1 + 1) rfl _ _ _ HG.out _ Try.underlying49 rfl s49 ?_) | (refine wpList_store_row rfl 49 _ _ rfl (w.heap.size + 1) _ _ 49 rfl rfl HR.out s49 rfl (all_oneCell_toArray (pc_one x)) ?_) | fail)
  refine bodyPost_ret (ret_row rfl rfl (setRow_in _ _ _ _ _ HR.out) Try.underlying49 rfl s49) rfl ?_
  exact ⟨rfl, below_setRow HB.out (by omega) _⟩
end Go.Proofs.Ytijphembfohfnaa
