/- 'Write' of the reference: what is refused, and no byte. -/
import Derived.Test.YtijbgdihnjnllaaGreatVRefM
namespace Go.Proofs.YtijbgdihnjnllaaGreat.V
open Go.RowKit
set_option linter.unusedVariables false
set_option maxRecDepth 20000
set_option maxHeartbeats 1000000 in
theorem rfWrite_no (l d : List UInt8) (g : Nat → Bool) (a : Int) (w : World) (h : a < 0 ∨ 9728 < a ∨ 9728 - a < d.length) (hd : d.length ≤ 1000000) : Calls Tryz.prog 18 #[.agg (rc l g).toArray, .int .i64 a, .string (sb d)] w fun e w' => e = .returned (.tuple #[.agg (rc l g).toArray, .bool false]) ∧ Below w.heap.size w w' := by
  have hs := s46 l g
  have hsz := sb_size d
  have hc : a < 0 ∨ (¬ a < 0 ∧ 9728 < a) ∨ (¬ a < 0 ∧ ¬ 9728 < a ∧ 9728 - a < d.length) := by omega
  clear h
  rcases hc with h | ⟨h1, h⟩ | ⟨h1, h2, h⟩
  all_goals
    go_enter Tryz.func18, Tryz.ntmps18
    go_upto_region 1 with fail
    rw [z46]
    obtain ⟨a0, a1, a2, a3⟩ := D.box2 w (Obj.cells (rc l g).toArray 46) (Obj.cells (rc [] fun _ => false).toArray 46)
    generalize (w.alloc (Obj.cells (rc l g).toArray 46)).alloc (Obj.cells (rc [] fun _ => false).toArray 46) = W at *
    have A0 := Lib.hid a0
    have A1 := Lib.hid a1
    have AB := Lib.hid a2
    clear a0 a1 a2 a3
    generalize d.length = n at *
    go_wp2_with (first | (refine D.wpList_load_row rfl 46 _ rfl w.heap.size rfl _ _ _ A0.out _ Tryz.underlying46 rfl (s46 l g) ?_) | (refine D.wpList_store_row rfl 46 _ _ rfl (w.heap.size + 1) _ _ 46 rfl rfl A1.out (s46 l g) (by rw [List.size_toArray, List.size_toArray, rc_len, rc_len]) (all_oneCell_toArray (rc_one l g)) ?_) | fail)
    refine bodyPost_ret (D.ret_row2 rfl rfl (D.setRow_in _ _ _ _ _ A1.out) Tryz.underlying46 rfl (s46 l g)) rfl ?_
    exact ⟨rfl, below_setRow AB.out (by omega) _⟩
set_option maxHeartbeats 1000000 in
theorem rfWrite_nil (l : List UInt8) (g : Nat → Bool) (a : Nat) (w : World) (ha : a ≤ 9728) : Calls Tryz.prog 18 #[.agg (rc l g).toArray, .int .i64 (a : Int), .string (sb [])] w fun e w' => e = .returned (.tuple #[.agg (rc l g).toArray, .bool true]) ∧ Below w.heap.size w w' := by
  have hs := s46 l g
  have hsz : (sb []).size = 0 := rfl
  have hl0 : (sb []).toList = [] := sb_toList []
  go_enter Tryz.func18, Tryz.ntmps18
  go_upto_region 1 with fail
  rw [z46]
  obtain ⟨a0, a1, a2, a3⟩ := D.box2 w (Obj.cells (rc l g).toArray 46) (Obj.cells (rc [] fun _ => false).toArray 46)
  generalize (w.alloc (Obj.cells (rc l g).toArray 46)).alloc (Obj.cells (rc [] fun _ => false).toArray 46) = W at *
  have A0 := Lib.hid a0
  have A1 := Lib.hid a1
  have AB := Lib.hid a2
  clear a0 a1 a2 a3
  go_wp2_with (first | (refine D.wpList_load_row rfl 46 _ rfl w.heap.size rfl _ _ _ A0.out _ Tryz.underlying46 rfl (s46 l g) ?_) | (refine D.wpList_store_row rfl 46 _ _ rfl (w.heap.size + 1) _ _ 46 rfl rfl A1.out (s46 l g) (by rw [List.size_toArray, List.size_toArray, rc_len, rc_len]) (all_oneCell_toArray (rc_one l g)) ?_) | fail)
  refine bodyPost_ret (D.ret_row2 rfl rfl (D.setRow_in _ _ _ _ _ A1.out) Tryz.underlying46 rfl (s46 l g)) rfl ?_
  exact ⟨rfl, below_setRow AB.out (by omega) _⟩
end Go.Proofs.YtijbgdihnjnllaaGreat.V
