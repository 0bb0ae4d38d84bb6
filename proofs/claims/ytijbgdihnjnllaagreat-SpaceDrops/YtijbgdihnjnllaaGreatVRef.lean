/- A file of the reference, in memory; its Read, Write. -/
import Derived.Test.YtijbgdihnjnllaaGreatVCutT
import Derived.Laws.DeepStrings4
namespace Go.Proofs.YtijbgdihnjnllaaGreat.V
open Go.RowKit
set_option linter.unusedVariables false
set_option maxRecDepth 20000
/-- A file's cells: its bytes, and which blocks are there. -/
def rc (l : List UInt8) (g : Nat → Bool) : List Value := .string (sb l) :: (List.range 76).map fun b => .bool (g b)
theorem rc_len (l : List UInt8) (g : Nat → Bool) : (rc l g).length = 77 := by simp [rc]
theorem rc_0 (l : List UInt8) (g : Nat → Bool) : (rc l g)[0]? = some (.string (sb l)) := rfl
theorem rc_b (l : List UInt8) (g : Nat → Bool) {b : Nat} (h : b < 76) : (rc l g)[1 + b]? = some (.bool (g b)) := by
  rw [Nat.add_comm]
  simp [rc, h]
theorem rc_one (l : List UInt8) (g : Nat → Bool) : ∀ v ∈ rc l g, v.oneCell' = true := fun v hv => by
  rcases List.mem_cons.1 hv with rfl | hv
  · rfl
  · obtain ⟨b, _, rfl⟩ := List.mem_map.1 hv; rfl
theorem s46 (l : List UInt8) (g : Nat → Bool) : (Tryz.prog.info? 46).map (·.size) = some (rc l g).toArray.size := by rw [List.size_toArray, rc_len]; kernel_rfl
def upb (g : Nat → Bool) (b : Nat) (x : Bool) : Nat → Bool := fun k => if k = b then x else g k
theorem rc_set0 (l l' : List UInt8) (g : Nat → Bool) : (rc l g).set 0 (.string (sb l')) = rc l' g := rfl
theorem rc_setb (l : List UInt8) (g : Nat → Bool) {b : Nat} (h : b < 76) (x : Bool) : (rc l g).set (1 + b) (.bool x) = rc l (upb g b x) := by
  rw [Nat.add_comm, rc, List.set_cons_succ, rc]
  congr 1
  apply List.ext_getElem?
  intro k
  by_cases hk : k < 76
  · by_cases e : k = b
    · subst e
      rw [List.getElem?_set_self (by simpa using hk)]
      simp [hk, upb]
    · rw [List.getElem?_set_ne (Ne.symm e)]
      simp [hk, upb, e]
  · rw [List.getElem?_eq_none (by simp; omega), List.getElem?_eq_none (by simp; omega)]
def RF (w : World) (b : Nat) (l : List UInt8) (g : Nat → Bool) : Prop := w.heap[b]? = some (.cells (rc l g).toArray 46 (0, 0))
section
variable {w w' : World} {b : Nat} {l l' : List UInt8} {g g' : Nat → Bool}
theorem RF.keep (h : RF w b l g) (he : w'.heap[b]? = w.heap[b]?) : RF w' b l g := he.trans h
theorem RF.lt (h : RF w b l g) : b < w.heap.size := (Array.getElem?_eq_some_iff.1 h).1
theorem RF.c0 (h : RF w b l g) : w.cell? ⟨b, 0, none⟩ = some (.string (sb l)) := by rw [cell_of_row w b 0 _ 46 _ h]; rfl
theorem RF.cb (h : RF w b l g) {k : Nat} (hk : k < 76) : w.cell? ⟨b, 1 + k, none⟩ = some (.bool (g k)) := by rw [cell_of_row w b (1 + k) _ 46 _ h, List.getElem?_toArray, rc_b l g hk]
theorem RF.free (h : RF w b l g) (i : Nat) : w.frozen? ⟨b, i, none⟩ = false := F.free_in h i
theorem RF.set0 (h : RF w b l g) : RF (w.setCell ⟨b, 0, none⟩ (.string (sb l'))) b l' g := by
  have := F.heap_set h 0 (.string (sb l'))
  rw [List.setIfInBounds_toArray, rc_set0] at this
  exact this
theorem RF.setb (h : RF w b l g) {k : Nat} (hk : k < 76) (x : Bool) : RF (w.setCell ⟨b, 1 + k, none⟩ (.bool x)) b l (upb g k x) := by
  have := F.heap_set h (1 + k) (.bool x)
  rw [List.setIfInBounds_toArray, rc_setb l g hk] at this
  exact this
end
theorem z46 : Tryz.zeroCells46 = (rc [] fun _ => false).toArray := by kernel_rfl
theorem sb_extract (l : List UInt8) (a b : Nat) : (sb l).extract a b = sb ((l.drop a).take (b - a)) := by
  apply ByteArray.ext
  simp [sb, List.take_drop, ByteArray.data_extract]
theorem sl_both (l : List UInt8) (a k : Nat) (h : a + k ≤ l.length) (W : World) : (Instr.slice 9 (.string (sb l)) (some (.int .i64 (a : Int))) (some (.int .i64 ((a : Int) + (k : Int)))) none).run Tryz.prog W = .ok (.string (sb ((l.drop a).take k))) W := by
  rw [run_slice_string_if W 9 (sb l) .i64 .i64 _ _ Tryz.underlying9, if_pos (by rw [sb_size]; omega), if_pos (by omega), show ((a : Int) + (k : Int)).toNat = a + k by omega, show ((a : Int)).toNat = a by omega, sb_extract, show a + k - a = k by omega]
theorem sl_lo (l : List UInt8) (a : Nat) (h : a ≤ l.length) (W : World) : (Instr.slice 9 (.string (sb l)) (some (.int .i64 (a : Int))) none none).run Tryz.prog W = .ok (.string (sb (l.drop a))) W := by
  rw [run_slice_string_l W 9 (sb l) Tryz.underlying9 .i64 _ (by omega) (by rw [sb_size]; omega), show ((a : Int)).toNat = a by omega, sb_extract, sb_size, List.take_of_length_le (by rw [List.length_drop]; omega)]
theorem sl_hi (l : List UInt8) (a : Nat) (h : a ≤ l.length) (W : World) : (Instr.slice 9 (.string (sb l)) none (some (.int .i64 (a : Int))) none).run Tryz.prog W = .ok (.string (sb (l.take a))) W := by
  rw [run_slice_string_h W 9 (sb l) Tryz.underlying9 .i64 _ (by omega) (by rw [sb_size]; omega), show ((a : Int)).toNat = a by omega, sb_extract, List.drop_zero, Nat.sub_zero]
set_option maxHeartbeats 1000000 in
theorem rfRead_no (l : List UInt8) (g : Nat → Bool) (a z : Int) (w : World) (h : (l.length : Int) ≤ a) : Calls Tryz.prog 28 #[.agg (rc l g).toArray, .int .i64 a, .int .i64 z] w fun e w' => e = .returned (.string (sb [])) ∧ Below w.heap.size w w' := by
  have hs := s46 l g
  go_enter Tryz.func28, Tryz.ntmps28
  go_upto_region 1 with fail
  obtain ⟨a0, a1, a2⟩ := D.box1 w (Obj.cells (rc l g).toArray 46)
  generalize w.alloc (Obj.cells (rc l g).toArray 46) = W at *
  have A0 : RF W w.heap.size l g := a0
  have c0 := A0.c0
  have hl := sb_size l
  have AB := Lib.hid a1
  clear a0 a1 a2
  go_wp2_with fail
  go_ret
  exact ⟨rfl, AB.out⟩
set_option maxHeartbeats 1000000 in
theorem rfRead_some (l : List UInt8) (g : Nat → Bool) (a z k : Nat) (w : World) (h : a < l.length) (hl : l.length ≤ 9728) (hz : z ≤ 9728) (hk : min z (l.length - a) = k) : Calls Tryz.prog 28 #[.agg (rc l g).toArray, .int .i64 a, .int .i64 z] w fun e w' => e = .returned (.string (sb ((l.drop a).take k))) ∧ Below w.heap.size w w' := by
  have hs := s46 l g
  have hx := sl_both l a k (by omega)
  by_cases hc : l.length - a < z
  · go_enter Tryz.func28, Tryz.ntmps28
    go_upto_region 1 with fail
    obtain ⟨a0, a1, a2⟩ := D.box1 w (Obj.cells (rc l g).toArray 46)
    generalize w.alloc (Obj.cells (rc l g).toArray 46) = W at *
    have A0 : RF W w.heap.size l g := a0
    have c0 := A0.c0
    have hl := sb_size l
    have AB := Lib.hid a1
    clear a0 a1 a2
    generalize l.length = n at *
    obtain rfl : k = n - a := by omega
    have e2 : (n : Int) - (a : Int) = ((n - a : Nat) : Int) := by omega
    clear hk
    go_wp2_with fail
    go_ret
    exact ⟨rfl, AB.out⟩
  · go_enter Tryz.func28, Tryz.ntmps28
    go_upto_region 1 with fail
    obtain ⟨a0, a1, a2⟩ := D.box1 w (Obj.cells (rc l g).toArray 46)
    generalize w.alloc (Obj.cells (rc l g).toArray 46) = W at *
    have A0 : RF W w.heap.size l g := a0
    have c0 := A0.c0
    have hl := sb_size l
    have AB := Lib.hid a1
    clear a0 a1 a2
    generalize l.length = n at *
    obtain rfl : k = z := by omega
    clear hk
    go_wp2_with fail
    go_ret
    exact ⟨rfl, AB.out⟩
end Go.Proofs.YtijbgdihnjnllaaGreat.V
