/- The reference of files, walked. -/
import Derived.Test.YtijbgdihnjnllaaGreatVTwo
import Derived.Laws.DeepStrings4
namespace Go.Proofs.YtijbgdihnjnllaaGreat.V
open Go.RowKit
set_option linter.unusedVariables false
set_option maxRecDepth 20000
/-- A file's cells: its bytes, and which blocks are there. -/
def rc (l : List UInt8) (g : Nat → Bool) : List Value := .string (sb l) :: (List.range 76).map fun b => .bool (g b)
theorem rc_len (l : List UInt8) (g : Nat → Bool) : (rc l g).length = 77 := by simp [rc]
theorem rc_b (l : List UInt8) (g : Nat → Bool) {b : Nat} (h : b < 76) : (rc l g)[1 + b]? = some (.bool (g b)) := by
  rw [Nat.add_comm]
  simp [rc, h]
theorem rc_one (l : List UInt8) (g : Nat → Bool) : ∀ v ∈ rc l g, v.oneCell' = true := fun v hv => by
  rcases List.mem_cons.1 hv with rfl | hv
  · rfl
  · obtain ⟨b, _, rfl⟩ := List.mem_map.1 hv; rfl
theorem s46 (l : List UInt8) (g : Nat → Bool) : (Tryz.prog.info? 46).map (·.size) = some (rc l g).toArray.size := by rw [List.size_toArray, rc_len]; kernel_rfl
def upb (g : Nat → Bool) (b : Nat) (x : Bool) : Nat → Bool := fun k => if k = b then x else g k
theorem rc_set0 (l l' : List UInt8) (g : Nat → Bool) : (rc l g).set 0 (.string (sb l')) = rc l' g := rfl
theorem rc_setb (l : List UInt8) (g : Nat → Bool) {b : Nat} (h : b < 76) (x : Bool) : (rc l g).set (1 + b) (.bool x) = rc l (upb g b x) := by
  rw [Nat.add_comm, rc, List.set_cons_succ, rc]
  congr 1
  apply List.ext_getElem?
  intro k
  by_cases hk : k < 76
  · by_cases e : k = b
    · subst e
      rw [List.getElem?_set_self (by simpa using hk)]
      simp [hk, upb]
    · rw [List.getElem?_set_ne (Ne.symm e)]
      simp [hk, upb, e]
  · rw [List.getElem?_eq_none (by simp; omega), List.getElem?_eq_none (by simp; omega)]
def RF (w : World) (b : Nat) (l : List UInt8) (g : Nat → Bool) : Prop := w.heap[b]? = some (.cells (rc l g).toArray 46 (0, 0))
section
variable {w w' : World} {b : Nat} {l l' : List UInt8} {g g' : Nat → Bool}
theorem RF.keep (h : RF w b l g) (he : w'.heap[b]? = w.heap[b]?) : RF w' b l g := he.trans h
theorem RF.lt (h : RF w b l g) : b < w.heap.size := (Array.getElem?_eq_some_iff.1 h).1
theorem RF.c0 (h : RF w b l g) : w.cell? ⟨b, 0, none⟩ = some (.string (sb l)) := by rw [cell_of_row w b 0 _ 46 _ h]; rfl
theorem RF.cb (h : RF w b l g) {k : Nat} (hk : k < 76) : w.cell? ⟨b, 1 + k, none⟩ = some (.bool (g k)) := by rw [cell_of_row w b (1 + k) _ 46 _ h, List.getElem?_toArray, rc_b l g hk]
theorem RF.free (h : RF w b l g) (i : Nat) : w.frozen? ⟨b, i, none⟩ = false := F.free_in h i
theorem RF.set0 (h : RF w b l g) : RF (w.setCell ⟨b, 0, none⟩ (.string (sb l'))) b l' g := by
  have := F.heap_set h 0 (.string (sb l'))
  rw [List.setIfInBounds_toArray, rc_set0] at this
  exact this
theorem RF.setb (h : RF w b l g) {k : Nat} (hk : k < 76) (x : Bool) : RF (w.setCell ⟨b, 1 + k, none⟩ (.bool x)) b l (upb g k x) := by
  have := F.heap_set h (1 + k) (.bool x)
  rw [List.setIfInBounds_toArray, rc_setb l g hk] at this
  exact this
end
theorem z46 : Tryz.zeroCells46 = (rc [] fun _ => false).toArray := by kernel_rfl
theorem sb_extract (l : List UInt8) (a b : Nat) : (sb l).extract a b = sb ((l.drop a).take (b - a)) := by
  apply ByteArray.ext
  simp [sb, List.take_drop, ByteArray.data_extract]
theorem sl_both (l : List UInt8) (a k : Nat) (h : a + k ≤ l.length) (W : World) : (Instr.slice 9 (.string (sb l)) (some (.int .i64 (a : Int))) (some (.int .i64 ((a : Int) + (k : Int)))) none).run Tryz.prog W = .ok (.string (sb ((l.drop a).take k))) W := by
  rw [run_slice_string_if W 9 (sb l) .i64 .i64 _ _ Tryz.underlying9, if_pos (by rw [sb_size]; omega), if_pos (by omega), show ((a : Int) + (k : Int)).toNat = a + k by omega, show ((a : Int)).toNat = a by omega, sb_extract, show a + k - a = k by omega]
theorem sl_lo (l : List UInt8) (a : Nat) (h : a ≤ l.length) (W : World) : (Instr.slice 9 (.string (sb l)) (some (.int .i64 (a : Int))) none none).run Tryz.prog W = .ok (.string (sb (l.drop a))) W := by
  rw [run_slice_string_l W 9 (sb l) Tryz.underlying9 .i64 _ (by omega) (by rw [sb_size]; omega), show ((a : Int)).toNat = a by omega, sb_extract, sb_size, List.take_of_length_le (by rw [List.length_drop]; omega)]
theorem sl_hi (l : List UInt8) (a : Nat) (h : a ≤ l.length) (W : World) : (Instr.slice 9 (.string (sb l)) none (some (.int .i64 (a : Int))) none).run Tryz.prog W = .ok (.string (sb (l.take a))) W := by
  rw [run_slice_string_h W 9 (sb l) Tryz.underlying9 .i64 _ (by omega) (by rw [sb_size]; omega), show ((a : Int)).toNat = a by omega, sb_extract, List.drop_zero, Nat.sub_zero]
set_option maxHeartbeats 1000000 in
theorem rfRead_no (l : List UInt8) (g : Nat → Bool) (a z : Int) (w : World) (h : (l.length : Int) ≤ a) : Calls Tryz.prog 28 #[.agg (rc l g).toArray, .int .i64 a, .int .i64 z] w fun e w' => e = .returned (.string (sb [])) ∧ Below w.heap.size w w' := by
  have hs := s46 l g
  go_enter Tryz.func28, Tryz.ntmps28
  go_upto_region 1 with fail
  obtain ⟨a0, a1, a2⟩ := D.box1 w (Obj.cells (rc l g).toArray 46)
  generalize w.alloc (Obj.cells (rc l g).toArray 46) = W at *
  have A0 : RF W w.heap.size l g := a0
  have c0 := A0.c0
  have hl := sb_size l
  have AB := Lib.hid a1
  clear a0 a1 a2
  go_wp2_with fail
  go_ret
  exact ⟨rfl, AB.out⟩
set_option maxHeartbeats 1000000 in
theorem rfRead_some (l : List UInt8) (g : Nat → Bool) (a z k : Nat) (w : World) (h : a < l.length) (hl : l.length ≤ 9728) (hz : z ≤ 9728) (hk : min z (l.length - a) = k) : Calls Tryz.prog 28 #[.agg (rc l g).toArray, .int .i64 a, .int .i64 z] w fun e w' => e = .returned (.string (sb ((l.drop a).take k))) ∧ Below w.heap.size w w' := by
  have hs := s46 l g
  have hx := sl_both l a k (by omega)
  by_cases hc : l.length - a < z
  · go_enter Tryz.func28, Tryz.ntmps28
    go_upto_region 1 with fail
    obtain ⟨a0, a1, a2⟩ := D.box1 w (Obj.cells (rc l g).toArray 46)
    generalize w.alloc (Obj.cells (rc l g).toArray 46) = W at *
    have A0 : RF W w.heap.size l g := a0
    have c0 := A0.c0
    have hl := sb_size l
    have AB := Lib.hid a1
    clear a0 a1 a2
    generalize l.length = n at *
    obtain rfl : k = n - a := by omega
    have e2 : (n : Int) - (a : Int) = ((n - a : Nat) : Int) := by omega
    clear hk
    go_wp2_with fail
    go_ret
    exact ⟨rfl, AB.out⟩
  · go_enter Tryz.func28, Tryz.ntmps28
    go_upto_region 1 with fail
    obtain ⟨a0, a1, a2⟩ := D.box1 w (Obj.cells (rc l g).toArray 46)
    generalize w.alloc (Obj.cells (rc l g).toArray 46) = W at *
    have A0 : RF W w.heap.size l g := a0
    have c0 := A0.c0
    have hl := sb_size l
    have AB := Lib.hid a1
    clear a0 a1 a2
    generalize l.length = n at *
    obtain rfl : k = z := by omega
    clear hk
    go_wp2_with fail
    go_ret
    exact ⟨rfl, AB.out⟩
end Go.Proofs.YtijbgdihnjnllaaGreat.V
namespace Go.Proofs.YtijbgdihnjnllaaGreat.V
open Go.RowKit
set_option linter.unusedVariables false
set_option maxRecDepth 20000
def noughts (k : Nat) : List UInt8 := List.replicate k 0
theorem mk_any (k : Nat) (hk : k ≤ 9728) (w : World) : (Instr.makeSlice 27 (.int .i64 (k : Int)) (.int .i64 (k : Int))).run Tryz.prog w = .ok (.slice (some ⟨w.heap.size, 0, none⟩) k k) (w.alloc (.cells (bc (noughts k)).toArray 5)) := by
  have h : (Tryz.prog.info? 5).map (fun i => (i.zero, i.size, i.bytes)) = some (some (.int .u8 0), 1, 1) := by kernel_rfl
  cases hq : Tryz.prog.info? 5 with
  | none => simp [hq] at h
  | some i =>
    simp only [hq, Option.map_some, Option.some.injEq, Prod.mk.injEq] at h
    have := run_makeSlice (P := Tryz.prog) w 27 5 i _ Tryz.underlying27 hq h.1 .i64 .i64 k k (by omega) (by omega) (by rw [h.2.1]; omega) (by rw [h.2.2]; omega) (by omega)
    rw [h.2.1] at this
    rw [this, show ((k : Int)).toNat = k by omega, Nat.mul_one]
    have e : madeCells (Value.int IntKind.u8 0).cells k = (bc (noughts k)).toArray := by
      apply Array.ext'
      unfold noughts bc
      rw [List.map_replicate]
      apply List.ext_getElem
      · simp [madeCells, Value.cells]
      · intro i h1 h2
        simp [madeCells, Value.cells, Nat.mod_one]
    rw [e]
/-- The text of bytes 0. -/
theorem mk_str (k : Nat) (hk : k ≤ 9728) (w W : World) (hW : W.heap[w.heap.size]? = some (.cells (bc (noughts k)).toArray 5 (0, 0))) : (convert 27 9 (.slice (some ⟨w.heap.size, 0, none⟩) k k)).run Tryz.prog W = .ok (.string (sb (noughts k))) W := by
  have hB : F.Bts W (w.heap.size + 1) (some ⟨w.heap.size, 0, none⟩) k k (noughts k) := ⟨by unfold noughts; simp, Nat.le_refl _, by unfold maxLen; omega, (fun e => by cases e), fun _ => ⟨w.heap.size, 0, rfl, by omega, fun j hj => by
    have hl : j < (noughts k).length := by unfold noughts; simpa using hj
    rw [Nat.zero_add, cell_of_row W _ j _ 5 _ hW, List.getElem?_toArray, bc_get hl]⟩⟩
  exact hB.str W fun _ _ => rfl
def pad (l : List UInt8) (a : Nat) : List UInt8 := l ++ noughts (a - l.length)
theorem pad_len (l : List UInt8) (a : Nat) : (pad l a).length = max l.length a := by unfold pad noughts; simp; omega
theorem pad_id {l : List UInt8} {a : Nat} (h : a ≤ l.length) : pad l a = l := by unfold pad noughts; rw [show a - l.length = 0 by omega]; simp
/-- The document's Write. -/
def wrL (l : List UInt8) (a : Nat) (d : List UInt8) : List UInt8 := (pad l a).take a ++ d ++ (pad l a).drop (a + d.length)
def wrG (g : Nat → Bool) (a n k : Nat) : Nat → Bool := fun b => g b || (decide (a / 128 ≤ b) && decide (b < a / 128 + k))
def slen (w : World) (b : Nat) : Nat := match w.cell? ⟨b, 0, none⟩ with | some (.string s) => s.size | _ => 0
theorem RF.slen {w : World} {b : Nat} {l : List UInt8} {g : Nat → Bool} (h : RF w b l g) : slen w b = l.length := by unfold V.slen; rw [h.c0]; rfl
end Go.Proofs.YtijbgdihnjnllaaGreat.V
namespace Go.Proofs.YtijbgdihnjnllaaGreat.V
open Go.RowKit
set_option linter.unusedVariables false
set_option maxRecDepth 20000
set_option maxHeartbeats 1000000 in
theorem rfWrite_no (l d : List UInt8) (g : Nat → Bool) (a : Int) (w : World) (h : a < 0 ∨ 9728 < a ∨ 9728 - a < d.length) (hd : d.length ≤ 1000000) : Calls Tryz.prog 18 #[.agg (rc l g).toArray, .int .i64 a, .string (sb d)] w fun e w' => e = .returned (.tuple #[.agg (rc l g).toArray, .bool false]) ∧ Below w.heap.size w w' := by
  have hs := s46 l g
  have hsz := sb_size d
  have hc : a < 0 ∨ (¬ a < 0 ∧ 9728 < a) ∨ (¬ a < 0 ∧ ¬ 9728 < a ∧ 9728 - a < d.length) := by omega
  clear h
  rcases hc with h | ⟨h1, h⟩ | ⟨h1, h2, h⟩
  all_goals
    go_enter Tryz.func18, Tryz.ntmps18
    go_upto_region 1 with fail
    rw [z46]
    obtain ⟨a0, a1, a2, a3⟩ := D.box2 w (Obj.cells (rc l g).toArray 46) (Obj.cells (rc [] fun _ => false).toArray 46)
    generalize (w.alloc (Obj.cells (rc l g).toArray 46)).alloc (Obj.cells (rc [] fun _ => false).toArray 46) = W at *
    have A0 := Lib.hid a0
    have A1 := Lib.hid a1
    have AB := Lib.hid a2
    clear a0 a1 a2 a3
    generalize d.length = n at *
    go_wp2_with (first | (refine D.wpList_load_row rfl 46 _ rfl w.heap.size rfl _ _ _ A0.out _ Tryz.underlying46 rfl (s46 l g) ?_) | (refine D.wpList_store_row rfl 46 _ _ rfl (w.heap.size + 1) _ _ 46 rfl rfl A1.out (s46 l g) (by rw [List.size_toArray, List.size_toArray, rc_len, rc_len]) (all_oneCell_toArray (rc_one l g)) ?_) | fail)
    refine bodyPost_ret (D.ret_row2 rfl rfl (D.setRow_in _ _ _ _ _ A1.out) Tryz.underlying46 rfl (s46 l g)) rfl ?_
    exact ⟨rfl, below_setRow AB.out (by omega) _⟩
set_option maxHeartbeats 1000000 in
theorem rfWrite_nil (l : List UInt8) (g : Nat → Bool) (a : Nat) (w : World) (ha : a ≤ 9728) : Calls Tryz.prog 18 #[.agg (rc l g).toArray, .int .i64 (a : Int), .string (sb [])] w fun e w' => e = .returned (.tuple #[.agg (rc l g).toArray, .bool true]) ∧ Below w.heap.size w w' := by
  have hs := s46 l g
  have hsz : (sb []).size = 0 := rfl
  have hl0 : (sb []).toList = [] := sb_toList []
  go_enter Tryz.func18, Tryz.ntmps18
  go_upto_region 1 with fail
  rw [z46]
  obtain ⟨a0, a1, a2, a3⟩ := D.box2 w (Obj.cells (rc l g).toArray 46) (Obj.cells (rc [] fun _ => false).toArray 46)
  generalize (w.alloc (Obj.cells (rc l g).toArray 46)).alloc (Obj.cells (rc [] fun _ => false).toArray 46) = W at *
  have A0 := Lib.hid a0
  have A1 := Lib.hid a1
  have AB := Lib.hid a2
  clear a0 a1 a2 a3
  go_wp2_with (first | (refine D.wpList_load_row rfl 46 _ rfl w.heap.size rfl _ _ _ A0.out _ Tryz.underlying46 rfl (s46 l g) ?_) | (refine D.wpList_store_row rfl 46 _ _ rfl (w.heap.size + 1) _ _ 46 rfl rfl A1.out (s46 l g) (by rw [List.size_toArray, List.size_toArray, rc_len, rc_len]) (all_oneCell_toArray (rc_one l g)) ?_) | fail)
  refine bodyPost_ret (D.ret_row2 rfl rfl (D.setRow_in _ _ _ _ _ A1.out) Tryz.underlying46 rfl (s46 l g)) rfl ?_
  exact ⟨rfl, below_setRow AB.out (by omega) _⟩
end Go.Proofs.YtijbgdihnjnllaaGreat.V
namespace Go.Proofs.YtijbgdihnjnllaaGreat.V
open Go.RowKit
set_option linter.unusedVariables false
set_option maxRecDepth 20000
theorem wrG_step (g : Nat → Bool) (a n j : Nat) : upb (wrG g a n j) (a / 128 + j) true = wrG g a n (j + 1) := by
  funext b
  unfold upb wrG
  by_cases e : b = a / 128 + j
  · rw [if_pos e]
    have h1 : a / 128 ≤ b := by omega
    have h2 : b < a / 128 + (j + 1) := by omega
    simp [h1, h2]
  · rw [if_neg e]
    congr 2
    rw [decide_eq_decide]
    omega
theorem wrG_zero (g : Nat → Bool) (a n : Nat) : wrG g a n 0 = g := by
  funext b
  unfold wrG
  have : (decide (a / 128 ≤ b) && decide (b < a / 128 + 0)) = false := by
    rw [Bool.and_eq_false_iff, decide_eq_false_iff_not, decide_eq_false_iff_not]; omega
  rw [this, Bool.or_false]
set_option maxHeartbeats 1000000 in
theorem rfWrite_some (l d : List UInt8) (g : Nat → Bool) (a n K : Nat) (w : World) (hl : l.length ≤ 9728) (hn : d.length = n) (h0 : 0 < n) (han : a + n ≤ 9728) (hK : (a + n - 1) / 128 + 1 - a / 128 = K) : Calls Tryz.prog 18 #[.agg (rc l g).toArray, .int .i64 (a : Int), .string (sb d)] w fun e w' => e = .returned (.tuple #[.agg (rc (wrL l a d) (wrG g a n K)).toArray, .bool true]) ∧ Below w.heap.size w w' := by
  have hs := s46 l g
  have hsz : (sb d).size = n := by rw [sb_size]; exact hn
  have hl0 : ((sb d).toList == []) = false := by rw [sb_toList]; cases d with | nil => simp at hn; omega | cons => rfl
  go_enter Tryz.func18, Tryz.ntmps18
  go_upto_region 1 with fail
  rw [z46]
  obtain ⟨a0, a1, a2, a3⟩ := D.box2 w (Obj.cells (rc l g).toArray 46) (Obj.cells (rc [] fun _ => false).toArray 46)
  generalize (w.alloc (Obj.cells (rc l g).toArray 46)).alloc (Obj.cells (rc [] fun _ => false).toArray 46) = W at *
  have A0 := Lib.hid a0
  have A1 := Lib.hid a1
  have AB := Lib.hid a2
  have hWs : w.heap.size + 1 < W.heap.size := by omega
  clear a0 a1 a2 a3
  go_wp2_with fail
  go_loopw [] (fun wr => Hid (∃ l1, RF wr w.heap.size l1 g ∧ (l1 = l ∨ (l.length < a ∧ l1 = pad l a)) ∧ wr.heap[w.heap.size + 1]? = W.heap[w.heap.size + 1]? ∧ Below w.heap.size w wr)) (fun wr => a - slen wr w.heap.size)
  case atStart => exact ⟨l, A0.out, .inl rfl, rfl, AB.out⟩
  case round =>
    obtain ⟨l1, hr, hl1, hk1, hb⟩ := hrel
    have hsl := hr.slen
    have hc0 := hr.c0
    have hf0 := hr.free 0
    have HR := Lib.hid hr
    have HB := Lib.hid hb
    have hs1 := sb_size l1
    by_cases hlt : l1.length < a
    · obtain rfl : l1 = l := hl1.resolve_right fun ⟨_, e⟩ => by rw [e, pad_len] at hlt; omega
      have hmk := mk_any (a - l1.length) (by omega)
      generalize hk : a - l1.length = k at *
      have hcv := mk_str k (by omega) wr
      obtain ⟨g0, g1, g2⟩ := D.box1 wr (Obj.cells (bc (noughts k)).toArray 5)
      have hc1 := hcv (wr.alloc (Obj.cells (bc (noughts k)).toArray 5)) g0
      have hc2 := hcv (wr.alloc (Obj.cells (bc (noughts k)).toArray 5)).drew g0
      have hm1 : (Instr.makeSlice 27 (.int .i64 (k : Int)) (.int .i64 (k : Int))).run Tryz.prog wr.drew = .ok (.slice (some ⟨wr.heap.size, 0, none⟩) k k) (wr.alloc (Obj.cells (bc (noughts k)).toArray 5)).drew := hmk wr.drew
      have hnk : (sb (noughts k)).size = k := by rw [sb_size]; unfold noughts; rw [List.length_replicate]
      have hap := sb_app l1 (noughts k)
      have hsub : (a : Int) - (l1.length : Int) = (k : Int) := by omega
      have hwl := hr.lt
      have R1 : RF (wr.alloc (Obj.cells (bc (noughts k)).toArray 5)).drew w.heap.size l1 g := hr.keep (g1.block _ hwl)
      have d0 := R1.c0
      have d1 := R1.free 0
      obtain ⟨v0, v1, v2⟩ := D.box1 (wr.setCell ⟨w.heap.size, 0, none⟩ (.string (sb (l1 ++ noughts k)))) (Obj.cells (bc (noughts k)).toArray 5)
      have hvs : (wr.setCell ⟨w.heap.size, 0, none⟩ (.string (sb (l1 ++ noughts k)))).heap.size = wr.heap.size := by simp
      have hw1 : w.heap.size + 1 < wr.heap.size := by have h2 : wr.heap[w.heap.size + 1]? = W.heap[w.heap.size + 1]? := hk1; exact Nat.lt_of_not_le fun hle => by rw [Array.getElem?_eq_none hle, Array.getElem?_eq_getElem hWs] at h2; cases h2
      have R2 : Hid (RF ((wr.setCell ⟨w.heap.size, 0, none⟩ (.string (sb (l1 ++ noughts k)))).alloc (Obj.cells (bc (noughts k)).toArray 5)).drew w.heap.size (l1 ++ noughts k) g) := (hr.set0 (l' := l1 ++ noughts k)).keep (v1.block _ (by omega))
      have R3 : Hid (((wr.setCell ⟨w.heap.size, 0, none⟩ (.string (sb (l1 ++ noughts k)))).alloc (Obj.cells (bc (noughts k)).toArray 5)).drew.heap[w.heap.size + 1]? = W.heap[w.heap.size + 1]?) := by
        show _ = _
        rw [← hk1]
        exact (v1.block _ (by omega)).trans (Below.heap_setCell _ _ _ _ (show w.heap.size + 1 ≠ w.heap.size by omega))
      have R4 : Hid (Below w.heap.size w ((wr.setCell ⟨w.heap.size, 0, none⟩ (.string (sb (l1 ++ noughts k)))).alloc (Obj.cells (bc (noughts k)).toArray 5)).drew) := ((hb.setCell (p := ⟨w.heap.size, 0, none⟩) (Nat.le_refl _) _).trans (v1.mono (by have := hb.size; omega))).drew
      have hlen : a - (l1 ++ noughts k).length < a - l1.length := by unfold noughts; rw [List.length_append, List.length_replicate]; omega
      have hpd : pad l1 a = l1 ++ noughts k := by unfold pad; rw [hk]
      clear hr hb hcv hmk g0 g1 g2 hk1 R1 v0 v1 v2 hvs hw1
      generalize l1.length = n1 at *
      go_wp2_with fail
      go_region
      go_wp2_with fail
      go_roundw
      case rel => exact ⟨l1 ++ noughts k, R2.out, .inr ⟨by omega, hpd.symm⟩, R3.out, R4.out⟩
      case measure => rw [hsl, R2.out.slen]; exact hlen
    · have hP : l1 = pad l a := hl1.elim (fun e => by rw [e] at hlt ⊢; exact (pad_id (by omega)).symm) (fun h => h.2)
      have hPl : l1.length = max l.length a := by rw [hP, pad_len]
      have k1 := sl_hi l1 a (by omega) wr
      have k2 : (sb (l1.take a)).size = a := by rw [sb_size, List.length_take]; omega
      have k3 := sb_app (l1.take a) d
      have k4 : (sb (l1.take a ++ d)).size = a + n := by rw [sb_size, List.length_append, List.length_take, hn]; omega
      have hW1 : Hid (wr.heap[w.heap.size + 1]? = W.heap[w.heap.size + 1]?) := hk1
      have q1 : ((a : Int)).tdiv 128 = ((a / 128 : Nat) : Int) := by rw [Int.tdiv_eq_ediv_of_nonneg (by omega)]; omega
      have HL : Hid (wrL l a d = l1.take a ++ (d ++ l1.drop (a + n))) := by show _ = _; unfold wrL; rw [← hP, hn, List.append_assoc]
      obtain ⟨r, hr0⟩ : ∃ r, l1.drop (a + n) = r := ⟨_, rfl⟩
      rw [hr0] at HL
      have k5 : (sb r).size ≤ 9728 := by rw [sb_size, ← hr0, List.length_drop]; omega
      have k6 : sb (l1.take a ++ d) ++ sb r = sb (l1.take a ++ (d ++ r)) := by rw [sb_app, List.append_assoc]
      have R2 := Lib.hid (hr.set0 (l' := wrL l a d))
      rw [HL.out] at R2
      have R3 : Hid ((wr.setCell ⟨w.heap.size, 0, none⟩ (.string (sb (l1.take a ++ (d ++ r))))).heap[w.heap.size + 1]? = W.heap[w.heap.size + 1]?) := by
        show _ = _
        rw [Below.heap_setCell _ _ _ _ (show w.heap.size + 1 ≠ w.heap.size by omega)]
        exact hk1
      have R4 : Hid (Below w.heap.size w (wr.setCell ⟨w.heap.size, 0, none⟩ (.string (sb (l1.take a ++ (d ++ r)))))) := hb.setCell (p := ⟨w.heap.size, 0, none⟩) (Nat.le_refl _) _
      clear hr hb HR HB hP hsl hk1 hl1 hW1
      by_cases hend : a + n < l1.length
      · have k7 := sl_lo l1 (a + n) (by omega) wr
        rw [hr0] at k7
        have k8 : ((a + n : Nat) : Int) = (a : Int) + (n : Int) := by omega
        rw [k8] at k7
        clear hPl hr0
        generalize l1.length = n1 at *
        go_wp2_with fail
        obtain ⟨qa, hqa⟩ : ∃ qa, a / 128 = qa := ⟨_, rfl⟩
        obtain ⟨qe, hqe⟩ : ∃ qe, (a + n - 1) / 128 = qe := ⟨_, rfl⟩
        have q3 : ((a : Int) + (n : Int) - 1) / 128 = (qe : Int) := by omega
        have hqk : qe + 1 - qa = K := by omega
        have HWG : Hid (∀ j, upb (wrG g a n j) (qa + j) true = wrG g a n (j + 1)) := fun j => by rw [← hqa]; exact wrG_step g a n j
        clear q1
        generalize wr = V0 at *
        go_loopw [10] (fun i wr => ∃ j : Nat, j ≤ K ∧ i = .int .i64 ((qa : Int) + (j : Int)) ∧ Hid (RF wr w.heap.size (l1.take a ++ (d ++ r)) (wrG g a n j) ∧ wr.heap[w.heap.size + 1]? = W.heap[w.heap.size + 1]? ∧ Below w.heap.size w wr)) (fun i _ => qa + K - (intOf i).toNat)
        case atStart => exact ⟨0, Nat.zero_le _, congrArg (Value.int IntKind.i64) (by omega), by rw [wrG_zero]; exact R2.out, R3.out, R4.out⟩
        case round =>
          obtain ⟨j, hj, rfl, hx⟩ := hrel
          have hX := Lib.hid hx
          by_cases hlt2 : j < K
          · have hjb : qa + j < 76 := by omega
            have hjt : ((qa : Int) + (j : Int)).toNat = qa + j := by omega
            have hf1 := hx.1.free (1 + (qa + j))
            obtain ⟨bb, hf2⟩ : ∃ bb, wr.cell? ⟨w.heap.size, 1 + (qa + j), none⟩ = some (.bool bb) := ⟨_, hx.1.cb hjb⟩
            have hle : (qa : Int) + (j : Int) ≤ (qe : Int) := by omega
            have N1 : Hid (RF (wr.setCell ⟨w.heap.size, 1 + (qa + j), none⟩ (.bool true)) w.heap.size (l1.take a ++ (d ++ r)) (wrG g a n (j + 1))) := by show RF _ _ _ _; rw [← HWG.out]; exact hx.1.setb hjb true
            have N2 : Hid ((wr.setCell ⟨w.heap.size, 1 + (qa + j), none⟩ (.bool true)).heap[w.heap.size + 1]? = W.heap[w.heap.size + 1]?) := by
              show _ = _
              rw [Below.heap_setCell _ _ _ _ (show w.heap.size + 1 ≠ w.heap.size by omega)]; exact hx.2.1
            have N3 : Hid (Below w.heap.size w (wr.setCell ⟨w.heap.size, 1 + (qa + j), none⟩ (.bool true))) := hx.2.2.setCell (p := ⟨w.heap.size, 1 + (qa + j), none⟩) (Nat.le_refl _) _
            clear hx
            go_wp2_with fail
            go_roundw
            case rel => exact ⟨j + 1, by omega, congrArg (Value.int IntKind.i64) (by omega), N1.out, N2.out, N3.out⟩
            case measure => simp [intOf]; omega
          · obtain rfl : j = K := by omega
            have hle : ¬ (qa : Int) + (j : Int) ≤ (qe : Int) := by omega
            have A1' : Hid (wr.heap[w.heap.size + 1]? = some (.cells (rc [] fun _ => false).toArray 46 (0, 0))) := hx.2.1.trans A1.out
            have X1 := Lib.hid hx.1
            have X2 := Lib.hid hx.2.2
            clear hx
            go_wp2_with (first | (refine D.wpList_load_row rfl 46 _ rfl w.heap.size rfl _ _ _ X1.out _ Tryz.underlying46 rfl (s46 _ _) ?_) | (refine D.wpList_store_row rfl 46 _ _ rfl (w.heap.size + 1) _ _ 46 rfl rfl A1'.out (s46 _ _) (by rw [List.size_toArray, List.size_toArray, rc_len, rc_len]) (all_oneCell_toArray (rc_one _ _)) ?_) | fail)
            refine bodyPost_ret (D.ret_row2 rfl rfl (D.setRow_in _ _ _ _ _ A1'.out) Tryz.underlying46 rfl (s46 _ _)) rfl ?_
            exact ⟨by rw [HL.out]; rfl, below_setRow X2.out (by omega) _⟩
      · obtain rfl : r = [] := by rw [← hr0]; exact List.drop_eq_nil_of_le (by omega)
        clear hPl hr0
        have k6 : sb (l1.take a ++ d) ++ ({ data := #[] } : ByteArray) = sb (l1.take a ++ d) := by have := sb_app (l1.take a ++ d) []; rw [List.append_nil] at this; exact this
        have k5 : (({ data := #[] } : ByteArray)).size = 0 := rfl
        rw [List.append_nil] at HL R2 R3 R4
        generalize l1.length = n1 at *
        go_wp2_with fail
        obtain ⟨qa, hqa⟩ : ∃ qa, a / 128 = qa := ⟨_, rfl⟩
        obtain ⟨qe, hqe⟩ : ∃ qe, (a + n - 1) / 128 = qe := ⟨_, rfl⟩
        have q3 : ((a : Int) + (n : Int) - 1) / 128 = (qe : Int) := by omega
        have hqk : qe + 1 - qa = K := by omega
        have HWG : Hid (∀ j, upb (wrG g a n j) (qa + j) true = wrG g a n (j + 1)) := fun j => by rw [← hqa]; exact wrG_step g a n j
        clear q1
        generalize wr = V0 at *
        go_loopw [10] (fun i wr => ∃ j : Nat, j ≤ K ∧ i = .int .i64 ((qa : Int) + (j : Int)) ∧ Hid (RF wr w.heap.size (l1.take a ++ d) (wrG g a n j) ∧ wr.heap[w.heap.size + 1]? = W.heap[w.heap.size + 1]? ∧ Below w.heap.size w wr)) (fun i _ => qa + K - (intOf i).toNat)
        case atStart => exact ⟨0, Nat.zero_le _, congrArg (Value.int IntKind.i64) (by omega), by rw [wrG_zero]; exact R2.out, R3.out, R4.out⟩
        case round =>
          obtain ⟨j, hj, rfl, hx⟩ := hrel
          have hX := Lib.hid hx
          by_cases hlt2 : j < K
          · have hjb : qa + j < 76 := by omega
            have hjt : ((qa : Int) + (j : Int)).toNat = qa + j := by omega
            have hf1 := hx.1.free (1 + (qa + j))
            obtain ⟨bb, hf2⟩ : ∃ bb, wr.cell? ⟨w.heap.size, 1 + (qa + j), none⟩ = some (.bool bb) := ⟨_, hx.1.cb hjb⟩
            have hle : (qa : Int) + (j : Int) ≤ (qe : Int) := by omega
            have N1 : Hid (RF (wr.setCell ⟨w.heap.size, 1 + (qa + j), none⟩ (.bool true)) w.heap.size (l1.take a ++ d) (wrG g a n (j + 1))) := by show RF _ _ _ _; rw [← HWG.out]; exact hx.1.setb hjb true
            have N2 : Hid ((wr.setCell ⟨w.heap.size, 1 + (qa + j), none⟩ (.bool true)).heap[w.heap.size + 1]? = W.heap[w.heap.size + 1]?) := by
              show _ = _
              rw [Below.heap_setCell _ _ _ _ (show w.heap.size + 1 ≠ w.heap.size by omega)]; exact hx.2.1
            have N3 : Hid (Below w.heap.size w (wr.setCell ⟨w.heap.size, 1 + (qa + j), none⟩ (.bool true))) := hx.2.2.setCell (p := ⟨w.heap.size, 1 + (qa + j), none⟩) (Nat.le_refl _) _
            clear hx
            go_wp2_with fail
            go_roundw
            case rel => exact ⟨j + 1, by omega, congrArg (Value.int IntKind.i64) (by omega), N1.out, N2.out, N3.out⟩
            case measure => simp [intOf]; omega
          · obtain rfl : j = K := by omega
            have hle : ¬ (qa : Int) + (j : Int) ≤ (qe : Int) := by omega
            have A1' : Hid (wr.heap[w.heap.size + 1]? = some (.cells (rc [] fun _ => false).toArray 46 (0, 0))) := hx.2.1.trans A1.out
            have X1 := Lib.hid hx.1
            have X2 := Lib.hid hx.2.2
            clear hx
            go_wp2_with (first | (refine D.wpList_load_row rfl 46 _ rfl w.heap.size rfl _ _ _ X1.out _ Tryz.underlying46 rfl (s46 _ _) ?_) | (refine D.wpList_store_row rfl 46 _ _ rfl (w.heap.size + 1) _ _ 46 rfl rfl A1'.out (s46 _ _) (by rw [List.size_toArray, List.size_toArray, rc_len, rc_len]) (all_oneCell_toArray (rc_one _ _)) ?_) | fail)
            refine bodyPost_ret (D.ret_row2 rfl rfl (D.setRow_in _ _ _ _ _ A1'.out) Tryz.underlying46 rfl (s46 _ _)) rfl ?_
            exact ⟨by rw [HL.out]; rfl, below_setRow X2.out (by omega) _⟩
end Go.Proofs.YtijbgdihnjnllaaGreat.V
namespace Go.Proofs.YtijbgdihnjnllaaGreat.V
open Go.RowKit
set_option linter.unusedVariables false
set_option maxRecDepth 20000
def trL (l : List UInt8) (n : Nat) : List UInt8 := (pad l n).take n
def trG (g : Nat → Bool) (B j : Nat) : Nat → Bool := fun b => g b && !(decide (B ≤ b) && decide (b < B + j))
theorem trG_step (g : Nat → Bool) (B j : Nat) : upb (trG g B j) (B + j) false = trG g B (j + 1) := by
  funext b
  unfold upb trG
  by_cases e : b = B + j
  · rw [if_pos e]
    have h1 : B ≤ b := by omega
    have h2 : b < B + (j + 1) := by omega
    simp [h1, h2]
  · rw [if_neg e]
    have : (b < B + j) ↔ (b < B + (j + 1)) := by omega
    simp only [this]
theorem trG_zero (g : Nat → Bool) (B : Nat) : trG g B 0 = g := by
  funext b
  unfold trG
  have : (decide (B ≤ b) && decide (b < B + 0)) = false := by
    rw [Bool.and_eq_false_iff, decide_eq_false_iff_not, decide_eq_false_iff_not]; omega
  rw [this]; simp
set_option maxHeartbeats 1000000 in
theorem rfTrunc_any (l : List UInt8) (g : Nat → Bool) (n B : Nat) (w : World) (hl : l.length ≤ 9728) (hn : n ≤ 9728) (hB : (n + 127) / 128 = B) : Calls Tryz.prog 27 #[.agg (rc l g).toArray, .int .i64 (n : Int)] w fun e w' => e = .returned (.agg (rc (trL l n) (trG g B (76 - B))).toArray) ∧ Below w.heap.size w w' := by
  have hs := s46 l g
  have q3 : ((n : Int) + 127) / 128 = (B : Int) := by omega
  go_enter Tryz.func27, Tryz.ntmps27
  go_upto_region 1 with fail
  rw [z46]
  obtain ⟨a0, a1, a2, a3⟩ := D.box2 w (Obj.cells (rc l g).toArray 46) (Obj.cells (rc [] fun _ => false).toArray 46)
  generalize (w.alloc (Obj.cells (rc l g).toArray 46)).alloc (Obj.cells (rc [] fun _ => false).toArray 46) = wr at *
  have hr : RF wr w.heap.size l g := a0
  have hb : Below w.heap.size w wr := a2
  have hW1 : wr.heap[w.heap.size + 1]? = some (.cells (rc [] fun _ => false).toArray 46 (0, 0)) := a1
  clear a0 a1 a2 a3
  have hc0 := hr.c0
  have hf0 := hr.free 0
  have hs1 := sb_size l
  by_cases hlt : l.length < n
  · have hmk := mk_any (n - l.length) (by omega)
    have hw1 : w.heap.size + 1 < wr.heap.size := (Array.getElem?_eq_some_iff.1 hW1).1
    generalize hk : n - l.length = k at *
    have hcv := mk_str k (by omega) wr
    obtain ⟨g0, g1, g2⟩ := D.box1 wr (Obj.cells (bc (noughts k)).toArray 5)
    have hc1 := hcv (wr.alloc (Obj.cells (bc (noughts k)).toArray 5)) g0
    have hc2 := hcv (wr.alloc (Obj.cells (bc (noughts k)).toArray 5)).drew g0
    have hm1 : (Instr.makeSlice 27 (.int .i64 (k : Int)) (.int .i64 (k : Int))).run Tryz.prog wr.drew = .ok (.slice (some ⟨wr.heap.size, 0, none⟩) k k) (wr.alloc (Obj.cells (bc (noughts k)).toArray 5)).drew := hmk wr.drew
    have hnk : (sb (noughts k)).size = k := by rw [sb_size]; unfold noughts; rw [List.length_replicate]
    have hap := sb_app l (noughts k)
    have hsub : (n : Int) - (l.length : Int) = (k : Int) := by omega
    have hwl := hr.lt
    have R1 : RF (wr.alloc (Obj.cells (bc (noughts k)).toArray 5)).drew w.heap.size l g := hr.keep (g1.block _ hwl)
    have d0 := R1.c0
    have d1 := R1.free 0
    obtain ⟨v0, v1, v2⟩ := D.box1 (wr.setCell ⟨w.heap.size, 0, none⟩ (.string (sb (l ++ noughts k)))) (Obj.cells (bc (noughts k)).toArray 5)
    have hvs : (wr.setCell ⟨w.heap.size, 0, none⟩ (.string (sb (l ++ noughts k)))).heap.size = wr.heap.size := by simp
    have R2 : Hid (RF ((wr.setCell ⟨w.heap.size, 0, none⟩ (.string (sb (l ++ noughts k)))).alloc (Obj.cells (bc (noughts k)).toArray 5)).drew w.heap.size (l ++ noughts k) g) := (hr.set0 (l' := l ++ noughts k)).keep (v1.block _ (by omega))
    have R3 : Hid (((wr.setCell ⟨w.heap.size, 0, none⟩ (.string (sb (l ++ noughts k)))).alloc (Obj.cells (bc (noughts k)).toArray 5)).drew.heap[w.heap.size + 1]? = some (.cells (rc [] fun _ => false).toArray 46 (0, 0))) := by
      show _ = _
      rw [← hW1]
      exact (v1.block _ (by omega)).trans (Below.heap_setCell _ _ _ _ (show w.heap.size + 1 ≠ w.heap.size by omega))
    have R4 : Hid (Below w.heap.size w ((wr.setCell ⟨w.heap.size, 0, none⟩ (.string (sb (l ++ noughts k)))).alloc (Obj.cells (bc (noughts k)).toArray 5)).drew) := ((hb.setCell (p := ⟨w.heap.size, 0, none⟩) (Nat.le_refl _) _).trans (v1.mono (by have := hb.size; omega))).drew
    have HL : Hid (trL l n = l ++ noughts k) := by
      show _ = _
      unfold trL
      rw [List.take_of_length_le (by rw [pad_len]; omega)]
      unfold pad; rw [hk]
    clear hr hb hcv hmk g0 g1 g2 hW1 R1 v0 v1 v2 hvs hw1
    generalize l.length = n1 at *
    go_wp2_with fail
    go_region
    go_wp2_with fail
    have HTG : Hid (∀ j, upb (trG g B j) (B + j) false = trG g B (j + 1)) := fun j => trG_step g B j
    generalize wr = V0 at *
    go_loopw [5] (fun i wr => ∃ j : Nat, B + j ≤ 76 ∧ i = .int .i64 ((B : Int) + (j : Int)) ∧ Hid (RF wr w.heap.size (l ++ noughts k) (trG g B j) ∧ wr.heap[w.heap.size + 1]? = some (.cells (rc [] fun _ => false).toArray 46 (0, 0)) ∧ Below w.heap.size w wr)) (fun i _ => 76 - (intOf i).toNat)
    case atStart => exact ⟨0, by omega, congrArg (Value.int IntKind.i64) (by omega), by rw [trG_zero]; exact R2.out, R3.out, R4.out⟩
    case round =>
      obtain ⟨j, hj, rfl, hx⟩ := hrel
      by_cases hlt2 : B + j < 76
      · have hjt : ((B : Int) + (j : Int)).toNat = B + j := by omega
        have hf1 := hx.1.free (1 + (B + j))
        obtain ⟨bb, hf2⟩ : ∃ bb, wr.cell? ⟨w.heap.size, 1 + (B + j), none⟩ = some (.bool bb) := ⟨_, hx.1.cb hlt2⟩
        have hle : (B : Int) + (j : Int) < 76 := by omega
        have N1 : Hid (RF (wr.setCell ⟨w.heap.size, 1 + (B + j), none⟩ (.bool false)) w.heap.size (l ++ noughts k) (trG g B (j + 1))) := by show RF _ _ _ _; rw [← HTG.out]; exact hx.1.setb hlt2 false
        have N2 : Hid ((wr.setCell ⟨w.heap.size, 1 + (B + j), none⟩ (.bool false)).heap[w.heap.size + 1]? = some (.cells (rc [] fun _ => false).toArray 46 (0, 0))) := by
          show _ = _
          rw [Below.heap_setCell _ _ _ _ (show w.heap.size + 1 ≠ w.heap.size by omega)]; exact hx.2.1
        have N3 : Hid (Below w.heap.size w (wr.setCell ⟨w.heap.size, 1 + (B + j), none⟩ (.bool false))) := hx.2.2.setCell (p := ⟨w.heap.size, 1 + (B + j), none⟩) (Nat.le_refl _) _
        clear hx
        go_wp2_with fail
        go_roundw
        case rel => exact ⟨j + 1, by omega, congrArg (Value.int IntKind.i64) (by omega), N1.out, N2.out, N3.out⟩
        case measure => simp [intOf]; omega
      · have hje : 76 - B = j := by omega
        have hle : ¬ (B : Int) + (j : Int) < 76 := by omega
        have A1' := Lib.hid hx.2.1
        have X1 := Lib.hid hx.1
        have X2 := Lib.hid hx.2.2
        clear hx
        go_wp2_with (first | (refine D.wpList_load_row rfl 46 _ rfl w.heap.size rfl _ _ _ X1.out _ Tryz.underlying46 rfl (s46 _ _) ?_) | (refine D.wpList_store_row rfl 46 _ _ rfl (w.heap.size + 1) _ _ 46 rfl rfl A1'.out (s46 _ _) (by rw [List.size_toArray, List.size_toArray, rc_len, rc_len]) (all_oneCell_toArray (rc_one _ _)) ?_) | fail)
        refine bodyPost_ret (D.ret_row rfl rfl (D.setRow_in _ _ _ _ _ A1'.out) Tryz.underlying46 rfl (s46 _ _)) rfl ?_
        exact ⟨by simp only [HL.out], below_setRow X2.out (by omega) _⟩
  · have k1 := sl_hi l n (by omega) wr
    have HL : Hid (trL l n = l.take n) := by show _ = _; unfold trL; rw [pad_id (by omega)]
    have R2 := Lib.hid (hr.set0 (l' := l.take n))
    have R3 : Hid ((wr.setCell ⟨w.heap.size, 0, none⟩ (.string (sb (l.take n)))).heap[w.heap.size + 1]? = some (.cells (rc [] fun _ => false).toArray 46 (0, 0))) := by
      show _ = _
      rw [Below.heap_setCell _ _ _ _ (show w.heap.size + 1 ≠ w.heap.size by omega)]
      exact hW1
    have R4 : Hid (Below w.heap.size w (wr.setCell ⟨w.heap.size, 0, none⟩ (.string (sb (l.take n))))) := hb.setCell (p := ⟨w.heap.size, 0, none⟩) (Nat.le_refl _) _
    clear hr hb hW1
    generalize l.length = n1 at *
    go_wp2_with fail
    have HTG : Hid (∀ j, upb (trG g B j) (B + j) false = trG g B (j + 1)) := fun j => trG_step g B j
    generalize wr = V0 at *
    go_loopw [5] (fun i wr => ∃ j : Nat, B + j ≤ 76 ∧ i = .int .i64 ((B : Int) + (j : Int)) ∧ Hid (RF wr w.heap.size (l.take n) (trG g B j) ∧ wr.heap[w.heap.size + 1]? = some (.cells (rc [] fun _ => false).toArray 46 (0, 0)) ∧ Below w.heap.size w wr)) (fun i _ => 76 - (intOf i).toNat)
    case atStart => exact ⟨0, by omega, congrArg (Value.int IntKind.i64) (by omega), by rw [trG_zero]; exact R2.out, R3.out, R4.out⟩
    case round =>
      obtain ⟨j, hj, rfl, hx⟩ := hrel
      by_cases hlt2 : B + j < 76
      · have hjt : ((B : Int) + (j : Int)).toNat = B + j := by omega
        have hf1 := hx.1.free (1 + (B + j))
        obtain ⟨bb, hf2⟩ : ∃ bb, wr.cell? ⟨w.heap.size, 1 + (B + j), none⟩ = some (.bool bb) := ⟨_, hx.1.cb hlt2⟩
        have hle : (B : Int) + (j : Int) < 76 := by omega
        have N1 : Hid (RF (wr.setCell ⟨w.heap.size, 1 + (B + j), none⟩ (.bool false)) w.heap.size (l.take n) (trG g B (j + 1))) := by show RF _ _ _ _; rw [← HTG.out]; exact hx.1.setb hlt2 false
        have N2 : Hid ((wr.setCell ⟨w.heap.size, 1 + (B + j), none⟩ (.bool false)).heap[w.heap.size + 1]? = some (.cells (rc [] fun _ => false).toArray 46 (0, 0))) := by
          show _ = _
          rw [Below.heap_setCell _ _ _ _ (show w.heap.size + 1 ≠ w.heap.size by omega)]; exact hx.2.1
        have N3 : Hid (Below w.heap.size w (wr.setCell ⟨w.heap.size, 1 + (B + j), none⟩ (.bool false))) := hx.2.2.setCell (p := ⟨w.heap.size, 1 + (B + j), none⟩) (Nat.le_refl _) _
        clear hx
        go_wp2_with fail
        go_roundw
        case rel => exact ⟨j + 1, by omega, congrArg (Value.int IntKind.i64) (by omega), N1.out, N2.out, N3.out⟩
        case measure => simp [intOf]; omega
      · have hje : 76 - B = j := by omega
        have hle : ¬ (B : Int) + (j : Int) < 76 := by omega
        have A1' := Lib.hid hx.2.1
        have X1 := Lib.hid hx.1
        have X2 := Lib.hid hx.2.2
        clear hx
        go_wp2_with (first | (refine D.wpList_load_row rfl 46 _ rfl w.heap.size rfl _ _ _ X1.out _ Tryz.underlying46 rfl (s46 _ _) ?_) | (refine D.wpList_store_row rfl 46 _ _ rfl (w.heap.size + 1) _ _ 46 rfl rfl A1'.out (s46 _ _) (by rw [List.size_toArray, List.size_toArray, rc_len, rc_len]) (all_oneCell_toArray (rc_one _ _)) ?_) | fail)
        refine bodyPost_ret (D.ret_row rfl rfl (D.setRow_in _ _ _ _ _ A1'.out) Tryz.underlying46 rfl (s46 _ _)) rfl ?_
        exact ⟨by simp only [HL.out], below_setRow X2.out (by omega) _⟩
end Go.Proofs.YtijbgdihnjnllaaGreat.V
