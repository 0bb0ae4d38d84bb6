/- 'fill', 'emptyLog', 'Make': a drive is made ready. -/
import Derived.Test.YtijbgdihnjnllaaGreatSCom
namespace Go.Proofs.YtijbgdihnjnllaaGreat
open Go.RowKit
set_option linter.unusedVariables false
set_option maxRecDepth 20000

/-- The first node. -/
def rootN : D.Nn := ⟨2, 1, 0, 0, 0, 0, 0, 0, 0, 0, 0⟩
theorem root_ok : rootN.up.ok = true := by decide
def seatsM (N : Nat) : Nat → List Wr
  | 0 => ins 0 (U.sec N 0 0) []
  | k + 1 => ins ((26 + k : Nat) : Int) seat0 (seatsM N k)
def nodesM (N : Nat) : Nat → List Wr
  | 0 => ins 34 (markL 43) (seatsM N 8)
  | k + 1 => ins ((35 + k : Nat) : Int) zeros (nodesM N k)
def rootS (N : Nat) (X : Secs2) : List UInt8 := putN X (nodesM N 8) 1 rootN
def fillM (N : Nat) (X : Secs2) : List Wr := ins 35 (rootS N X) (nodesM N 8)
theorem ins_le {m : List Wr} (k : Int) (x : List UInt8) : (ins k x m).length ≤ m.length + 1 := by
  unfold ins
  rw [insW_len]
  have := List.length_filter_le (fun p : Wr => !(p.1 == k)) m
  omega
theorem seatsM_len (N k : Nat) : (seatsM N k).length ≤ k + 1 := by
  induction k with
  | zero => exact ins_le _ _
  | succ k ih => rw [seatsM]; have := ins_le (m := seatsM N k) ((26 + k : Nat) : Int) seat0; omega
theorem nodesM_len (N k : Nat) : (nodesM N k).length ≤ k + 10 := by
  induction k with
  | zero => rw [nodesM]; have := ins_le (m := seatsM N 8) 34 (markL 43); have := seatsM_len N 8; omega
  | succ k ih => rw [nodesM]; have := ins_le (m := nodesM N k) ((35 + k : Nat) : Int) zeros; omega
section
variable {w0 w : World} {p d N q : Nat} {O : List Nat} {s : DS} {X : Secs2} {m : List Wr}
set_option maxHeartbeats 2000000 in
theorem fill_yes (h : Sto w0 w p d O N s X q []) : Calls Tryz.prog 33 #[.pointer (some ⟨p, 0, none⟩)] w (Put1 w0 w p d O N s X q (fillM N X)) := by
  have H := Lib.hid h
  have h64 := h.n64
  have hN1 := h.n1
  have hc0 := h.st.c0
  have HOK : Hid (U.ok N (0 : Nat) (0 : Nat) = true) := U.ok_iff.2 (by omega)
  clear h
  go_enter Tryz.func33, Tryz.ntmps33
  go_wp2_with fail
  refine (sectorsD H.out.ons.sit.drv).mono ?_
  rintro e w1 ⟨rfl, rfl⟩
  go_wp2_with fail
  refine (setSuper_yes H.out N 0 0 HOK.out (by right; simp)).mono ?_
  rintro e w1 ⟨rfl, hs, hc⟩
  have HS0 : Hid (Sto w0 w1 p d O N s X q (seatsM N 0)) := hs
  have HC0 := Lib.hid hc
  clear hs hc hc0
  go_wp2_with fail
  go_loopw [20] (fun i wr => ∃ k : Nat, k ≤ 8 ∧ i = .int .i64 k ∧ Hid (Sto w0 wr p d O N s X q (seatsM N k)) ∧ Hid (Chg [q] w wr)) (fun i _ => 8 - (intOf i).toNat)
  case atStart => exact ⟨0, Nat.zero_le _, rfl, HS0, HC0⟩
  case round =>
    obtain ⟨k, hk, rfl, HS, HC⟩ := hrel
    by_cases hlt : k < 8
    · go_wp2_with fail
      refine (setSeat_zero HS.out hlt (by right; have := seatsM_len N k; omega)).mono ?_
      rintro e w2 ⟨rfl, hs, hc⟩
      have HS2 : Hid (Sto w0 w2 p d O N s X q (seatsM N (k + 1))) := hs
      have HC2 := Lib.hid (HC.out.tr hc)
      clear hs hc
      go_wp2_with fail
      go_roundw
      case rel => first | exact ⟨k + 1, by omega, by go_num, HS2, HC2⟩ | exact ⟨k + 1, by omega, by go_num, HS2⟩
      case measure => simp [intOf]; omega
    · obtain rfl : k = 8 := by omega
      rw [show ((8 : Nat) : Int) = 8 from rfl]
      go_wp2_with fail
      refine (fillMarks_yes HS.out (by right; have := seatsM_len N 8; omega)).mono ?_
      rintro e w2 ⟨rfl, hs, hc⟩
      have HS2 : Hid (Sto w0 w2 p d O N s X q (nodesM N 0)) := hs
      have HC2 := Lib.hid (HC.out.tr hc)
      clear hs hc HS HC
      go_wp2_with fail
      generalize wr = V0 at *
      go_loopw [7] (fun i wr => ∃ k : Nat, k ≤ 8 ∧ i = .int .i64 ((4 * k : Nat) : Int) ∧ Hid (Sto w0 wr p d O N s X q (nodesM N k)) ∧ Hid (Chg [q] w wr)) (fun i _ => 32 - (intOf i).toNat)
      case atStart => exact ⟨0, Nat.zero_le _, rfl, HS2, HC2⟩
      case round =>
        obtain ⟨k, hk, rfl, HS, HC⟩ := hrel
        by_cases hlt : k < 8
        · obtain ⟨j, hj⟩ : ∃ j, 4 * k = j := ⟨_, rfl⟩
          have HJ : Hid (35 + j / 4 = 35 + k) := by show _ = _; omega
          have HJ4 : Hid (4 * (k + 1) = j + 4) := by show _ = _; omega
          have hj32 : (j : Int) < 32 := by omega
          rw [hj]
          have HHO : Hid (∀ w, Calls Tryz.prog 70 #[.int .i64 (j : Int)] w fun e w' => e = .returned (.int .i64 ((35 + k : Nat) : Int)) ∧ w = w') := fun w => by rw [← HJ.out]; exact holder_any j w (by omega)
          have hmk := make128_all
          obtain ⟨a0, a1, a2⟩ := D.box1 wr (Obj.cells (bc zeros).toArray 5)
          have HZ : Hid (Bts (wr.alloc (Obj.cells (bc zeros).toArray 5)).drew (IM wr.heap.size) (some ⟨wr.heap.size, 0, none⟩) 128 128 zeros) := Own.bts (w := (wr.alloc (Obj.cells (bc zeros).toArray 5)).drew) ⟨5, a0⟩ rfl rfl
          have HBA : Hid (Below wr.heap.size wr (wr.alloc (Obj.cells (bc zeros).toArray 5)).drew) := a1.drew
          have HS1 := Lib.hid (HS.out.below HBA.out)
          have hql := HS.out.map.lt
          obtain ⟨i35, h35⟩ : ∃ i, 35 + k = i := ⟨_, rfl⟩
          have HPU : Hid (Calls Tryz.prog 69 #[.pointer (some ⟨p, 0, none⟩), .int .i64 (i35 : Int), .slice (some ⟨wr.heap.size, 0, none⟩) 128 128] (wr.alloc (Obj.cells (bc zeros).toArray 5)).drew (Put1 w0 (wr.alloc (Obj.cells (bc zeros).toArray 5)).drew p d O N s X q (nodesM N (k + 1)))) := by
            have e : nodesM N (k + 1) = ins (i35 : Int) zeros (nodesM N k) := by rw [← h35]; rfl
            rw [e]
            exact put_yes HS1.out (by omega) (by unfold inLog; omega) HZ.out (fun b hb => by cases hb; exact ⟨by show wr.heap.size < (wr.alloc _).heap.size; simp, by omega⟩) (by right; have := nodesM_len N k; omega)
          rw [h35] at HHO
          clear a0 a1 a2 hj h35
          go_upto_region 17 with fail
          go_region_held3 (fun _ => True) (trivial) (first
            | (go_at_call 70; refine (HHO.out _).mono ?_; rintro e w2 ⟨rfl, rfl⟩)
            | (go_at_call 69; refine HPU.out.mono ?_; rintro e w2 ⟨rfl, hs, hc⟩; have HS3 := Lib.hid hs; have HC3 := Lib.hid ((HC.out.tr (Chg.of_below HBA.out)).tr hc); clear hs hc))
          all_goals
            have hw4 : IntKind.i64.wrap ((j : Int) + 4) = ((j + 4 : Nat) : Int) := by rw [IntKind.wrap_i64]; omega
            go_wp2_with fail
            go_roundw
            case rel => first | exact ⟨k + 1, by omega, by rw [HJ4.out]; go_num, HS3, HC3⟩ | exact ⟨k + 1, by omega, by rw [HJ4.out]; go_num, HS3⟩ | trace_state
            case measure => simp [intOf]; omega
        · obtain rfl : k = 8 := by omega
          rw [show ((4 * 8 : Nat) : Int) = 32 from rfl]
          go_wp2_with fail
          have HSN : Hid (Calls Tryz.prog 71 #[.pointer (some ⟨p, 0, none⟩), .int .i64 1, .agg #[.int .i64 2, .int .i64 1, .int .i64 0, .int .i64 0, .int .i64 0, .int .i64 0, .int .i64 0, .int .i64 0, .int .i64 0, .int .i64 0, .int .i64 0]] wr (Put1 w0 wr p d O N s X q (fillM N X))) :=
            setNode_yes (n := 1) HS.out (by omega) rootN root_ok (by right; have := nodesM_len N 8; omega)
          refine HSN.out.mono ?_
          rintro e w3 ⟨rfl, hs, hc⟩
          have HS3 := Lib.hid hs
          have HC3 := Lib.hid (HC.out.tr hc)
          clear hs hc HSN
          go_wp2_with fail
          go_ret
          exact ⟨rfl, HS3.out, HC3.out⟩
end
end Go.Proofs.YtijbgdihnjnllaaGreat
