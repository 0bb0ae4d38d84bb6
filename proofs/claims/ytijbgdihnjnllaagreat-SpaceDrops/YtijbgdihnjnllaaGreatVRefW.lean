/- 'Write' of the reference, walked. -/
import Derived.Test.YtijbgdihnjnllaaGreatVRefM
namespace Go.Proofs.YtijbgdihnjnllaaGreat.V
open Go.RowKit
set_option linter.unusedVariables false
set_option maxRecDepth 20000
theorem wrG_step (g : Nat → Bool) (a n j : Nat) : upb (wrG g a n j) (a / 128 + j) true = wrG g a n (j + 1) := by
  funext b
  unfold upb wrG
  by_cases e : b = a / 128 + j
  · rw [if_pos e]
    have h1 : a / 128 ≤ b := by omega
    have h2 : b < a / 128 + (j + 1) := by omega
    simp [h1, h2]
  · rw [if_neg e]
    congr 2
    rw [decide_eq_decide]
    omega
theorem wrG_zero (g : Nat → Bool) (a n : Nat) : wrG g a n 0 = g := by
  funext b
  unfold wrG
  have : (decide (a / 128 ≤ b) && decide (b < a / 128 + 0)) = false := by
    rw [Bool.and_eq_false_iff, decide_eq_false_iff_not, decide_eq_false_iff_not]; omega
  rw [this, Bool.or_false]
set_option maxHeartbeats 1000000 in
theorem rfWrite_some (l d : List UInt8) (g : Nat → Bool) (a n K : Nat) (w : World) (hl : l.length ≤ 9728) (hn : d.length = n) (h0 : 0 < n) (han : a + n ≤ 9728) (hK : (a + n - 1) / 128 + 1 - a / 128 = K) : Calls Tryz.prog 18 #[.agg (rc l g).toArray, .int .i64 (a : Int), .string (sb d)] w fun e w' => e = .returned (.tuple #[.agg (rc (wrL l a d) (wrG g a n K)).toArray, .bool true]) ∧ Below w.heap.size w w' := by
  have hs := s46 l g
  have hsz : (sb d).size = n := by rw [sb_size]; exact hn
  have hl0 : ((sb d).toList == []) = false := by rw [sb_toList]; cases d with | nil => simp at hn; omega | cons => rfl
  go_enter Tryz.func18, Tryz.ntmps18
  go_upto_region 1 with fail
  rw [z46]
  obtain ⟨a0, a1, a2, a3⟩ := D.box2 w (Obj.cells (rc l g).toArray 46) (Obj.cells (rc [] fun _ => false).toArray 46)
  generalize (w.alloc (Obj.cells (rc l g).toArray 46)).alloc (Obj.cells (rc [] fun _ => false).toArray 46) = W at *
  have A0 := Lib.hid a0
  have A1 := Lib.hid a1
  have AB := Lib.hid a2
  have hWs : w.heap.size + 1 < W.heap.size := by omega
  clear a0 a1 a2 a3
  go_wp2_with fail
  go_loopw [] (fun wr => Hid (∃ l1, RF wr w.heap.size l1 g ∧ (l1 = l ∨ (l.length < a ∧ l1 = pad l a)) ∧ wr.heap[w.heap.size + 1]? = W.heap[w.heap.size + 1]? ∧ Below w.heap.size w wr)) (fun wr => a - slen wr w.heap.size)
  case atStart => exact ⟨l, A0.out, .inl rfl, rfl, AB.out⟩
  case round =>
    obtain ⟨l1, hr, hl1, hk1, hb⟩ := hrel
    have hsl := hr.slen
    have hc0 := hr.c0
    have hf0 := hr.free 0
    have HR := Lib.hid hr
    have HB := Lib.hid hb
    have hs1 := sb_size l1
    by_cases hlt : l1.length < a
    · obtain rfl : l1 = l := hl1.resolve_right fun ⟨_, e⟩ => by rw [e, pad_len] at hlt; omega
      have hmk := mk_any (a - l1.length) (by omega)
      generalize hk : a - l1.length = k at *
      have hcv := mk_str k (by omega) wr
      obtain ⟨g0, g1, g2⟩ := D.box1 wr (Obj.cells (bc (noughts k)).toArray 5)
      have hc1 := hcv (wr.alloc (Obj.cells (bc (noughts k)).toArray 5)) g0
      have hc2 := hcv (wr.alloc (Obj.cells (bc (noughts k)).toArray 5)).drew g0
      have hm1 : (Instr.makeSlice 27 (.int .i64 (k : Int)) (.int .i64 (k : Int))).run Tryz.prog wr.drew = .ok (.slice (some ⟨wr.heap.size, 0, none⟩) k k) (wr.alloc (Obj.cells (bc (noughts k)).toArray 5)).drew := hmk wr.drew
      have hnk : (sb (noughts k)).size = k := by rw [sb_size]; unfold noughts; rw [List.length_replicate]
      have hap := sb_app l1 (noughts k)
      have hsub : (a : Int) - (l1.length : Int) = (k : Int) := by omega
      have hwl := hr.lt
      have R1 : RF (wr.alloc (Obj.cells (bc (noughts k)).toArray 5)).drew w.heap.size l1 g := hr.keep (g1.block _ hwl)
      have d0 := R1.c0
      have d1 := R1.free 0
      obtain ⟨v0, v1, v2⟩ := D.box1 (wr.setCell ⟨w.heap.size, 0, none⟩ (.string (sb (l1 ++ noughts k)))) (Obj.cells (bc (noughts k)).toArray 5)
      have hvs : (wr.setCell ⟨w.heap.size, 0, none⟩ (.string (sb (l1 ++ noughts k)))).heap.size = wr.heap.size := by simp
      have hw1 : w.heap.size + 1 < wr.heap.size := by have h2 : wr.heap[w.heap.size + 1]? = W.heap[w.heap.size + 1]? := hk1; exact Nat.lt_of_not_le fun hle => by rw [Array.getElem?_eq_none hle, Array.getElem?_eq_getElem hWs] at h2; cases h2
      have R2 : Hid (RF ((wr.setCell ⟨w.heap.size, 0, none⟩ (.string (sb (l1 ++ noughts k)))).alloc (Obj.cells (bc (noughts k)).toArray 5)).drew w.heap.size (l1 ++ noughts k) g) := (hr.set0 (l' := l1 ++ noughts k)).keep (v1.block _ (by omega))
      have R3 : Hid (((wr.setCell ⟨w.heap.size, 0, none⟩ (.string (sb (l1 ++ noughts k)))).alloc (Obj.cells (bc (noughts k)).toArray 5)).drew.heap[w.heap.size + 1]? = W.heap[w.heap.size + 1]?) := by
        show _ = _
        rw [← hk1]
        exact (v1.block _ (by omega)).trans (Below.heap_setCell _ _ _ _ (show w.heap.size + 1 ≠ w.heap.size by omega))
      have R4 : Hid (Below w.heap.size w ((wr.setCell ⟨w.heap.size, 0, none⟩ (.string (sb (l1 ++ noughts k)))).alloc (Obj.cells (bc (noughts k)).toArray 5)).drew) := ((hb.setCell (p := ⟨w.heap.size, 0, none⟩) (Nat.le_refl _) _).trans (v1.mono (by have := hb.size; omega))).drew
      have hlen : a - (l1 ++ noughts k).length < a - l1.length := by unfold noughts; rw [List.length_append, List.length_replicate]; omega
      have hpd : pad l1 a = l1 ++ noughts k := by unfold pad; rw [hk]
      clear hr hb hcv hmk g0 g1 g2 hk1 R1 v0 v1 v2 hvs hw1
      generalize l1.length = n1 at *
      go_wp2_with fail
      go_region
      go_wp2_with fail
      go_roundw
      case rel => exact ⟨l1 ++ noughts k, R2.out, .inr ⟨by omega, hpd.symm⟩, R3.out, R4.out⟩
      case measure => rw [hsl, R2.out.slen]; exact hlen
    · have hP : l1 = pad l a := hl1.elim (fun e => by rw [e] at hlt ⊢; exact (pad_id (by omega)).symm) (fun h => h.2)
      have hPl : l1.length = max l.length a := by rw [hP, pad_len]
      have k1 := sl_hi l1 a (by omega) wr
      have k2 : (sb (l1.take a)).size = a := by rw [sb_size, List.length_take]; omega
      have k3 := sb_app (l1.take a) d
      have k4 : (sb (l1.take a ++ d)).size = a + n := by rw [sb_size, List.length_append, List.length_take, hn]; omega
      have hW1 : Hid (wr.heap[w.heap.size + 1]? = W.heap[w.heap.size + 1]?) := hk1
      have q1 : ((a : Int)).tdiv 128 = ((a / 128 : Nat) : Int) := by rw [Int.tdiv_eq_ediv_of_nonneg (by omega)]; omega
      have HL : Hid (wrL l a d = l1.take a ++ (d ++ l1.drop (a + n))) := by show _ = _; unfold wrL; rw [← hP, hn, List.append_assoc]
      obtain ⟨r, hr0⟩ : ∃ r, l1.drop (a + n) = r := ⟨_, rfl⟩
      rw [hr0] at HL
      have k5 : (sb r).size ≤ 9728 := by rw [sb_size, ← hr0, List.length_drop]; omega
      have k6 : sb (l1.take a ++ d) ++ sb r = sb (l1.take a ++ (d ++ r)) := by rw [sb_app, List.append_assoc]
      have R2 := Lib.hid (hr.set0 (l' := wrL l a d))
      rw [HL.out] at R2
      have R3 : Hid ((wr.setCell ⟨w.heap.size, 0, none⟩ (.string (sb (l1.take a ++ (d ++ r))))).heap[w.heap.size + 1]? = W.heap[w.heap.size + 1]?) := by
        show _ = _
        rw [Below.heap_setCell _ _ _ _ (show w.heap.size + 1 ≠ w.heap.size by omega)]
        exact hk1
      have R4 : Hid (Below w.heap.size w (wr.setCell ⟨w.heap.size, 0, none⟩ (.string (sb (l1.take a ++ (d ++ r)))))) := hb.setCell (p := ⟨w.heap.size, 0, none⟩) (Nat.le_refl _) _
      clear hr hb HR HB hP hsl hk1 hl1 hW1
      by_cases hend : a + n < l1.length
      · have k7 := sl_lo l1 (a + n) (by omega) wr
        rw [hr0] at k7
        have k8 : ((a + n : Nat) : Int) = (a : Int) + (n : Int) := by omega
        rw [k8] at k7
        clear hPl hr0
        generalize l1.length = n1 at *
        go_wp2_with fail
        obtain ⟨qa, hqa⟩ : ∃ qa, a / 128 = qa := ⟨_, rfl⟩
        obtain ⟨qe, hqe⟩ : ∃ qe, (a + n - 1) / 128 = qe := ⟨_, rfl⟩
        have q3 : ((a : Int) + (n : Int) - 1) / 128 = (qe : Int) := by omega
        have hqk : qe + 1 - qa = K := by omega
        have HWG : Hid (∀ j, upb (wrG g a n j) (qa + j) true = wrG g a n (j + 1)) := fun j => by rw [← hqa]; exact wrG_step g a n j
        clear q1
        generalize wr = V0 at *
        go_loopw [10] (fun i wr => ∃ j : Nat, j ≤ K ∧ i = .int .i64 ((qa : Int) + (j : Int)) ∧ Hid (RF wr w.heap.size (l1.take a ++ (d ++ r)) (wrG g a n j) ∧ wr.heap[w.heap.size + 1]? = W.heap[w.heap.size + 1]? ∧ Below w.heap.size w wr)) (fun i _ => qa + K - (intOf i).toNat)
        case atStart => exact ⟨0, Nat.zero_le _, congrArg (Value.int IntKind.i64) (by omega), by rw [wrG_zero]; exact R2.out, R3.out, R4.out⟩
        case round =>
          obtain ⟨j, hj, rfl, hx⟩ := hrel
          have hX := Lib.hid hx
          by_cases hlt2 : j < K
          · have hjb : qa + j < 76 := by omega
            have hjt : ((qa : Int) + (j : Int)).toNat = qa + j := by omega
            have hf1 := hx.1.free (1 + (qa + j))
            obtain ⟨bb, hf2⟩ : ∃ bb, wr.cell? ⟨w.heap.size, 1 + (qa + j), none⟩ = some (.bool bb) := ⟨_, hx.1.cb hjb⟩
            have hle : (qa : Int) + (j : Int) ≤ (qe : Int) := by omega
            have N1 : Hid (RF (wr.setCell ⟨w.heap.size, 1 + (qa + j), none⟩ (.bool true)) w.heap.size (l1.take a ++ (d ++ r)) (wrG g a n (j + 1))) := by show RF _ _ _ _; rw [← HWG.out]; exact hx.1.setb hjb true
            have N2 : Hid ((wr.setCell ⟨w.heap.size, 1 + (qa + j), none⟩ (.bool true)).heap[w.heap.size + 1]? = W.heap[w.heap.size + 1]?) := by
              show _ = _
              rw [Below.heap_setCell _ _ _ _ (show w.heap.size + 1 ≠ w.heap.size by omega)]; exact hx.2.1
            have N3 : Hid (Below w.heap.size w (wr.setCell ⟨w.heap.size, 1 + (qa + j), none⟩ (.bool true))) := hx.2.2.setCell (p := ⟨w.heap.size, 1 + (qa + j), none⟩) (Nat.le_refl _) _
            clear hx
            go_wp2_with fail
            go_roundw
            case rel => exact ⟨j + 1, by omega, congrArg (Value.int IntKind.i64) (by omega), N1.out, N2.out, N3.out⟩
            case measure => simp [intOf]; omega
          · obtain rfl : j = K := by omega
            have hle : ¬ (qa : Int) + (j : Int) ≤ (qe : Int) := by omega
            have A1' : Hid (wr.heap[w.heap.size + 1]? = some (.cells (rc [] fun _ => false).toArray 46 (0, 0))) := hx.2.1.trans A1.out
            have X1 := Lib.hid hx.1
            have X2 := Lib.hid hx.2.2
            clear hx
            go_wp2_with (first | (refine D.wpList_load_row rfl 46 _ rfl w.heap.size rfl _ _ _ X1.out _ Tryz.underlying46 rfl (s46 _ _) ?_) | (refine D.wpList_store_row rfl 46 _ _ rfl (w.heap.size + 1) _ _ 46 rfl rfl A1'.out (s46 _ _) (by rw [List.size_toArray, List.size_toArray, rc_len, rc_len]) (all_oneCell_toArray (rc_one _ _)) ?_) | fail)
            refine bodyPost_ret (D.ret_row2 rfl rfl (D.setRow_in _ _ _ _ _ A1'.out) Tryz.underlying46 rfl (s46 _ _)) rfl ?_
            exact ⟨by rw [HL.out]; rfl, below_setRow X2.out (by omega) _⟩
      · obtain rfl : r = [] := by rw [← hr0]; exact List.drop_eq_nil_of_le (by omega)
        clear hPl hr0
        have k6 : sb (l1.take a ++ d) ++ ({ data := #[] } : ByteArray) = sb (l1.take a ++ d) := by have := sb_app (l1.take a ++ d) []; rw [List.append_nil] at this; exact this
        have k5 : (({ data := #[] } : ByteArray)).size = 0 := rfl
        rw [List.append_nil] at HL R2 R3 R4
        generalize l1.length = n1 at *
        go_wp2_with fail
        obtain ⟨qa, hqa⟩ : ∃ qa, a / 128 = qa := ⟨_, rfl⟩
        obtain ⟨qe, hqe⟩ : ∃ qe, (a + n - 1) / 128 = qe := ⟨_, rfl⟩
        have q3 : ((a : Int) + (n : Int) - 1) / 128 = (qe : Int) := by omega
        have hqk : qe + 1 - qa = K := by omega
        have HWG : Hid (∀ j, upb (wrG g a n j) (qa + j) true = wrG g a n (j + 1)) := fun j => by rw [← hqa]; exact wrG_step g a n j
        clear q1
        generalize wr = V0 at *
        go_loopw [10] (fun i wr => ∃ j : Nat, j ≤ K ∧ i = .int .i64 ((qa : Int) + (j : Int)) ∧ Hid (RF wr w.heap.size (l1.take a ++ d) (wrG g a n j) ∧ wr.heap[w.heap.size + 1]? = W.heap[w.heap.size + 1]? ∧ Below w.heap.size w wr)) (fun i _ => qa + K - (intOf i).toNat)
        case atStart => exact ⟨0, Nat.zero_le _, congrArg (Value.int IntKind.i64) (by omega), by rw [wrG_zero]; exact R2.out, R3.out, R4.out⟩
        case round =>
          obtain ⟨j, hj, rfl, hx⟩ := hrel
          have hX := Lib.hid hx
          by_cases hlt2 : j < K
          · have hjb : qa + j < 76 := by omega
            have hjt : ((qa : Int) + (j : Int)).toNat = qa + j := by omega
            have hf1 := hx.1.free (1 + (qa + j))
            obtain ⟨bb, hf2⟩ : ∃ bb, wr.cell? ⟨w.heap.size, 1 + (qa + j), none⟩ = some (.bool bb) := ⟨_, hx.1.cb hjb⟩
            have hle : (qa : Int) + (j : Int) ≤ (qe : Int) := by omega
            have N1 : Hid (RF (wr.setCell ⟨w.heap.size, 1 + (qa + j), none⟩ (.bool true)) w.heap.size (l1.take a ++ d) (wrG g a n (j + 1))) := by show RF _ _ _ _; rw [← HWG.out]; exact hx.1.setb hjb true
            have N2 : Hid ((wr.setCell ⟨w.heap.size, 1 + (qa + j), none⟩ (.bool true)).heap[w.heap.size + 1]? = W.heap[w.heap.size + 1]?) := by
              show _ = _
              rw [Below.heap_setCell _ _ _ _ (show w.heap.size + 1 ≠ w.heap.size by omega)]; exact hx.2.1
            have N3 : Hid (Below w.heap.size w (wr.setCell ⟨w.heap.size, 1 + (qa + j), none⟩ (.bool true))) := hx.2.2.setCell (p := ⟨w.heap.size, 1 + (qa + j), none⟩) (Nat.le_refl _) _
            clear hx
            go_wp2_with fail
            go_roundw
            case rel => exact ⟨j + 1, by omega, congrArg (Value.int IntKind.i64) (by omega), N1.out, N2.out, N3.out⟩
            case measure => simp [intOf]; omega
          · obtain rfl : j = K := by omega
            have hle : ¬ (qa : Int) + (j : Int) ≤ (qe : Int) := by omega
            have A1' : Hid (wr.heap[w.heap.size + 1]? = some (.cells (rc [] fun _ => false).toArray 46 (0, 0))) := hx.2.1.trans A1.out
            have X1 := Lib.hid hx.1
            have X2 := Lib.hid hx.2.2
            clear hx
            go_wp2_with (first | (refine D.wpList_load_row rfl 46 _ rfl w.heap.size rfl _ _ _ X1.out _ Tryz.underlying46 rfl (s46 _ _) ?_) | (refine D.wpList_store_row rfl 46 _ _ rfl (w.heap.size + 1) _ _ 46 rfl rfl A1'.out (s46 _ _) (by rw [List.size_toArray, List.size_toArray, rc_len, rc_len]) (all_oneCell_toArray (rc_one _ _)) ?_) | fail)
            refine bodyPost_ret (D.ret_row2 rfl rfl (D.setRow_in _ _ _ _ _ A1'.out) Tryz.underlying46 rfl (s46 _ _)) rfl ?_
            exact ⟨by rw [HL.out]; rfl, below_setRow X2.out (by omega) _⟩
end Go.Proofs.YtijbgdihnjnllaaGreat.V
