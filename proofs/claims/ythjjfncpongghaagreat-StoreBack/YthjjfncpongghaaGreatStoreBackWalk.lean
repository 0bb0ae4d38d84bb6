/- The law StoreBack, walked. -/
import Derived.Test.YthjjfncpongghaaGreatSBackM
namespace Go.Proofs.YthjjfncpongghaaGreat
open Go.RowKit
set_option linter.unusedVariables false
set_option maxRecDepth 20000
set_option maxHeartbeats 8000000 in
theorem storeBack.walk (w : World) (x : UInt8) (drop : Bool) : Calls Tryz.prog 6 #[.int .u8 (x.toNat : Int), .bool drop] w fun e w' => e = .returned (.bool true) ∧ Below w.heap.size w w' := by
  obtain ⟨T, hT⟩ : ∃ T, x.toNat % 20 = T := ⟨_, rfl⟩
  have hT19 : T ≤ 19 := by omega
  have hrem : (x.toNat : Int).tmod 20 = (T : Int) := by rw [Int.tmod_eq_emod_of_nonneg (by omega)]; omega
  have hw8 : IntKind.u8.wrap (T : Int) = T := by unfold IntKind.wrap; simp [IntKind.bits, IntKind.signed]; omega
  have hw64 : IntKind.i64.wrap (T : Int) = T := by rw [IntKind.wrap_i64]; omega
  clear hT
  generalize (x.toNat : Int) = xi at *
  go_enter Tryz.func6, Tryz.ntmps6
  go_wp2_with fail
  refine (begin_any 100 w (by omega) (by omega)).mono ?_
  rintro e w1 ⟨d, p, q, O, s, rfl, h1⟩
  have H1 := Lib.hid h1
  have HS := Lib.hid (Xb_std (N := 100) (by omega) (by omega))
  clear h1
  go_wp2_with fail
  refine (awake_any w1).mono ?_
  rintro e w2 ⟨rfl, hb⟩
  have H2 := Lib.hid (H1.out.below hb)
  clear hb H1
  go_wp2_with fail
  refine (free_std H2.out (t := 43) HS.out.mark (by omega) (by omega)).mono ?_
  rintro e w3 ⟨rfl, hb⟩
  have H3 := Lib.hid (H2.out.below hb)
  clear hb H2
  rw [show ((100 - 43 : Nat) : Int) = 57 from rfl]
  go_wp2_with fail
  have HR0 : Hid ((w3.alloc (.cells #[] 3)).ownsRow w3.heap.size 3 1 (.slice (some ⟨w3.heap.size, 0, none⟩) 0 0) (lk 0).length ((lk 0).map encZ)) := World.ownsRow_made (e := 3) (size := 1) (base := w3.heap.size) w3 #[] 0 (Nat.le_refl _) (by decide) (by rfl)
  have H4 : Hid (Sto w (w3.alloc (.cells #[] 3)) p d O 100 s (Xb 100) q (takesM 0)) := H3.out.below ((Below.refl _ _).alloc (Nat.le_refl _) _)
  have hp3 := H3.out.st.lt
  have hq3 := H3.out.map.lt
  have HO3 := Lib.hid H3.out.ons.sit.drv.lt
  have hw3 := H3.out.ons.sit.bel.size
  have hz3 : w3.heap.size ≤ (w3.alloc (.cells #[] 3)).heap.size := by simp
  generalize hB : w3.heap.size = B at *
  clear hB
  generalize w3.alloc (.cells #[] 3) = W3 at *
  have HM := Lib.hid HS.out.mark
  clear H3 HS
  go_loopw [8, 9] (fun u i wr => ∃ k : Nat, ∃ v : Value, k ≤ T ∧ i = .int .i64 k ∧ u = v ∧ Hid (Sto w wr p d O 100 s (Xb 100) q (takesM k)) ∧ Hid (wr.ownsRow B 3 1 v (lk k).length ((lk k).map encZ)) ∧ Hid (B ≤ wr.heap.size)) (fun _ i _ => T - (intOf i).toNat)
  case atStart => exact ⟨0, _, Nat.zero_le _, rfl, rfl, H4, HR0, hz3⟩
  case round =>
    obtain ⟨k, v, hk, rfl, rfl, HS, HR, HZ⟩ := hrel
    by_cases hlt : k < T
    · go_wp2_with fail
      refine (take_k HS.out HM.out (by omega)).mono ?_
      rintro e w5 ⟨rfl, h5, hc5⟩
      have H5 := Lib.hid h5
      have HR5 := Lib.hid (row_chg HR.out hc5 hq3)
      have hz5 : B ≤ w5.heap.size := Nat.le_trans HZ.out hc5.size
      clear h5 hc5 HS HR HZ
      obtain ⟨A, c, rfl, hI⟩ := ownI_ints HR5.out
      rw [lk_len] at hI ⊢
      have HI := Lib.hid hI
      have hcap := hI.cap
      have hlim := hI.lim
      unfold maxLen at hlim
      clear hI
      obtain ⟨v', w6, hr6, ho6, hb6⟩ := appI_run ((43 + k : Nat) : Int) HR5.out (by rw [lk_len]; omega) hz5
      rw [← lk_succ] at ho6
      rw [lk_len] at hr6
      have HRN := Lib.hid hr6
      have HO6 := Lib.hid ho6
      have H6 := Lib.hid (H5.out.base hb6 hp3 hq3 HO3.out hw3)
      have HZ6 : Hid (B ≤ w6.heap.size) := Nat.le_trans hz5 hb6.size
      clear hr6 ho6 hb6
      obtain ⟨n, hn⟩ : ∃ n, 43 + k = n := ⟨_, rfl⟩
      rw [hn] at HRN ⊢
      by_cases hk0 : k = 0
      · subst hk0
        rw [show ((0 : Nat) : Int) = 0 from rfl] at *
        go_wp2_with (first | (refine wpList_append_run rfl _ _ 64 rfl _ _ _ _ rfl rfl HRN.out ?_) | fail)
        go_roundw
        case rel => exact ⟨0 + 1, v', by omega, by go_num, rfl, H6, HO6, HZ6⟩
        case measure => simp [intOf]; omega
      · obtain ⟨t, ht⟩ : ∃ t, k = t + 1 := ⟨k - 1, by omega⟩
        obtain ⟨b, off, rfl, hb, hc⟩ := HI.out.cell (k := t) (by omega)
        rw [lk_get (by omega)] at hc
        have hk1 : IntKind.i64.wrap ((k : Int) - 1) = (t : Int) := by rw [IntKind.wrap_i64]; omega
        have hk1' : (k : Int) - 1 = (t : Int) := by omega
        have hpos : decide ((0 : Int) < k) = true := by simp; omega
        have ht0 : (0 : Int) ≤ (t : Int) := by omega
        have htk : (t : Int) < (k : Int) := by omega
        obtain ⟨n1, hn1⟩ : ∃ n1, 43 + t = n1 := ⟨_, rfl⟩
        rw [hn1] at hc
        have hle : decide ((n : Int) ≤ (n1 : Int)) = false := by simp; omega
        have hnlt : (n1 : Int) < (n : Int) := by omega
        clear ht hn hn1 hk0
        go_wp2_with (first | (refine wpList_append_run rfl _ _ 64 rfl _ _ _ _ rfl rfl HRN.out ?_) | fail)
        go_roundw
        case rel => exact ⟨k + 1, v', by omega, by go_num, rfl, H6, HO6, HZ6⟩
        case measure => simp [intOf]; omega
    · obtain rfl : k = T := by omega
      obtain ⟨A, c, rfl, hI⟩ := ownI_ints HR.out
      rw [lk_len] at hI ⊢
      have HI := Lib.hid hI
      have hcap := hI.cap
      have hlim := hI.lim
      unfold maxLen at hlim
      clear hI
      have hsub : IntKind.i64.wrap ((57 : Int) - (k : Int)) = 57 - (k : Int) := by rw [IntKind.wrap_i64]; omega
      go_wp2_with fail
      have HFR := Lib.hid (free_std HS.out (t := 43 + k) (takes_view HM.out k) (by omega) (by omega))
      rw [show ((100 - (43 + k) : Nat) : Int) = 57 - (k : Int) by omega] at HFR
      refine HFR.out.mono ?_
      rintro e w7 ⟨rfl, hb⟩
      have H7 := Lib.hid (HS.out.below hb)
      have HI7 := Lib.hid (HI.out.keep (w' := w7) fun b hb' => hb.block b hb')
      have HZ7 : Hid (B ≤ w7.heap.size) := Nat.le_trans HZ.out hb.size
      have HR7 := Lib.hid (ownsRow_keep HR.out fun b hb' => hb.block b (HR.out.lt b hb').2)
      clear hb HFR HS HI
      cases drop with
      | true =>
        go_wp2_with fail
        refine (drop_any H7.out).mono ?_
        rintro e w8 ⟨rfl, h8, _⟩
        have H8 := Lib.hid h8
        clear h8
        go_wp2_with fail
        have HFR := Lib.hid (free_std H8.out (t := 43) HM.out (by omega) (by omega))
        rw [show ((100 - 43 : Nat) : Int) = 57 from rfl] at HFR
        refine HFR.out.mono ?_
        rintro e w9 ⟨rfl, hb⟩
        have H9 := Lib.hid (H8.out.below hb)
        clear hb HFR
        go_wp2_with fail
        refine (commit_yes H9.out).mono ?_
        rintro e w10 ⟨rfl, O10, s10, h10, _, _⟩
        have HB10 := Lib.hid h10.ons.sit.bel
        clear h10
        go_wp2_with fail
        go_ret
        exact ⟨rfl, HB10.out⟩
      | false =>
        go_wp2_with fail
        clear hsub
        have HG0 : Hid (Sto w w7 p d O 100 s (Xb 100) q (givM (Xb 100) k 0)) := H7.out
        generalize wr = V0 at *
        go_loopw [12] (fun i wr => ∃ j : Nat, j ≤ k ∧ i = .int .i64 j ∧ Hid (Sto w wr p d O 100 s (Xb 100) q (givM (Xb 100) k j)) ∧ Hid (wr.ownsRow B 3 1 (.slice A k c) (lk k).length ((lk k).map encZ))) (fun i _ => k - (intOf i).toNat)
        case atStart => exact ⟨0, Nat.zero_le _, rfl, HG0, by have h := HR7.out; rw [lk_len] at h ⊢; exact h⟩
        case round =>
          obtain ⟨j, hj, rfl, HG, HRG⟩ := hrel
          by_cases hjk : j < k
          · obtain ⟨A1, c1, ev, hI1⟩ := ownI_ints HRG.out
            rw [lk_len] at ev hI1
            cases ev
            obtain ⟨b, off, rfl, hb, hc⟩ := hI1.cell (k := j) hjk
            rw [lk_get hjk] at hc
            obtain ⟨n, hn⟩ : ∃ n, 43 + j = n := ⟨_, rfl⟩
            have HGI := Lib.hid (give_i HG.out hT19 hjk)
            rw [hn] at hc HGI
            clear hI1 hn
            go_wp2_with fail
            refine HGI.out.mono ?_
            rintro e w8 ⟨rfl, h8, hc8⟩
            have H8 := Lib.hid h8
            have HR8 := Lib.hid (row_chg HRG.out hc8 hq3)
            clear h8 hc8 HGI hc
            go_wp2_with fail
            go_roundw
            case rel => exact ⟨j + 1, by omega, by go_num, H8, HR8⟩
            case measure => simp [intOf]; omega
          · obtain rfl : j = k := by omega
            go_wp2_with fail
            have hv43 := Lib.hid (giv_all HM.out hT19)
            have HFR := Lib.hid (free_std HG.out (t := 43) hv43.out (by omega) (by omega))
            rw [show ((100 - 43 : Nat) : Int) = 57 from rfl] at HFR
            refine HFR.out.mono ?_
            rintro e w9 ⟨rfl, hb⟩
            have H9 := Lib.hid (HG.out.below hb)
            clear hb HFR
            go_wp2_with fail
            refine (commit_yes H9.out).mono ?_
            rintro e w10 ⟨rfl, O10, s10, h10, _, _⟩
            have H10 := Lib.hid h10
            have hm10 : Hid (view (lay (Xb 100) (toW (givM (Xb 100) j j))) [] 34 = markL 43) := (lay_getD (Xb_len 100) H9.out.mok (by omega)).trans hv43.out
            clear h10
            go_wp2_with fail
            have HFR := Lib.hid (free_std H10.out (t := 43) hm10.out (by omega) (by omega))
            rw [show ((100 - 43 : Nat) : Int) = 57 from rfl] at HFR
            refine HFR.out.mono ?_
            rintro e w11 ⟨rfl, hb⟩
            have HB11 := Lib.hid (H10.out.below hb).ons.sit.bel
            clear hb HFR
            go_wp2_with fail
            go_ret
            exact ⟨rfl, HB11.out⟩
end Go.Proofs.YthjjfncpongghaaGreat
