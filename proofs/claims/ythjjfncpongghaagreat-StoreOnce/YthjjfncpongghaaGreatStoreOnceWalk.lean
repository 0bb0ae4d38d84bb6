/- The law StoreOnce, walked. -/
import Derived.Test.YthjjfncpongghaaGreatSAwake
namespace Go.Proofs.YthjjfncpongghaaGreat
open Go.RowKit
set_option linter.unusedVariables false
set_option maxRecDepth 20000
set_option maxHeartbeats 8000000 in
theorem storeOnce.walk (w : World) (x y : UInt8) (A : Option Addr) (n c : Nat) (keep : List Int) (hI : Ints w (fun q => q < w.heap.size) A n c keep) : Calls Tryz.prog 5 #[.int .u8 (x.toNat : Int), .int .u8 (y.toNat : Int), .slice A n c] w fun e w' => e = .returned (.bool true) ∧ Below w.heap.size w w' := by
  have HI := Lib.hid hI
  clear hI
  obtain ⟨N, hN⟩ : ∃ N, 64 + x.toNat = N := ⟨_, rfl⟩
  have hx := x.toNat_lt
  have h64 : 64 ≤ N := by omega
  have hN1 : N ≤ 1024 := by omega
  have hw1 : IntKind.i64.wrap (x.toNat : Int) = x.toNat := by rw [IntKind.wrap_i64]; omega
  have hw2 : IntKind.i64.wrap (64 + (x.toNat : Int)) = (N : Int) := by rw [IntKind.wrap_i64]; omega
  obtain ⟨T, hT⟩ : ∃ T, y.toNat % 6 = T := ⟨_, rfl⟩
  have hT5 : T ≤ 5 := by omega
  have hrem : (y.toNat : Int).tmod 6 = (T : Int) := by rw [Int.tmod_eq_emod_of_nonneg (by omega)]; omega
  have hw8 : IntKind.u8.wrap (T : Int) = T := by unfold IntKind.wrap; simp [IntKind.bits, IntKind.signed]; omega
  have hw64 : IntKind.i64.wrap (T : Int) = T := by rw [IntKind.wrap_i64]; omega
  clear hT hN hx
  generalize (x.toNat : Int) = xi at *
  generalize (y.toNat : Int) = yi at *
  have hf1 := fld1
  have hf2 := fld2
  go_enter Tryz.func5, Tryz.ntmps5
  go_wp2_with fail
  refine (begin_any N w h64 hN1).mono ?_
  rintro e w1 ⟨d, p, q, O, s, rfl, h1⟩
  have H1 := Lib.hid h1
  have HS := Lib.hid (Xb_std (N := N) h64 hN1)
  clear h1
  go_wp2_with fail
  refine (awake_any w1).mono ?_
  rintro e w2 ⟨rfl, hb⟩
  have H2 := Lib.hid (H1.out.below hb)
  clear hb H1
  go_wp2_with fail
  refine (new_std (k := 2) H2.out HS.out (U.ok_iff.2 (by omega)) (by omega) (.inr rfl)).mono ?_
  rintro e w4 ⟨rfl, h4, _⟩
  have H4 := Lib.hid h4
  clear h4 H2
  go_wp2_with fail
  refine (take_std H4.out HS.out).mono ?_
  rintro e w5 ⟨rfl, h5, _⟩
  have H5 := Lib.hid h5
  clear h5 H4
  rw [show ((43 : Nat) : Int) = 43 from rfl]
  go_wp2_with fail
  refine (commit_yes H5.out).mono ?_
  rintro e w6 ⟨rfl, O6, s6, h6, _, _⟩
  have H6 := Lib.hid h6
  have HS6 := Lib.hid (std_m2 HS.out (Xb_len N) h64 H5.out.mok)
  clear h6 H5 HS
  generalize lay (Xb N) (toW (m2 N 1 0 2)) = X6 at *
  go_wp2_with fail
  refine (free_std H6.out (t := 44) HS6.out.mark (by omega) (by omega)).mono ?_
  rintro e w7 ⟨rfl, hb⟩
  have H7 := Lib.hid (H6.out.below hb).ons
  clear hb H6
  obtain ⟨fr, hfr⟩ : ∃ fr, N - 44 = fr := ⟨_, rfl⟩
  rw [hfr]
  have HFR := Lib.hid hfr
  clear hfr
  go_wp2_with fail
  go_loopw [15] (fun i wr => ∃ k : Nat, ∃ O s X, k ≤ T ∧ i = .int .i64 k ∧ Hid (Ons w wr d O N s X) ∧ Hid (Std N X (k + 1) 1 (ns2 0 2) (markL 44))) (fun i _ => T - (intOf i).toNat)
  case atStart => exact ⟨0, O6, s6, X6, Nat.zero_le _, rfl, H7, HS6⟩
  case round =>
    obtain ⟨k, O8, s8, X8, hk, rfl, HO, HSD⟩ := hrel
    by_cases hlt : k < T
    · go_wp2_with fail
      refine (restartO HO.out (HI.out.keep (w' := wr) fun b hb => HO.out.sit.bel.block b hb) (fun b hb => ⟨Nat.lt_of_lt_of_le hb HO.out.sit.bel.size, fun e => by have := HO.out.sit.fresh b e; omega⟩)).mono ?_
      rintro e w9 ⟨rfl, O9, s9, h9, _, _⟩
      have H9 := Lib.hid h9
      clear h9
      go_wp2_with fail
      refine (mount_std H9.out HSD.out (U.ok_iff.2 (by omega)) (by omega)).mono ?_
      rintro e w10 ⟨p1, q1, O10, s10, rfl, h10, _, _, _, _⟩
      have H10 := Lib.hid h10
      have HSN := Lib.hid (HSD.out.mount H9.out.len h64 hN1 (U.ok_iff.2 (by omega)))
      clear h10 H9
      generalize lay X8 (toW [(0, U.sec N (k + 1 + 1) 1)]) = X10 at *
      obtain ⟨ep, hep⟩ : ∃ ep, k + 1 + 1 = ep := ⟨_, rfl⟩
      have HSN2 := HSN
      rw [hep] at HSN2
      have hok := Lib.hid (U.ok_iff.2 (show 64 ≤ (N : Int) ∧ (N : Int) ≤ 1024 ∧ 0 ≤ (ep : Int) ∧ (ep : Int) ≤ 1073741824 ∧ 0 ≤ ((1 : Nat) : Int) ∧ ((1 : Nat) : Int) ≤ 1073741824 by omega))
      have hne : ((ep : Int) != (k : Int) + 2) = false := by rw [bne_eq_false_iff_eq]; omega
      have hepk : (ep : Int) = (k : Int) + 2 := by omega
      clear hep HSD HO
      go_wp2_with fail
      refine (std_sup H10.out HSN2.out hok.out).mono ?_
      rintro e w11 ⟨rfl, hb⟩
      have H11 := Lib.hid (H10.out.below hb)
      clear hb H10
      go_wp2_with fail
      refine (std_sup H11.out HSN2.out hok.out).mono ?_
      rintro e w12 ⟨rfl, hb⟩
      have H12 := Lib.hid (H11.out.below hb)
      clear hb H11
      rw [show ((1 : Nat) : Int) = 1 from rfl]
      go_wp2_with fail
      have HF13 := Lib.hid (free_std H12.out (t := 44) HSN2.out.mark (by omega) (by omega))
      rw [HFR.out] at HF13
      refine HF13.out.mono ?_
      rintro e w13 ⟨rfl, hb⟩
      have H13 := Lib.hid (H12.out.below hb)
      clear hb H12 HF13
      go_wp2_with fail
      refine (node_std (k := 2) (g0 := 0) H13.out HSN2.out (.inr rfl) (by omega)).mono ?_
      rintro e w14 ⟨rfl, hb⟩
      obtain ⟨b0, b1, b2⟩ := D.box1 w14 (Obj.cells (D.nc (nn 2 1).up).toArray 47)
      have H14 := Lib.hid ((H13.out.below hb).below b1)
      have B0 := Lib.hid b0
      have hl14 : w14.heap.size < (w14.alloc (Obj.cells (D.nc (nn 2 1).up).toArray 47)).heap.size := by rw [b2]; omega
      clear hb H13 b0 b1 b2
      go_upto_region 18 with (first | (refine wpList_store_new rfl 47 _ _ rfl w14 D.z11 (D.nc (nn 2 1).up).toArray rfl rfl s47 rfl (all_oneCell_toArray (D.nc_one _)) ?_) | fail)
      generalize w14.alloc (Obj.cells (D.nc (nn 2 1).up).toArray 47) = W at *
      generalize w14.heap.size = G at *
      go_wp2_with fail
      refine (get_any (n := 43) H14.out (by omega) (by unfold inLog; omega)).mono ?_
      rintro e w15 ⟨b, rfl, hb1, hb2, hb3⟩
      rw [show view X10 [] 43 = zeros from HSN2.out.zero 43 (by omega) (by omega)] at hb2
      have H15 := Lib.hid (H14.out.below hb3)
      have c0 : w15.cell? ⟨G, 0, none⟩ = some (.int .i64 2) := cell_of_row _ _ 0 _ _ _ ((hb3.block G hl14).trans B0.out)
      have HFB := Lib.hid (fb hb2 zeros_len)
      clear hb1 hb2 hb3 H14 B0 hl14
      have hmk := make128_all
      obtain ⟨a0, a1, a2⟩ := D.box1 w15 (Obj.cells (bc zeros).toArray 5)
      have hcv1 : (convert 22 9 (.slice (some ⟨b, 0, none⟩) 128 128)).run Tryz.prog w15.drew = .ok (.string (U.sb zeros)) w15.drew := U.fstr HFB.out _ (Below.refl _ _).drew
      have hcv2 : (convert 22 9 (.slice (some ⟨b, 0, none⟩) 128 128)).run Tryz.prog (w15.alloc (Obj.cells (bc zeros).toArray 5)).drew = .ok (.string (U.sb zeros)) (w15.alloc (Obj.cells (bc zeros).toArray 5)).drew := U.fstr HFB.out _ a1.drew
      have hcv3 : (convert 22 9 (.slice (some ⟨w15.heap.size, 0, none⟩) 128 128)).run Tryz.prog (w15.alloc (Obj.cells (bc zeros).toArray 5)).drew = .ok (.string (U.sb zeros)) (w15.alloc (Obj.cells (bc zeros).toArray 5)).drew := U.fstr (blk_fbts a0 zeros_len) _ (Below.refl _ _).drew
      have c0' : (w15.alloc (Obj.cells (bc zeros).toArray 5)).cell? ⟨G, 0, none⟩ = some (.int .i64 2) := by
        have hG : G < w15.heap.size := World.block_lt_of_cell? w15 ⟨G, 0, none⟩ c0
        rw [a1.cell (p := ⟨G, 0, none⟩) hG]; exact c0
      have HON : Hid (Ons w (w15.alloc (Obj.cells (bc zeros).toArray 5)).drew d O10 N s10 X10) := (H15.out.below a1.drew).ons
      clear a0 a1 a2
      generalize U.sb zeros = sz at *
      generalize (bc zeros).toArray = Z at *
      go_upto_region 19 with fail
      go_region
      clear hcv1 hcv2 hcv3 c0 c0' hmk
      generalize (w15.alloc (Obj.cells Z 5)).drew = V at *
      go_wp2_with fail
      go_roundw
      case rel => exact ⟨k + 1, O10, s10, X10, by omega, by go_num, HON, HSN⟩
      case measure => simp [intOf]; omega
    · obtain rfl : k = T := by omega
      go_wp2_with fail
      go_ret
      exact ⟨rfl, HO.out.sit.bel⟩
end Go.Proofs.YthjjfncpongghaaGreat
