/- 'awake', walked. -/
import Derived.Test.YthjjfncpongghaaGreatSLaw
namespace Go.Proofs.YthjjfncpongghaaGreat
open Go.RowKit
set_option linter.unusedVariables false
set_option maxRecDepth 20000
theorem Chg.bel {O : List Nat} {w0 a w : World} (h : Chg O a w) (hb : Below w0.heap.size w0 a) (hO : ∀ b ∈ O, w0.heap.size ≤ b) : Below w0.heap.size w0 w := hb.trans (h.below hb.size hO)
theorem fld1 (a b c : Int) (w : World) : (Instr.field 42 (.agg #[.int .i64 a, .int .i64 b, .int .i64 c]) 1).run Tryz.prog w = .ok (.int .i64 b) w := by kernel_rfl
theorem fld2 (a b c : Int) (w : World) : (Instr.field 42 (.agg #[.int .i64 a, .int .i64 b, .int .i64 c]) 2).run Tryz.prog w = .ok (.int .i64 c) w := by kernel_rfl
set_option maxHeartbeats 4000000 in
theorem awake_any (w : World) : Calls Tryz.prog 8 #[] w fun e w' => e = .returned (.bool true) ∧ Below w.heap.size w w' := by
  have hf1 := fld1
  have hf2 := fld2
  go_enter Tryz.func8, Tryz.ntmps8
  go_wp2_with fail
  refine (begin_any 64 w (by omega) (by omega)).mono ?_
  rintro e w1 ⟨d, p, q, O, s, rfl, h1⟩
  have H1 := Lib.hid h1
  have HS := Lib.hid (Xb_std (N := 64) (by omega) (by omega))
  clear h1
  go_wp2_with fail
  refine (std_sup H1.out HS.out (by decide)).mono ?_
  rintro e w2 ⟨rfl, hb⟩
  have H2 := Lib.hid (H1.out.below hb)
  clear hb H1
  go_wp2_with fail
  refine (free_std H2.out (t := 43) HS.out.mark (by omega) (by omega)).mono ?_
  rintro e w3 ⟨rfl, hb⟩
  have H3 := Lib.hid (H2.out.below hb)
  clear hb H2
  rw [show ((64 - 43 : Nat) : Int) = 21 from rfl]
  go_wp2_with fail
  refine (new_std (k := 1) H3.out HS.out (by decide) (by omega) (.inl rfl)).mono ?_
  rintro e w4 ⟨rfl, h4, _⟩
  have H4 := Lib.hid h4
  clear h4 H3
  go_wp2_with fail
  refine (take_std H4.out HS.out).mono ?_
  rintro e w5 ⟨rfl, h5, _⟩
  have H5 := Lib.hid h5
  clear h5 H4
  rw [show ((43 : Nat) : Int) = 43 from rfl]
  go_wp2_with fail
  refine (commit_yes H5.out).mono ?_
  rintro e w6 ⟨rfl, O6, s6, h6, _, _⟩
  have H6 := Lib.hid h6
  have HS6 := Lib.hid (std_m2 HS.out (Xb_len 64) (by omega) H5.out.mok)
  clear h6 H5 HS
  go_wp2_with fail
  refine (restartO H6.out.ons (ints_none w6 (fun _ => False)) (fun _ hf => hf.elim)).mono ?_
  rintro e w7 ⟨rfl, O7, s7, h7, _, _⟩
  have H7 := Lib.hid h7
  clear h7 H6
  go_wp2_with fail
  refine (mount_std H7.out HS6.out (by decide) (by omega)).mono ?_
  rintro e w8 ⟨p8, q8, O8, s8, rfl, h8, _, _, _, _⟩
  have H8 := Lib.hid h8
  have HS8 := Lib.hid (HS6.out.mount (by rw [lay_len, Xb_len]) (by omega) (by omega) (by decide))
  clear h8 H7 HS6
  go_wp2_with fail
  refine (node_std (k := 1) (g0 := 0) H8.out HS8.out (.inl rfl) (by omega)).mono ?_
  rintro e w9 ⟨rfl, hb⟩
  obtain ⟨b0, b1, b2⟩ := D.box1 w9 (Obj.cells (D.nc (nn 1 1).up).toArray 47)
  have H9 := Lib.hid ((H8.out.below hb).below b1)
  have B0 := Lib.hid b0
  clear hb H8 b0 b1 b2
  go_upto_region 13 with (first | (refine wpList_store_new rfl 47 _ _ rfl w9 D.z11 (D.nc (nn 1 1).up).toArray rfl rfl s47 rfl (all_oneCell_toArray (D.nc_one _)) ?_) | fail)
  generalize w9.alloc (Obj.cells (D.nc (nn 1 1).up).toArray 47) = W at *
  have c0 : W.cell? ⟨w9.heap.size, 0, none⟩ = some (.int .i64 1) := cell_of_row _ _ 0 _ _ _ B0.out
  have c2 : W.cell? ⟨w9.heap.size, 2, none⟩ = some (.int .i64 1) := cell_of_row _ _ 2 _ _ _ B0.out
  go_wp2_with fail
  refine (free_std H9.out (t := 44) HS8.out.mark (by omega) (by omega)).mono ?_
  rintro e w10 ⟨rfl, hb⟩
  have H10 := Lib.hid (H9.out.below hb)
  clear hb H9 c0 c2 B0
  rw [show ((64 - 44 : Nat) : Int) = 20 from rfl]
  go_wp2_with fail
  refine (std_sup H10.out HS8.out (by decide)).mono ?_
  rintro e w11 ⟨rfl, hb⟩
  have H11 := Lib.hid (H10.out.below hb)
  clear hb H10
  go_wp2_with fail
  go_ret
  exact ⟨rfl, H11.out.ons.sit.bel⟩
end Go.Proofs.YthjjfncpongghaaGreat
