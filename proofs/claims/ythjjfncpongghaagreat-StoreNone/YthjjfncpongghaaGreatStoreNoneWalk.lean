/- The law StoreNone, walked. -/
import Derived.Test.YthjjfncpongghaaGreatSAwake
namespace Go.Proofs.YthjjfncpongghaaGreat
open Go.RowKit
set_option linter.unusedVariables false
set_option maxRecDepth 20000
set_option maxHeartbeats 4000000 in
theorem storeNone_walk (n : Int) (A : Option Addr) (l c : Nat) (x : D.Nd) (a b : Int) (A' : Option Addr) (l' c' : Nat) (w : World) :
    Calls Tryz.prog 4 #[.int .i64 n, .slice A l c, .agg (D.nc x).toArray, .agg #[.int .i64 a, .int .i64 b, .slice A' l' c']] w fun e w' => e = .returned (.bool true) ∧ Below w.heap.size w w' := by
  obtain ⟨a0, a1, a2, a3⟩ := D.box2 w (Obj.cells (D.nc x).toArray 47) (Obj.cells #[.int .i64 a, .int .i64 b, .slice A' l' c'] 49)
  have A0 := Lib.hid a0
  have A1 := Lib.hid a1
  have A2 := Lib.hid a2
  have A3 := Lib.hid a3
  clear a0 a1 a2 a3
  go_enter Tryz.func4, Tryz.ntmps4
  go_upto_region 1 with fail
  generalize (w.alloc (Obj.cells (D.nc x).toArray 47)).alloc (Obj.cells #[.int .i64 a, .int .i64 b, .slice A' l' c'] 49) = W0 at *
  have hlt : w.heap.size + 1 < W0.heap.size := by rw [A3.out]; omega
  go_wp2_with fail
  refine (drop_nil _).mono ?_
  rintro e w1 ⟨rfl, rfl⟩
  go_wp2_with fail
  refine (get_nil' n _).mono ?_
  rintro e w1 ⟨rfl, rfl⟩
  go_wp2_with fail
  refine (node_nil n _).mono ?_
  rintro e w1 ⟨rfl, hb⟩
  obtain ⟨b0, b1, b2⟩ := D.box1 w1 (Obj.cells D.z11 47)
  have HB1 := Lib.hid (hb.trans (b1.mono hb.size))
  clear hb b0 b1 b2
  go_upto_region 5 with (first | (refine wpList_store_new rfl 47 _ _ rfl w1 D.z11 D.z11 rfl rfl s47 rfl oc11 ?_) | fail)
  generalize w1.alloc (Obj.cells D.z11 47) = W1 at *
  go_wp2_with fail
  refine (new_nil n _).mono ?_
  rintro e w2 ⟨rfl, rfl⟩
  go_wp2_with fail
  refine (seat_nil n _).mono ?_
  rintro e w2 ⟨rfl, hb⟩
  obtain ⟨b0, b1, b2⟩ := D.box1 w2 (Obj.cells #[.int .i64 0, .int .i64 0, .slice none 0 0] 49)
  have HB2 := Lib.hid (HB1.out.trans ((hb.trans (b1.mono hb.size)).mono HB1.out.size))
  clear hb b0 b1 b2
  go_upto_region 7 with (first | (refine wpList_store_new rfl 49 _ _ rfl w2 #[.int .i64 0, .int .i64 0, .slice none 0 0] #[.int .i64 0, .int .i64 0, .slice none 0 0] rfl rfl s49x rfl (oc3s _ _ _ _ _) ?_) | fail)
  generalize w2.alloc (Obj.cells #[.int .i64 0, .int .i64 0, .slice none 0 0] 49) = W2 at *
  go_wp2_with fail
  refine (take_nil _).mono ?_
  rintro e w3 ⟨rfl, rfl⟩
  go_wp2_with fail
  refine (mount_nil _).mono ?_
  rintro e w3 ⟨rfl, rfl⟩
  go_wp2_with fail
  refine (new_any 70 W2 (by omega) (by omega)).mono ?_
  rintro e w3 ⟨d, O, rfl, hd1, hf1, hb1⟩
  have HS : Hid (Sit W2 w3 d O 70 (newS 70)) := ⟨hd1, hf1, hb1⟩
  clear hd1 hf1 hb1
  go_wp2_with fail
  refine (fuseD 0 HS.out.drv (by omega) (by omega)).mono ?_
  rintro e w4 ⟨rfl, hd⟩
  obtain ⟨O4, h4, _, _⟩ := HS.out.did hd
  have H4 := Lib.hid h4
  clear hd h4
  go_wp2_with fail
  refine (make_fused H4.out (by omega)).mono ?_
  rintro e w5 ⟨rfl, O5, h5⟩
  have H5 := Lib.hid h5
  clear h5
  go_wp2_with fail
  refine (mount_down H5.out rfl).mono ?_
  rintro e w6 ⟨rfl, hb⟩
  have HB6 := Lib.hid (HB2.out.trans (hb.mono HB2.out.size))
  clear hb
  go_wp2_with fail
  refine (awake_any _).mono ?_
  rintro e w7 ⟨rfl, hb⟩
  have HB7 := Lib.hid (HB6.out.trans (hb.mono HB6.out.size))
  clear hb
  go_wp2_with fail
  refine (make_nil _).mono ?_
  rintro e w8 ⟨rfl, rfl⟩
  go_wp2_with fail
  refine (sput_nil n A l c _).mono ?_
  rintro e w8 ⟨rfl, rfl⟩
  have G0 := Lib.hid ((HB7.out.block w.heap.size (by omega)).trans A0.out)
  go_wp2_with (first | (refine D.wpList_load_row rfl 47 _ rfl w.heap.size rfl _ _ _ G0.out _ Tryz.underlying47 rfl s47 ?_) | fail)
  refine (setNode_nil n x _).mono ?_
  rintro e w8 ⟨rfl, hb⟩
  have HB8 := Lib.hid (HB7.out.trans (hb.mono HB7.out.size))
  have G1 := Lib.hid ((HB8.out.block (w.heap.size + 1) hlt).trans A1.out)
  clear hb G0
  go_wp2_with (first | (refine D.wpList_load_row rfl 49 _ rfl (w.heap.size + 1) rfl _ _ _ G1.out _ Tryz.underlying49 rfl s49x ?_) | fail)
  refine (setSeat_nil n a b A' l' c' _).mono ?_
  rintro e w9 ⟨rfl, hb⟩
  have HB9 := Lib.hid (HB8.out.trans (hb.mono HB8.out.size))
  clear hb G1
  go_wp2_with fail
  refine (give_nil n _).mono ?_
  rintro e w10 ⟨rfl, rfl⟩
  go_wp2_with fail
  refine (scommit_nil _).mono ?_
  rintro e w10 ⟨rfl, rfl⟩
  go_wp2_with fail
  refine (free_nil _).mono ?_
  rintro e w10 ⟨rfl, rfl⟩
  go_wp2_with fail
  refine (super_nil _).mono ?_
  rintro e w10 ⟨rfl, hb⟩
  have HB10 := Lib.hid (A2.out.trans ((HB9.out.trans (hb.mono HB9.out.size)).mono A2.out.size))
  clear hb
  go_wp2_with fail
  go_ret
  exact ⟨rfl, HB10.out⟩
theorem storeNone.walk (W : World) (n : Int) (hn : -9223372036854775808 ≤ n ∧ n ≤ 9223372036854775807) (A : Option Addr) (l c : Nat) (bs : List UInt8) (hB : F.Bts W W.heap.size A l c bs) (x : D.Nd) (a b : Int) (A' : Option Addr) (l' c' : Nat) :
    Calls Tryz.prog 4 #[.int .i64 n, .slice A l c, .agg (D.nc x).toArray, .agg #[.int .i64 a, .int .i64 b, .slice A' l' c']] W fun e w' => e = .returned (.bool true) ∧ Below W.heap.size W w' := storeNone_walk n A l c x a b A' l' c' W
end Go.Proofs.YthjjfncpongghaaGreat
