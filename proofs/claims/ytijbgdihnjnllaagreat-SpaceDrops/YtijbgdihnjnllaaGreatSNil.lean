/- No store, no drive, a drive without power. -/
import Derived.Test.YtijbgdihnjnllaaGreatSMake
namespace Go.Proofs.YtijbgdihnjnllaaGreat
open Go.RowKit
set_option linter.unusedVariables false
set_option maxRecDepth 20000
section
variable {w0 w : World} {d N : Nat} {O : List Nat} {s : DS}
theorem oc11 : (D.z11 : Array Value).all (·.oneCell') = true := all_oneCell_toArray (D.nc_one D.zeroN.up)
theorem get_nil' (n : Int) (w : World) : Calls Tryz.prog 60 #[.pointer none, .int .i64 n] w fun e w' => e = .returned (.tuple #[.slice none 0 0, .int .i64 1]) ∧ w = w' := by
  go_enter Tryz.func60, Tryz.ntmps60
  go_wp2_with fail
  refine (barred_nil w).mono ?_
  rintro e w1 ⟨rfl, rfl⟩
  go_wp2_with fail
  go_ret2
  exact ⟨rfl, rfl⟩
theorem around_nil (n : Int) (w : World) : Calls Tryz.prog 62 #[.pointer none, .int .i64 n] w fun e w' => e = .returned (.tuple #[.slice none 0 0, .int .i64 1]) ∧ w = w' := by
  go_enter Tryz.func62, Tryz.ntmps62
  go_wp2_with fail
  refine (barred_nil w).mono ?_
  rintro e w1 ⟨rfl, rfl⟩
  go_wp2_with fail
  go_ret2
  exact ⟨rfl, rfl⟩
theorem seats_nil (n : Int) (w : World) : Calls Tryz.prog 114 #[.pointer none, .int .i64 n] w fun e w' => e = .returned (.int .i64 1) ∧ w = w' := by
  go_enter Tryz.func114, Tryz.ntmps114
  go_wp2_with fail
  refine (barred_nil w).mono ?_
  rintro e w1 ⟨rfl, rfl⟩
  go_wp2_with fail
  go_ret
  exact ⟨rfl, rfl⟩
theorem node_nil (n : Int) (w : World) : Calls Tryz.prog 30 #[.pointer none, .int .i64 n] w fun e w' => e = .returned (.tuple #[.agg D.z11, .int .i64 1]) ∧ Below w.heap.size w w' := by
  obtain ⟨a0, a1, a2⟩ := D.box1 w (Obj.cells D.z11 72)
  have A0 := Lib.hid a0
  have A1 := Lib.hid a1
  clear a0 a1 a2
  go_enter Tryz.func30, Tryz.ntmps30
  go_wp2_with fail
  refine (around_nil n _).mono ?_
  rintro e w1 ⟨rfl, rfl⟩
  go_wp2_with (first | (refine wpList_store_new rfl 72 _ _ rfl w D.z11 D.z11 rfl rfl s47 rfl oc11 ?_) | fail)
  refine bodyPost_ret (D.ret_row2 rfl rfl A0.out Tryz.underlying72 rfl s47) rfl ?_
  exact ⟨rfl, A1.out⟩
theorem seat_nil (n : Int) (w : World) : Calls Tryz.prog 76 #[.pointer none, .int .i64 n] w fun e w' => e = .returned (.tuple #[.agg #[.int .i64 0, .int .i64 0, .slice none 0 0], .int .i64 1]) ∧ Below w.heap.size w w' := by
  obtain ⟨a0, a1, a2⟩ := D.box1 w (Obj.cells #[.int .i64 0, .int .i64 0, .slice none 0 0] 133)
  have A0 := Lib.hid a0
  have A1 := Lib.hid a1
  clear a0 a1 a2
  go_enter Tryz.func76, Tryz.ntmps76
  go_wp2_with fail
  refine (seats_nil n _).mono ?_
  rintro e w1 ⟨rfl, rfl⟩
  go_wp2_with (first | (refine wpList_store_new rfl 133 _ _ rfl w #[.int .i64 0, .int .i64 0, .slice none 0 0] #[.int .i64 0, .int .i64 0, .slice none 0 0] rfl rfl s49x rfl (oc3s _ _ _ _ _) ?_) | fail)
  refine bodyPost_ret (D.ret_row2 rfl rfl A0.out Tryz.underlying133 rfl s49x) rfl ?_
  exact ⟨rfl, A1.out⟩
theorem new_nil (n : Int) (w : World) : Calls Tryz.prog 15 #[.pointer none, .int .i64 n] w fun e w' => e = .returned (.tuple #[.int .i64 0, .int .i64 1]) ∧ w = w' := by
  go_enter Tryz.func15, Tryz.ntmps15
  go_wp2_with fail
  refine (barred_nil w).mono ?_
  rintro e w1 ⟨rfl, rfl⟩
  go_wp2_with fail
  go_ret2
  exact ⟨rfl, rfl⟩
theorem take_nil (w : World) : Calls Tryz.prog 131 #[.pointer none] w fun e w' => e = .returned (.tuple #[.int .i64 0, .int .i64 1]) ∧ w = w' := by
  go_enter Tryz.func131, Tryz.ntmps131
  go_wp2_with fail
  refine (get_nil' 34 w).mono ?_
  rintro e w1 ⟨rfl, rfl⟩
  go_wp2_with fail
  go_ret2
  exact ⟨rfl, rfl⟩
theorem mount_nil (w : World) : Calls Tryz.prog 14 #[.pointer none] w fun e w' => e = .returned (.tuple #[.pointer none, .int .i64 1]) ∧ w = w' := by
  go_enter Tryz.func14, Tryz.ntmps14
  go_wp2_with fail
  refine (recover_nil w).mono ?_
  rintro e w1 ⟨rfl, rfl⟩
  go_wp2_with fail
  go_ret2
  exact ⟨rfl, rfl⟩
theorem emptyLog_nil (w : World) : Calls Tryz.prog 31 #[.pointer none] w fun e w' => e = .returned (.int .i64 1) ∧ w = w' := by
  go_enter Tryz.func31, Tryz.ntmps31
  go_wp2_with fail
  refine (recover_nil w).mono ?_
  rintro e w1 ⟨rfl, rfl⟩
  go_wp2_with fail
  go_ret
  exact ⟨rfl, rfl⟩
theorem make_nil (w : World) : Calls Tryz.prog 13 #[.pointer none] w fun e w' => e = .returned (.int .i64 1) ∧ w = w' := by
  go_enter Tryz.func13, Tryz.ntmps13
  go_wp2_with fail
  refine (emptyLog_nil w).mono ?_
  rintro e w1 ⟨rfl, rfl⟩
  go_wp2_with fail
  go_ret
  exact ⟨rfl, rfl⟩
theorem sput_nil (n : Int) (A : Option Addr) (l c : Nat) (w : World) : Calls Tryz.prog 69 #[.pointer none, .int .i64 n, .slice A l c] w fun e w' => e = .returned (.int .i64 1) ∧ w = w' := by
  go_enter Tryz.func69, Tryz.ntmps69
  go_wp2_with fail
  refine (barred_nil w).mono ?_
  rintro e w1 ⟨rfl, rfl⟩
  go_wp2_with fail
  go_ret
  exact ⟨rfl, rfl⟩
theorem withNode_nil (n : Int) (x : D.Nd) (w : World) : Calls Tryz.prog 42 #[.pointer none, .int .i64 n, .agg (D.nc x).toArray] w fun e w' => e = .returned (.tuple #[.agg #[.int .i64 0, .slice none 0 0], .int .i64 1]) ∧ Below w.heap.size w w' := by
  obtain ⟨a0, a1, a2, a3⟩ := D.box2 w (Obj.cells (D.nc x).toArray 72) (Obj.cells #[.int .i64 0, .slice none 0 0] 87)
  have A1 := Lib.hid a1
  have A2 := Lib.hid a2
  clear a0 a1 a2 a3
  go_enter Tryz.func42, Tryz.ntmps42
  go_wp2_with fail
  refine (around_nil n _).mono ?_
  rintro e w1 ⟨rfl, rfl⟩
  go_wp2_with (first | (refine wpList_store_new rfl 87 _ _ rfl (w.alloc (Obj.cells (D.nc x).toArray 72)) #[.int .i64 0, .slice none 0 0] #[.int .i64 0, .slice none 0 0] rfl rfl s34 rfl (oc2 _ _ _ _) ?_) | fail)
  refine bodyPost_ret (D.ret_row2 rfl rfl A1.out Tryz.underlying87 rfl s34) rfl ?_
  exact ⟨rfl, A2.out⟩
theorem setNode_nil (n : Int) (x : D.Nd) (w : World) : Calls Tryz.prog 71 #[.pointer none, .int .i64 n, .agg (D.nc x).toArray] w fun e w' => e = .returned (.int .i64 1) ∧ Below w.heap.size w w' := by
  obtain ⟨a0, a1, a2⟩ := D.box1 w (Obj.cells (D.nc x).toArray 72)
  have A0 := Lib.hid a0
  have A1 := Lib.hid a1
  clear a0 a1 a2
  go_enter Tryz.func71, Tryz.ntmps71
  go_wp2_with (first | (refine D.wpList_load_row rfl 72 _ rfl w.heap.size rfl _ _ _ A0.out _ Tryz.underlying72 rfl s47 ?_) | fail)
  refine (withNode_nil n x _).mono ?_
  rintro e w1 ⟨rfl, hb⟩
  have HB := Lib.hid (A1.out.trans (hb.mono A1.out.size))
  clear hb
  obtain ⟨b0, b1, b2⟩ := D.box1 w1 (Obj.cells #[.int .i64 0, .slice none 0 0] 87)
  have HB2 := Lib.hid (HB.out.trans (b1.mono HB.out.size))
  clear b0 b1 b2
  go_wp2_with (first | (refine wpList_store_new rfl 87 _ _ rfl w1 #[.int .i64 0, .slice none 0 0] #[.int .i64 0, .slice none 0 0] rfl rfl s34 rfl (oc2 _ _ _ _) ?_) | fail)
  go_ret
  exact ⟨rfl, HB2.out⟩
theorem setSeat_nil (n a b : Int) (A : Option Addr) (l c : Nat) (w : World) : Calls Tryz.prog 67 #[.pointer none, .int .i64 n, .agg #[.int .i64 a, .int .i64 b, .slice A l c]] w fun e w' => e = .returned (.int .i64 1) ∧ Below w.heap.size w w' := by
  obtain ⟨a0, a1, a2⟩ := D.box1 w (Obj.cells #[.int .i64 a, .int .i64 b, .slice A l c] 133)
  have A1 := Lib.hid a1
  clear a0 a1 a2
  go_enter Tryz.func67, Tryz.ntmps67
  go_wp2_with fail
  refine (seats_nil n _).mono ?_
  rintro e w1 ⟨rfl, rfl⟩
  go_wp2_with fail
  go_ret
  exact ⟨rfl, A1.out⟩
theorem give_nil (n : Int) (w : World) : Calls Tryz.prog 101 #[.pointer none, .int .i64 n] w fun e w' => e = .returned (.int .i64 1) ∧ w = w' := by
  go_enter Tryz.func101, Tryz.ntmps101
  go_wp2_with fail
  refine (barred_nil w).mono ?_
  rintro e w1 ⟨rfl, rfl⟩
  go_wp2_with fail
  go_ret
  exact ⟨rfl, rfl⟩
theorem scommit_nil (w : World) : Calls Tryz.prog 17 #[.pointer none] w fun e w' => e = .returned (.int .i64 1) ∧ w = w' := by
  go_enter Tryz.func17, Tryz.ntmps17
  go_wp2_with fail
  refine (barred_nil w).mono ?_
  rintro e w1 ⟨rfl, rfl⟩
  go_wp2_with fail
  go_ret
  exact ⟨rfl, rfl⟩
theorem free_nil (w : World) : Calls Tryz.prog 26 #[.pointer none] w fun e w' => e = .returned (.int .i64 0) ∧ w = w' := by
  go_enter Tryz.func26, Tryz.ntmps26
  go_wp2_with fail
  refine (get_nil' 34 w).mono ?_
  rintro e w1 ⟨rfl, rfl⟩
  go_wp2_with fail
  go_ret
  exact ⟨rfl, rfl⟩
theorem begins_nil (w : World) : Calls Tryz.prog 75 #[.pointer none] w (SupR w 0 0 0 1) := by
  obtain ⟨a0, a1, a2⟩ := D.box1 w (Obj.cells #[.int .i64 0, .int .i64 0, .int .i64 0] 81)
  have A0 := Lib.hid a0
  have A1 := Lib.hid a1
  clear a0 a1 a2
  go_enter Tryz.func75, Tryz.ntmps75
  go_wp2_with fail
  refine (get_nil' 0 _).mono ?_
  rintro e w1 ⟨rfl, rfl⟩
  go_wp2_with (first | (refine wpList_store_new rfl 81 _ _ rfl w #[.int .i64 0, .int .i64 0, .int .i64 0] #[.int .i64 0, .int .i64 0, .int .i64 0] rfl rfl s42 rfl (oc3 _ _ _) ?_) | fail)
  refine bodyPost_ret (D.ret_row2 rfl rfl A0.out Tryz.underlying81 rfl s42) rfl ?_
  exact ⟨rfl, A1.out⟩
set_option maxHeartbeats 1000000 in
theorem super_nil (w : World) : Calls Tryz.prog 35 #[.pointer none] w fun e w' => e = .returned (.agg #[.int .i64 0, .int .i64 0, .int .i64 0]) ∧ Below w.heap.size w w' := by
  obtain ⟨a0, a1, a2⟩ := D.box1 w (Obj.cells #[.int .i64 0, .int .i64 0, .int .i64 0] 81)
  have A0 := Lib.hid a0
  have A1 := Lib.hid a1
  have A2 := Lib.hid a2
  clear a0 a1 a2
  go_enter Tryz.func35, Tryz.ntmps35
  go_wp2_with fail
  refine (begins_nil _).mono ?_
  rintro e w1 ⟨rfl, hb3⟩
  have G1 := Lib.hid ((hb3.block _ (by rw [A2.out]; omega)).trans A0.out)
  have GB := Lib.hid (A1.out.trans (hb3.mono (by rw [A2.out]; omega)))
  have hs1 : w.heap.size + 1 ≤ w1.heap.size := by have := hb3.size; rw [A2.out] at this; exact this
  clear hb3 A0 A1 A2
  go_upto_region 2 with (first | (refine wpList_store_new rfl 81 _ _ rfl w1 #[.int .i64 0, .int .i64 0, .int .i64 0] #[.int .i64 0, .int .i64 0, .int .i64 0] rfl rfl s42 rfl (oc3 _ _ _) ?_) | fail)
  obtain ⟨b0, b1, b2⟩ := D.box1 w1 (Obj.cells #[.int .i64 0, .int .i64 0, .int .i64 0] 81)
  have G2 := Lib.hid ((b1.block w.heap.size (by omega)).trans G1.out)
  have G3 := Lib.hid b0
  have GB2 := Lib.hid (GB.out.trans (b1.mono (by omega)))
  clear b0 b1 b2
  generalize w1.alloc (Obj.cells #[.int .i64 0, .int .i64 0, .int .i64 0] 81) = W at *
  go_wp2_with (first | (refine D.wpList_load_row rfl 81 _ rfl w1.heap.size rfl _ _ _ G3.out _ Tryz.underlying81 rfl s42 ?_) | (refine D.wpList_store_row rfl 81 _ _ rfl w.heap.size #[.int .i64 0, .int .i64 0, .int .i64 0] #[.int .i64 0, .int .i64 0, .int .i64 0] 81 rfl rfl G2.out s42 rfl (oc3 _ _ _) ?_) | fail)
  refine bodyPost_ret (D.ret_row rfl rfl (D.setRow_in _ _ _ #[.int .i64 0, .int .i64 0, .int .i64 0] _ G2.out) Tryz.underlying81 rfl s42) rfl ?_
  exact ⟨rfl, below_setRow GB2.out (Nat.le_refl _) _⟩
/-- A drive whose power goes at the first write. -/
theorem fused_put {N : Nat} (hN : 64 ≤ N) : ((newS N).fuse 0).put N [(1, hd [])] = (11, ((newS N).fuse 0).spend) := by
  unfold DS.put
  rw [show ((newS N).fuse 0).down = false from rfl, if_neg (by simp), if_pos (hd_fit hN good_nil)]
  rfl
set_option maxHeartbeats 1000000 in
theorem make_fused (h : Sit w0 w d O N ((newS N).fuse 0)) (hN : 64 ≤ N) : Calls Tryz.prog 13 #[.pointer (some ⟨d, 0, none⟩)] w fun e w' => e = .returned (.int .i64 11) ∧ ∃ O', Sit w0 w' d O' N ((newS N).fuse 0).spend := by
  have HE : Hid (Calls Tryz.prog 31 #[.pointer (some ⟨d, 0, none⟩)] w fun e w' => e = .returned (.int .i64 11) ∧ ∃ O', Sit w0 w' d O' N ((newS N).fuse 0).spend) :=
    emptyLog_gen h hN ⟨true, 0, rfl⟩ (fused_put hN) _ (fun he => by cases he) (fun _ e w' hh => by
      obtain ⟨rfl, O', hS, _, _⟩ := hh
      exact ⟨rfl, O', hS⟩)
  clear h
  go_enter Tryz.func13, Tryz.ntmps13
  go_wp2_with fail
  refine HE.out.mono ?_
  rintro e w1 ⟨rfl, h1⟩
  have H1 := Lib.hid h1
  clear h1
  go_wp2_with fail
  go_ret
  exact ⟨rfl, H1.out⟩
theorem mount_down (h : Sit w0 w d O N s) (hd : s.down = true) : Calls Tryz.prog 14 #[.pointer (some ⟨d, 0, none⟩)] w fun e w' => e = .returned (.tuple #[.pointer none, .int .i64 11]) ∧ Below w0.heap.size w0 w' := by
  have HRE := Lib.hid (recover_any h.drv (fun e => by rw [hd] at e; cases e))
  rw [show s.recover N = (11, s) by unfold DS.recover; rw [if_pos hd]] at HRE
  have H := Lib.hid h
  clear h hd
  go_enter Tryz.func14, Tryz.ntmps14
  go_wp2_with fail
  refine HRE.out.mono ?_
  rintro e w1 ⟨rfl, hdd⟩
  obtain ⟨O1, h1, hc1, hf1⟩ := H.out.did hdd
  have HB := Lib.hid h1.bel
  clear HRE hdd h1 hc1 hf1
  show _
  go_wp2_with fail
  go_ret2
  exact ⟨rfl, HB.out⟩
end
end Go.Proofs.YtijbgdihnjnllaaGreat
