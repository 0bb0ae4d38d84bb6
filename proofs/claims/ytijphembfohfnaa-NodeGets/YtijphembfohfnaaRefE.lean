/- copyholdref10.Encode, walked. -/
import Derived.Test.YtijphembfohfnaaRefS
import Derived.Test.YtijphembfohfnaaPut
import Derived.Deep.RegionHeld3
namespace Go.Proofs.Ytijphembfohfnaa
open Go.RowKit
set_option linter.unusedVariables false
theorem little4 (n : Nat) (w : World) (hn : n < 4294967296) : Calls Try.prog 22 #[.int .i64 n, .int .i64 4] w fun e w' => e = .returned (.string (sb (F.lit 4 n))) ∧ Below w.heap.size w w' := little6 n 4 w (by omega) (by omega)
theorem little1 (n : Nat) (w : World) (hn : n < 256) : Calls Try.prog 22 #[.int .i64 n, .int .i64 1] w fun e w' => e = .returned (.string (sb (F.lit 1 n))) ∧ Below w.heap.size w w' := little6 n 1 w (by omega) (by omega)
theorem little2 (n : Nat) (w : World) (hn : n < 65536) : Calls Try.prog 22 #[.int .i64 n, .int .i64 2] w fun e w' => e = .returned (.string (sb (F.lit 2 n))) ∧ Below w.heap.size w w' := little6 n 2 w (by omega) (by omega)
theorem noughts6 (w : World) : Calls Try.prog 23 #[.int .i64 6] w fun e w' => e = .returned (.string (noughtsL 6)) ∧ w = w' := noughts_any 6 w (by omega)
theorem head_text (y : Nn) : sb (F.lit 1 y.k) ++ sb (F.lit 1 y.l) ++ sb (F.lit 4 y.g) ++ sb (F.lit 4 y.s) ++ sb (F.lit 4 y.c) = sb (y.parp 0) := by
  rw [sb_app, sb_app, sb_app, sb_app]
  rfl
theorem tail_text (y : Nn) : sb (y.parp 4) ++ sb (F.lit 2 y.o) ++ sb (F.lit 2 y.t) ++ noughtsL 6 = sb y.img := by
  unfold noughtsL
  rw [sb_app, sb_app, sb_app]
  rfl
theorem lit_size (k n : Nat) : (sb (F.lit k n)).size = k := by rw [sb_size, F.lit_length]
set_option maxRecDepth 20000 in
set_option maxHeartbeats 2000000 in
theorem refEnc_any (y : Nn) (w : World) (hf : y.Fits) : Calls Try.prog 13 #[.agg (nc y.up).toArray] w fun e w' => e = .returned (.string (sb y.img)) ∧ Below w.heap.size w w' := by
  have HF := Lib.hid hf
  clear hf
  have zk := lit_size 1 y.k
  have zl := lit_size 1 y.l
  have zg := lit_size 4 y.g
  have zs := lit_size 4 y.s
  have zc := lit_size 4 y.c
  go_enter Try.func13, Try.ntmps13
  go_upto_region 1 with fail
  obtain ⟨a0, ab, az⟩ := box1 w (Obj.cells (nc y.up).toArray 25)
  generalize w.alloc (Obj.cells (nc y.up).toArray 25) = W at *
  have A0 := Lib.hid a0
  have AB := Lib.hid ab
  have hlt : w.heap.size < W.heap.size := by omega
  clear a0 ab az
  have HS : ∀ V, Hid (Below W.heap.size W V → V.cell? ⟨w.heap.size, 0, none⟩ = some (.int .i64 (y.k : Nat)) ∧ V.cell? ⟨w.heap.size, 1, none⟩ = some (.int .i64 (y.l : Nat)) ∧ V.cell? ⟨w.heap.size, 2, none⟩ = some (.int .i64 (y.g : Nat)) ∧ V.cell? ⟨w.heap.size, 3, none⟩ = some (.int .i64 (y.s : Nat)) ∧ V.cell? ⟨w.heap.size, 4, none⟩ = some (.int .i64 (y.c : Nat))) := fun V hV => nd_cells ((hV.block _ hlt).trans A0.out)
  have HB0 : Hid (Below W.heap.size W W.drew) := (Below.refl _ _).drew
  have HP := Lib.hid (head_text y)
  go_region_held3 (fun V => V.cell? ⟨w.heap.size, 0, none⟩ = some (.int .i64 (y.k : Nat)) ∧ V.cell? ⟨w.heap.size, 1, none⟩ = some (.int .i64 (y.l : Nat)) ∧ V.cell? ⟨w.heap.size, 2, none⟩ = some (.int .i64 (y.g : Nat)) ∧ V.cell? ⟨w.heap.size, 3, none⟩ = some (.int .i64 (y.s : Nat)) ∧ V.cell? ⟨w.heap.size, 4, none⟩ = some (.int .i64 (y.c : Nat))) (first | (with_reducible exact (HS _).out HB0.out) | (with_reducible exact (HS _).out HB2.out) | (with_reducible exact (HS _).out HB3.out) | (with_reducible exact (HS _).out HB4.out) | (with_reducible exact (HS _).out HB5.out) | (with_reducible exact (HS _).out HB6.out)) (first
    | (go_at_call 22; (with_reducible refine (little1 y.k _ HF.out.k).mono ?_); rintro e w2 ⟨rfl, hb2⟩; have HB2 := Lib.hid (HB0.out.trans (hb2.mono HB0.out.size)); clear hb2)
    | (go_at_call 22; (with_reducible refine (little1 y.l _ HF.out.l).mono ?_); rintro e w3 ⟨rfl, hb3⟩; have HB3 := Lib.hid (HB2.out.trans (hb3.mono HB2.out.size)); clear hb3)
    | (go_at_call 22; (with_reducible refine (little4 y.g _ HF.out.g).mono ?_); rintro e w4 ⟨rfl, hb4⟩; have HB4 := Lib.hid (HB3.out.trans (hb4.mono HB3.out.size)); clear hb4)
    | (go_at_call 22; (with_reducible refine (little4 y.s _ HF.out.s).mono ?_); rintro e w5 ⟨rfl, hb5⟩; have HB5 := Lib.hid (HB4.out.trans (hb5.mono HB4.out.size)); clear hb5)
    | (go_at_call 22; (with_reducible refine (little4 y.c _ HF.out.c).mono ?_); rintro e w6 ⟨rfl, hb6⟩; have HB6 := Lib.hid (HB5.out.trans (hb6.mono HB5.out.size)); clear hb6))
  rw [HP.out]
  clear zk zl zg zs zc HS HP HB0 HB2 HB3 HB4 HB5
  go_wp2_with fail
  go_loopw [3, 4] (fun s i wr => ∃ k : Nat, k ≤ 4 ∧ i = .int .i64 k ∧ s = .string (sb (y.parp k)) ∧ Hid (Below W.heap.size W wr)) (fun _ i _ => 4 - (intOf i).toNat)
  case atStart => exact ⟨0, Nat.zero_le _, rfl, rfl, HB6⟩
  case round =>
    clear HB6
    obtain ⟨k, hk, rfl, rfl, HB⟩ := hrel
    by_cases hlt4 : k < 4
    · have hc := dir_cell ((HB.out.block _ hlt).trans A0.out) hlt4
      rw [p_up] at hc
      have HQ : Hid (y.ptr6 k < 65536) := ptr6_lt HF.out k
      have HP : Hid (sb (y.parp k) ++ sb (F.lit 2 (y.ptr6 k)) = sb (y.parp (k + 1))) := sb_app _ _
      have z1 : (sb (y.parp k)).size = 14 + 2 * k := by rw [sb_size, y.parp_len]
      have z2 := lit_size 2 (y.ptr6 k)
      have z3 : ¬ 9223372036854775807 < 14 + 2 * k + 2 := by omega
      generalize y.ptr6 k = x at *
      go_wp2_with fail
      refine (little2 x _ HQ.out).mono ?_
      rintro e w7 ⟨rfl, hb7⟩
      have HB7 := Lib.hid (HB.out.trans (hb7.mono HB.out.size))
      clear hb7 hc
      go_wp2_with fail
      go_roundw
      case rel => exact ⟨k + 1, by omega, by go_num, by rw [← HP.out], HB7⟩
      case measure => simp [intOf]; omega
    · obtain rfl : k = 4 := by omega
      have HS : ∀ V, Hid (Below W.heap.size W V → V.cell? ⟨w.heap.size, 9, none⟩ = some (.int .i64 (y.o : Nat)) ∧ V.cell? ⟨w.heap.size, 10, none⟩ = some (.int .i64 (y.t : Nat))) := fun V hV => one_cells _ _ _ _ _ ((hV.block _ hlt).trans A0.out)
      have HB0 : Hid (Below W.heap.size W wr.drew) := HB.out.drew
      have HP := Lib.hid (tail_text y)
      have z1 : (sb (y.parp 4)).size = 22 := by rw [sb_size, y.parp_len]
      have zo := lit_size 2 y.o
      have zt := lit_size 2 y.t
      have zn := noughts_size 6
      go_upto_region 6 with fail
      go_region_held3 (fun V => V.cell? ⟨w.heap.size, 9, none⟩ = some (.int .i64 (y.o : Nat)) ∧ V.cell? ⟨w.heap.size, 10, none⟩ = some (.int .i64 (y.t : Nat))) (first | (with_reducible exact (HS _).out HB0.out) | (with_reducible exact (HS _).out HB2.out) | (with_reducible exact (HS _).out HB3.out)) (first
        | (go_at_call 22; (with_reducible refine (little2 y.o _ HF.out.o).mono ?_); rintro e w2 ⟨rfl, hb2⟩; have HB2 := Lib.hid (HB0.out.trans (hb2.mono HB0.out.size)); clear hb2)
        | (go_at_call 22; (with_reducible refine (little2 y.t _ HF.out.t).mono ?_); rintro e w3 ⟨rfl, hb3⟩; have HB3 := Lib.hid (HB2.out.trans (hb3.mono HB2.out.size)); clear hb3)
        | (go_at_call 23; (with_reducible refine (noughts6 _).mono ?_); rintro e w4 ⟨rfl, rfl⟩))
      rw [HP.out]
      go_wp2_with fail
      go_ret
      exact ⟨rfl, AB.out.trans (HB3.out.mono (by omega))⟩
end Go.Proofs.Ytijphembfohfnaa
