/- node.nodeOf, walked. -/
import Derived.Test.YtijphembfohfnaaRd
import Derived.Deep.RegionHeld3
namespace Go.Proofs.Ytijphembfohfnaa
open Go.RowKit
set_option linter.unusedVariables false
theorem mid_bts {w W : World} {b : List UInt8} (h : W.heap[w.heap.size]? = some (.cells (b.map F.bv).toArray 44 (0, 0))) (hb : b.length = 32) : F.Bts W (w.heap.size + 1) (some ⟨w.heap.size, 2, none⟩) 12 30 (mid b) := by
  refine ⟨mid_len hb, by omega, by decide, (fun e => by cases e), fun _ => ⟨w.heap.size, 2, rfl, by omega, fun j hj => ?_⟩⟩
  rw [box_cell h (by omega)]
  have e : (mid b)[j]? = b[2 + j]? := by
    unfold mid
    rw [List.getElem?_take, if_pos hj, List.getElem?_drop]
  rw [e]
set_option maxRecDepth 20000 in
set_option maxHeartbeats 4000000 in
theorem nodeOf_any (b : List UInt8) (w : World) (hb : b.length = 32) : Calls Try.prog 21 #[.agg (b.map F.bv).toArray] w fun e w' => e = .returned (.agg (nc (rd b).up).toArray) ∧ Below w.heap.size w w' := by
  have HL := Lib.hid hb
  clear hb
  go_enter Try.func21, Try.ntmps21
  go_upto_region 1 with fail
  obtain ⟨a0, a1, ab, az⟩ := box2 w (Obj.cells (b.map F.bv).toArray 44) (Obj.cells z11 25)
  generalize (w.alloc (Obj.cells (b.map F.bv).toArray 44)).alloc (Obj.cells z11 25) = W at *
  have A0 := Lib.hid a0
  have A1 := Lib.hid a1
  have AB := Lib.hid ab
  have AZ := Lib.hid az
  clear a0 a1 ab az
  go_wp2_with fail
  refine (F.read_any _ _ _ (w.heap.size + 1) (mid b) _ (mid_bts A0.out HL.out) (by rw [AZ.out]; omega)).mono ?_
  rintro e w1 ⟨rfl, hf1, hb1⟩
  rw [AZ.out] at hf1 hb1 ⊢
  have HS0 : Hid (St w w1 b 0 none) := by
    exact ⟨hf1, (hb1.block _ (by omega)).trans A0.out, (hb1.block _ (by omega)).trans A1.out, AB.out.trans (hb1.mono (by omega)), fun p hp => by cases hp⟩
  clear hf1 hb1 A0 A1 AB AZ
  obtain ⟨x0, hx0⟩ : ∃ x, b[0]?.getD 0 = x := ⟨_, rfl⟩
  obtain ⟨x1, hx1⟩ : ∃ x, b[1]?.getD 0 = x := ⟨_, rfl⟩
  have HX := Lib.hid hx0
  have HY := Lib.hid hx1
  clear hx0 hx1
  have hw0 : IntKind.i64.wrap (x0.toNat : Int) = x0.toNat := by have := x0.toNat_lt; rw [IntKind.wrap_i64]; omega
  have hw1 : IntKind.i64.wrap (x1.toNat : Int) = x1.toNat := by have := x1.toNat_lt; rw [IntKind.wrap_i64]; omega
  go_upto_region 2 with fail
  go_cut [4] from 10 to 22 (fun s4 wx => ∃ p, s4 = .pointer (some ⟨p, 0, none⟩) ∧ Hid (Dn w wx b p))
  case first =>
    go_region_held3 (fun W => W.cell? ⟨w.heap.size, 0, none⟩ = some (.int .u8 (x0.toNat : Int)) ∧ W.cell? ⟨w.heap.size, 1, none⟩ = some (.int .u8 (x1.toNat : Int))) (first | with_reducible exact HS0.out.drew.c01 HL.out HX.out HY.out | with_reducible exact (HS0.out.alloc w1.heap.size rfl).drew.c01 HL.out HX.out HY.out | with_reducible exact HS1.out.c01 HL.out HX.out HY.out | with_reducible exact HS2.out.c01 HL.out HX.out HY.out | with_reducible exact HS3.out.c01 HL.out HX.out HY.out | with_reducible exact HS1.out.far HL.out HX.out HY.out _ | with_reducible exact HS2.out.far HL.out HX.out HY.out _ | with_reducible exact HS3.out.far HL.out HX.out HY.out _ | go_keep) (first
      | (go_at_call 26; with_reducible refine (num_st 0 (by omega) HL.out HS0.out.drew).mono ?_; rintro e w2 ⟨rfl, h2⟩; have HS1 := Lib.hid h2; clear h2)
      | (go_at_call 26; with_reducible refine (num_st 0 (by omega) HL.out (HS0.out.alloc w1.heap.size rfl).drew).mono ?_; rintro e w2 ⟨rfl, h2⟩; have HS1 := Lib.hid h2; clear h2)
      | (go_at_call 26; with_reducible refine (num_st 1 (by omega) HL.out HS1.out).mono ?_; rintro e w3 ⟨rfl, h3⟩; have HS2 := Lib.hid h3; clear h3)
      | (go_at_call 26; with_reducible refine (num_st 1 (by omega) HL.out (HS1.out.alloc w2.heap.size rfl)).mono ?_; rintro e w3 ⟨rfl, h3⟩; have HS2 := Lib.hid h3; clear h3)
      | (go_at_call 26; with_reducible refine (num_st 2 (by omega) HL.out HS2.out).mono ?_; rintro e w4 ⟨rfl, h4⟩; have HS3 := Lib.hid h4; clear h4; try (obtain ⟨z0, f0⟩ := HS3.out.cells 0 (by omega)); try (obtain ⟨z1, f1⟩ := HS3.out.cells 1 (by omega)); try (obtain ⟨z2, f2⟩ := HS3.out.cells 2 (by omega)); try (obtain ⟨z3, f3⟩ := HS3.out.cells 3 (by omega)); try (obtain ⟨z4, f4⟩ := HS3.out.cells 4 (by omega)); try (obtain ⟨z5, f5⟩ := HS3.out.cells 5 (by omega)); try (obtain ⟨z6, f6⟩ := HS3.out.cells 6 (by omega)); try (obtain ⟨z7, f7⟩ := HS3.out.cells 7 (by omega)); try (obtain ⟨z8, f8⟩ := HS3.out.cells 8 (by omega)); try (obtain ⟨z9, f9⟩ := HS3.out.cells 9 (by omega)); try (obtain ⟨z10, f10⟩ := HS3.out.cells 10 (by omega)); try (have hpn := HS3.out.ne))
      | (go_at_call 26; with_reducible refine (num_st 2 (by omega) HL.out (HS2.out.alloc w3.heap.size rfl)).mono ?_; rintro e w4 ⟨rfl, h4⟩; have HS3 := Lib.hid h4; clear h4; try (obtain ⟨z0, f0⟩ := HS3.out.cells 0 (by omega)); try (obtain ⟨z1, f1⟩ := HS3.out.cells 1 (by omega)); try (obtain ⟨z2, f2⟩ := HS3.out.cells 2 (by omega)); try (obtain ⟨z3, f3⟩ := HS3.out.cells 3 (by omega)); try (obtain ⟨z4, f4⟩ := HS3.out.cells 4 (by omega)); try (obtain ⟨z5, f5⟩ := HS3.out.cells 5 (by omega)); try (obtain ⟨z6, f6⟩ := HS3.out.cells 6 (by omega)); try (obtain ⟨z7, f7⟩ := HS3.out.cells 7 (by omega)); try (obtain ⟨z8, f8⟩ := HS3.out.cells 8 (by omega)); try (obtain ⟨z9, f9⟩ := HS3.out.cells 9 (by omega)); try (obtain ⟨z10, f10⟩ := HS3.out.cells 10 (by omega)); try (have hpn := HS3.out.ne)))
    all_goals (go_wp2_with fail; go_meet; refine ⟨_, rfl, Lib.hid ?_⟩; first | with_reducible exact Dn.new HS3.out HX.out HY.out | with_reducible exact Dn.put HS3.out HX.out HY.out)
  case rest =>
    obtain ⟨p, rfl, HD⟩ := hcut
    clear HS0 hw0 hw1 HX HY
    go_upto_region 4 with fail
    obtain ⟨l0, lb, lz⟩ := box1 wc (Obj.cells z6 49)
    have HR0 : Hid (Rl w (wc.alloc (Obj.cells z6 49)) b p wc.heap.size 0) := ⟨HD.out.below lb, F.lt_of_heap HD.out.node, l0⟩
    clear l0 lb lz HD
    generalize wc.alloc (Obj.cells z6 49) = W1 at *
    generalize wc.heap.size = G at *
    go_wp2_with fail
    go_loopw [23] (fun i wr => ∃ k : Nat, k ≤ 6 ∧ i = .int .i64 k ∧ Hid (Rl w wr b p G k)) (fun i _ => 6 - (intOf i).toNat)
    case atStart => exact ⟨0, Nat.zero_le _, rfl, HR0⟩
    case round =>
      clear HR0
      obtain ⟨k, hk, rfl, HR⟩ := hrel
      by_cases hlt : k < 6
      · have hx := box_cell HR.out.dn.box (j := 14 + 2 * k) (by rw [HL.out]; omega)
        have hy := box_cell HR.out.dn.box (j := 14 + 2 * k + 1) (by rw [HL.out]; omega)
        obtain ⟨v0, hv0⟩ := fill_get b hlt
        have hg0 : wr.cell? ⟨G, k, none⟩ = some v0 := (F.cell_in HR.out.list k).trans hv0
        have hf0 := F.free_in HR.out.list k
        have HN : Hid (num2 b k = ((b[14 + 2 * k]?.getD 0).toNat + 256 * (b[14 + 2 * k + 1]?.getD 0).toNat : Nat)) := rfl
        clear hv0
        generalize b[14 + 2 * k]?.getD 0 = x at *
        generalize b[14 + 2 * k + 1]?.getD 0 = y at *
        have hxl := x.toNat_lt
        have hyl := y.toNat_lt
        go_wp2_with fail
        have hp : 14 + 2 * (k : Int) = ((14 + 2 * k : Nat) : Int) := by omega
        have hp1 : 14 + 2 * k + 1 < 32 := by omega
        rw [hp]
        generalize 14 + 2 * k = m at *
        clear hp
        have hi0 : (0 : Int) ≤ (m : Int) := by omega
        have hi1 : (m : Int) < 32 := by omega
        have hi2 : ((m + 1 : Nat) : Int) < 32 := by omega
        have hi4 : (0 : Int) ≤ ((m + 1 : Nat) : Int) := by omega
        have hw1 : IntKind.i64.wrap ((m : Int) + 1) = ((m + 1 : Nat) : Int) := by rw [IntKind.wrap_i64]; omega
        have hw2 : IntKind.i64.wrap (x.toNat : Int) = (x.toNat : Int) := by rw [IntKind.wrap_i64]; omega
        have hw3 : IntKind.i64.wrap (y.toNat : Int) = (y.toNat : Int) := by rw [IntKind.wrap_i64]; omega
        have hw4 : IntKind.i64.wrap ((y.toNat : Int) * 256) = (y.toNat : Int) * 256 := by rw [IntKind.wrap_i64]; omega
        have hj0 : (0 : Int) ≤ (k : Int) := by omega
        have hj1 : (k : Int) < 6 := by omega
        generalize hq : m + 1 = q at *
        clear hq
        go_still_tail 13, (by kernel_rfl)
        change wpList _ _ _ _ _ wr.drew
        have hg0' : wr.drew.cell? ⟨G, k, none⟩ = some v0 := hg0
        have hf0' : wr.drew.frozen? ⟨G, k, none⟩ = false := hf0
        go_wp2_with fail
        exact ⟨⟨k + 1, by omega, by go_num, (HR.out.step hlt (by rw [HN.out, or_low])).drew⟩, by simp [intOf]; omega⟩
      · obtain rfl : k = 6 := by omega
        obtain ⟨W2, hr, hg2, hgr, hz2⟩ := copy_run (w := wr.drew) (ty := 3) (dLen := 4) (dCap := 4) (sLen := 6) (sCap := 6) Try.underlying59 s3 (L := nc (nd5 b)) (off := 5) HR.out.dn.node (cs := four b) rfl (four_in (W := wr.drew) HR.out.list) (by simp [nc, four]) (four_one b)
        have hpG := HR.out.gt
        have hpw := HR.out.dn.gt
        have hlt6 := F.lt_of_heap HR.out.list
        have E0 : Hid (W2.heap[G]? = some (.cells (fill b 6).toArray 49 (0, 0))) := (hgr.block _ hlt6 (by simp; omega)).trans HR.out.list
        have E1 : Hid (W2.heap[w.heap.size + 1]? = some (.cells z11 25 (0, 0))) := (hgr.block _ (by show _ < wr.heap.size; omega) (by simp; omega)).trans HR.out.dn.zero
        have E2 : Hid (W2.heap[p]? = some (.cells (nc (nd9 b)).toArray 25 (0, 0))) := hg2
        have EB : Hid (Below w.heap.size w W2) := HR.out.dn.bel.drew.grown hgr (by show _ ≤ wr.heap.size; omega) (fun k hk => by cases hk; omega)
        have d4 : W2.cell? ⟨G, 4, none⟩ = some (.int .i64 (num2 b 4 : Nat)) := F.cell_in E0.out 4
        have d5 : W2.cell? ⟨G, 5, none⟩ = some (.int .i64 (num2 b 5 : Nat)) := F.cell_in E0.out 5
        have n9 : W2.cell? ⟨p, 9, none⟩ = some (.int .i64 0) := F.cell_in E2.out 9
        have n10 : W2.cell? ⟨p, 10, none⟩ = some (.int .i64 0) := F.cell_in E2.out 10
        have f9 := F.free_in E2.out 9
        have f10 := F.free_in E2.out 10
        have G2 : Hid (((W2.setCell ⟨p, 9, none⟩ (.int .i64 (num2 b 4 : Nat))).setCell ⟨p, 10, none⟩ (.int .i64 (num2 b 5 : Nat))).heap[p]? = some (.cells (nc (rd b).up).toArray 25 (0, 0))) := F.heap_set (F.heap_set E2.out 9 _) 10 _
        have G1 : Hid (((W2.setCell ⟨p, 9, none⟩ (.int .i64 (num2 b 4 : Nat))).setCell ⟨p, 10, none⟩ (.int .i64 (num2 b 5 : Nat))).heap[w.heap.size + 1]? = some (.cells z11 25 (0, 0))) := by
          show _ = _
          rw [Below.heap_setCell _ _ _ _ (by simp; omega), Below.heap_setCell _ _ _ _ (by simp; omega)]
          exact E1.out
        have GB : Hid (Below w.heap.size w ((W2.setCell ⟨p, 9, none⟩ (.int .i64 (num2 b 4 : Nat))).setCell ⟨p, 10, none⟩ (.int .i64 (num2 b 5 : Nat)))) := (EB.out.setCell (p := ⟨p, 9, none⟩) (by simp; omega) _).setCell (p := ⟨p, 10, none⟩) (by simp; omega) _
        have hne : p ≠ G := by omega
        clear hg2 hgr hz2 HR hlt6 hpG E0 E1 E2 EB
        go_upto_region 10 with fail
        go_region
        go_wp2_with (first | (refine wpList_load_row rfl 25 _ rfl p rfl _ _ _ G2.out _ Try.underlying25 rfl s25 ?_) | (refine wpList_store_row rfl 25 _ _ rfl (w.heap.size + 1) z11 (nc (rd b).up).toArray 25 rfl rfl G1.out s25 rfl (all_oneCell_toArray (nc_one _)) ?_) | fail)
        refine bodyPost_ret (ret_row rfl rfl (setRow_in _ _ _ _ _ G1.out) Try.underlying25 rfl s25) rfl ?_
        exact ⟨rfl, below_setRow GB.out (by omega) _⟩
end Go.Proofs.Ytijphembfohfnaa
