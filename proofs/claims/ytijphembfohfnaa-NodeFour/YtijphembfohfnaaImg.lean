/- node.imageOf, walked. -/
import Derived.Test.YtijphembfohfnaaSound
namespace Go.Proofs.Ytijphembfohfnaa
open Go.RowKit
set_option linter.unusedVariables false
theorem idxn0 (a b c : Int) (w : World) : (Instr.index 56 (.agg #[.int .i64 a, .int .i64 b, .int .i64 c]) (.int .i64 0)).run Try.prog w = .ok (.int .i64 a) w := by kernel_rfl
theorem idxn1 (a b c : Int) (w : World) : (Instr.index 56 (.agg #[.int .i64 a, .int .i64 b, .int .i64 c]) (.int .i64 1)).run Try.prog w = .ok (.int .i64 b) w := by kernel_rfl
theorem idxn2 (a b c : Int) (w : World) : (Instr.index 56 (.agg #[.int .i64 a, .int .i64 b, .int .i64 c]) (.int .i64 2)).run Try.prog w = .ok (.int .i64 c) w := by kernel_rfl
theorem idxn (y : Nn) {k : Nat} (hk : k < 3) (w : World) : (Instr.index 56 (.agg #[.int .i64 y.g, .int .i64 y.s, .int .i64 y.c]) (.int .i64 k)).run Try.prog w = .ok (.int .i64 (y.nums3 k : Nat)) w := by
  match k, hk with
  | 0, _ => exact idxn0 _ _ _ w
  | 1, _ => exact idxn1 _ _ _ w
  | 2, _ => exact idxn2 _ _ _ w
/-- 32 bytes 0, as cells. -/
abbrev z32 : Array Value := #[.int .u8 0, .int .u8 0, .int .u8 0, .int .u8 0, .int .u8 0, .int .u8 0, .int .u8 0, .int .u8 0, .int .u8 0, .int .u8 0, .int .u8 0, .int .u8 0, .int .u8 0, .int .u8 0, .int .u8 0, .int .u8 0, .int .u8 0, .int .u8 0, .int .u8 0, .int .u8 0, .int .u8 0, .int .u8 0, .int .u8 0, .int .u8 0, .int .u8 0, .int .u8 0, .int .u8 0, .int .u8 0, .int .u8 0, .int .u8 0, .int .u8 0, .int .u8 0]
/-- Bytes in a block of their own. -/
theorem new_own (W : World) (l : List UInt8) (hl : l.length ≤ 1000) : (W.alloc (.cells (l.map F.bv).toArray 5)).ownsRow W.heap.size 5 1 (.slice (some ⟨W.heap.size, 0, none⟩) l.length l.length) l.length (l.map F.bv) :=
  ⟨by simp, .inr ⟨W.heap.size, l.length, (l.map F.bv).toArray, rfl, Nat.le_refl _, heap_alloc_new W _, Nat.le_refl _, by unfold maxLen; omega, by simp, by simp [List.take_of_length_le]⟩⟩
theorem new_mine (W : World) (l : List UInt8) (hl : l.length ≤ 1000) : F.Mine W (W.alloc (.cells (l.map F.bv).toArray 5)) (.slice (some ⟨W.heap.size, 0, none⟩) l.length l.length) l := ⟨new_own W l hl, box_below W _⟩
theorem two_row (a b : Int) (p q : UInt8) (ha : a = p.toNat) (hb : b = q.toNat) : (#[.int .u8 a, .int .u8 b] : Array Value) = ([p, q].map F.bv).toArray := by subst ha; subst hb; rfl
theorem own_below {w w' : World} {base n : Nat} {v : Value} {xs : List Value} (h : w.ownsRow base 5 1 v n xs) (hb : Below w.heap.size w w') : w'.ownsRow base 5 1 v n xs :=
  h.kept (F.grown_of_below hb none) (by cases hv : v.ownBlock <;> simp)
theorem bts_new (W : World) (l : List UInt8) (hl : l.length ≤ 1000) : F.Bts (W.alloc (.cells (l.map F.bv).toArray 5)) (W.heap.size + 1) (some ⟨W.heap.size, 0, none⟩) l.length l.length l :=
  ⟨rfl, Nat.le_refl _, by unfold maxLen; omega, (fun e => by cases e), fun _ => ⟨W.heap.size, 0, rfl, by omega, fun j hj => by
    have h1 := World.cell?_alloc_mark W (l.map F.bv).toArray 5 (0, 0) j
    rw [Nat.zero_add]
    refine h1.trans ?_
    simp [hj, F.bv]⟩⟩
theorem low_byte (n : Nat) : (n : Int) % 256 = ((UInt8.ofNat n).toNat : Int) := by rw [UInt8.toNat_ofNat']; omega
theorem high_byte {n : Nat} (h : n < 65536) : (n : Int) / 256 = ((UInt8.ofNat (n / 256)).toNat : Int) := by rw [UInt8.toNat_ofNat']; omega
theorem nums3_lt {y : Nn} (h : y.Fits) (k : Nat) : y.nums3 k < 4294967296 := by
  have := h.g; have := h.s; have := h.c
  unfold Nn.nums3
  split <;> assumption
theorem p_up (y : Nn) (k : Nat) : y.up.p k = (y.ptr6 k : Nat) := by
  match k with
  | 0 => rfl
  | 1 => rfl
  | 2 => rfl
  | 3 => rfl
  | 4 => rfl
  | _ + 5 => rfl
theorem ptr6_lt {y : Nn} (h : y.Fits) (k : Nat) : y.ptr6 k < 65536 := by
  have := h.d0; have := h.d1; have := h.d2; have := h.d3; have := h.o; have := h.t
  unfold Nn.ptr6
  split <;> assumption
theorem img_splice (y : Nn) : splice z32.toList 0 ((y.parp 6).map F.bv) = y.img.map F.bv := by
  have hl : ((y.parp 6).map F.bv).length = 26 := by simp [y.parp_len]
  unfold splice Nn.img
  rw [hl, List.map_append]
  rfl
set_option maxHeartbeats 2000000 in
theorem imageOf_any (y : Nn) (w : World) (hf : y.Fits) : Calls Try.prog 15 #[.agg (nc y.up).toArray] w fun e w' => e = .returned (.tuple #[.agg (y.img.map F.bv).toArray, .int .i64 0]) ∧ Below w.heap.size w w' := by
  have HF := Lib.hid hf
  clear hf
  go_enter Try.func15, Try.ntmps15
  go_upto_region 1 with fail
  obtain ⟨a0, a1, ab, az⟩ := box2 w (Obj.cells (nc y.up).toArray 25) (Obj.cells z32 44)
  generalize (w.alloc (Obj.cells (nc y.up).toArray 25)).alloc (Obj.cells z32 44) = W at *
  have A0 := Lib.hid a0
  have A1 := Lib.hid a1
  have AB := Lib.hid ab
  have AZ := Lib.hid az
  have c0 : W.cell? ⟨w.heap.size, 0, none⟩ = some (.int .i64 (y.k : Nat)) := (nd_cells a0).1
  have c1 : W.cell? ⟨w.heap.size, 1, none⟩ = some (.int .i64 (y.l : Nat)) := (nd_cells a0).2.1
  clear a0 a1 ab az
  go_upto_region 2 with fail
  have eh : [UInt8.ofNat y.k, UInt8.ofNat y.l] = y.head := rfl
  rw [two_row _ _ _ _ (low_byte y.k) (low_byte y.l), eh]
  clear eh
  have HM0 := Lib.hid (new_mine W y.head (by simp [Nn.head]))
  have B0 : Hid ((W.alloc (.cells (y.head.map F.bv).toArray 5)).heap[w.heap.size]? = some (.cells (nc y.up).toArray 25 (0, 0))) := ((box_below W _).block _ (by rw [AZ.out]; omega)).trans A0.out
  clear c0 c1
  generalize W.alloc (.cells (y.head.map F.bv).toArray 5) = W1 at *
  have c2 : W1.cell? ⟨w.heap.size, 2, none⟩ = some (.int .i64 (y.g : Nat)) := (nd_cells B0.out).2.2.1
  have c3 : W1.cell? ⟨w.heap.size, 3, none⟩ = some (.int .i64 (y.s : Nat)) := (nd_cells B0.out).2.2.2.1
  have c4 : W1.cell? ⟨w.heap.size, 4, none⟩ = some (.int .i64 (y.c : Nat)) := (nd_cells B0.out).2.2.2.2
  go_wp2_with fail
  clear c2 c3 c4 B0
  go_loopw [4, 25] (fun x i wr => ∃ k : Nat, ∃ A n cap, k ≤ 3 ∧ i = .int .i64 k ∧ x = .slice A n cap ∧ Hid (n = 2 + 4 * k) ∧ Hid (F.Mine W wr (.slice A n cap) (y.part k))) (fun _ i _ => 3 - (intOf i).toNat)
  case atStart => exact ⟨0, _, _, _, Nat.zero_le _, rfl, rfl, rfl, HM0⟩
  case round =>
    clear HM0
    obtain ⟨k, A, n, cap, hk, rfl, rfl, hn, HM⟩ := hrel
    have hn14 : n ≤ 14 := by have := hn.out; omega
    by_cases hlt : k < 3
    · have hi := idxn y hlt
      have HN : Hid (y.nums3 k < 4294967296) := nums3_lt HF.out k
      have HP : Hid (y.part (k + 1) = y.part k ++ F.lit 4 (y.nums3 k)) := rfl
      generalize y.nums3 k = x at *
      obtain ⟨A', n', c', e', hB⟩ := HM.out.holds
      cases e'
      have HC := Lib.hid hB
      clear hB
      go_wp2_with fail
      clear hi
      refine (F.num_yes A n cap _ x _ wr HN.out HC.out (Nat.le_refl _) (by omega)).mono ?_
      rintro e w3 ⟨v, rfl, hm⟩
      rw [← HP.out] at hm
      have HM2 := Lib.hid (hm.from_ HM.out.bel)
      clear hm
      obtain ⟨A2, n2, c2, rfl, hB'⟩ := HM2.out.holds
      have hn' : Hid (n2 = 2 + 4 * (k + 1)) := by show _ = _; rw [← hB'.len, y.part_len]
      clear hB'
      go_wp2_with fail
      go_roundw
      case rel => exact ⟨k + 1, A2, n2, c2, by omega, by go_num, rfl, hn', HM2⟩
      case measure => simp [intOf]; omega
    · obtain rfl : k = 3 := by omega
      have BW : Hid (wr.heap[w.heap.size]? = some (.cells (nc y.up).toArray 25 (0, 0))) := (HM.out.bel.block _ (by rw [AZ.out]; omega)).trans A0.out
      go_wp2_with (first | (refine wpList_load_row rfl 25 _ rfl w.heap.size rfl _ _ _ BW.out _ Try.underlying25 rfl s25 ?_) | fail)
      refine (pointersOf_any y.up _).mono ?_
      rintro e w2 ⟨rfl, hb2⟩
      have HM2 : Hid (F.Mine W w2 (.slice A n cap) (y.parp 0)) := ⟨own_below HM.out.own hb2, HM.out.bel.trans (hb2.mono HM.out.bel.size)⟩
      clear hb2 HM BW
      go_wp2_with fail
      have hn0 : n = 14 := hn.out
      subst hn0
      clear hn hn14 hk hlt
      go_loopw [4, 41] (fun x i wr => ∃ k : Nat, ∃ A n cap, k ≤ 6 ∧ i = .int .i64 k ∧ x = .slice A n cap ∧ Hid (n = 14 + 2 * k) ∧ Hid (F.Mine W wr (.slice A n cap) (y.parp k))) (fun _ i _ => 6 - (intOf i).toNat)
      case atStart => exact ⟨0, _, _, _, Nat.zero_le _, rfl, rfl, rfl, HM2⟩
      case round =>
        clear HM2
        obtain ⟨k, A, n, cap, hk, rfl, rfl, hn, HM⟩ := hrel
        have hn26 : n ≤ 26 := by have := hn.out; omega
        by_cases hlt : k < 6
        · have hi := idxp y.up hlt
          rw [p_up] at hi
          have HN : Hid (y.ptr6 k < 65536) := ptr6_lt HF.out k
          have HP : Hid (y.parp (k + 1) = y.parp k ++ F.lit 2 (y.ptr6 k)) := rfl
          generalize y.ptr6 k = x at *
          have hx : x < 65536 := HN.out
          obtain ⟨v4, w4, hr4, ho4, hg4⟩ := F.app_run 22 (own_below HM.out.own (box_below wr (.cells ([UInt8.ofNat x, UInt8.ofNat (x / 256)].map F.bv).toArray 5))) (bts_new wr [UInt8.ofNat x, UInt8.ofNat (x / 256)] (by simp)) (by rw [y.parp_len]; simp; omega) (by have := HM.out.bel.size; simp; omega)
          have HM4 : Hid (F.Mine W w4 v4 (y.parp (k + 1))) := by
            show F.Mine _ _ _ _
            rw [HP.out]
            exact ⟨ho4, (HM.out.bel.alloc HM.out.bel.size _).grown hg4 (by have := HM.out.bel.size; simp; omega) (fun j hj => (HM.out.own.lt j hj).1)⟩
          rw [← two_row _ _ _ _ (low_byte x) (high_byte hx)] at hr4
          have HR4 := Lib.hid hr4
          clear hr4 ho4 hg4
          obtain ⟨A2, n2, c2, rfl, hB'⟩ := HM4.out.holds
          have hn' : Hid (n2 = 14 + 2 * (k + 1)) := by show _ = _; rw [← hB'.len, y.parp_len]
          clear hB'
          go_wp2_with (at_builtin; refine Lib.wpList_append_run _ rfl _ _ _ _ rfl _ _ rfl rfl _ _ HR4.out ?_)
          go_roundw
          case rel => exact ⟨k + 1, A2, n2, c2, by omega, by go_num, rfl, hn', HM4⟩
          case measure => simp [intOf]; omega
        · obtain rfl : k = 6 := by omega
          have hn0 : n = 26 := hn.out
          subst hn0
          go_upto_region 16 with fail
          obtain ⟨e0, eb, ez⟩ := box1 wr (Obj.cells z32 44)
          obtain ⟨A', n', c', e', hB⟩ := HM.out.holds
          cases e'
          obtain ⟨bb, off, rfl, hbb, hcell⟩ := hB.at_ (by omega)
          have hw := HM.out.bel.size
          have E1 : Hid ((wr.alloc (Obj.cells z32 44)).heap[w.heap.size + 1]? = some (.cells z32 44 (0, 0))) := (eb.block _ (by rw [AZ.out] at hw; omega)).trans ((HM.out.bel.block _ (by rw [AZ.out]; omega)).trans A1.out)
          have EB : Hid (Below w.heap.size w (wr.alloc (Obj.cells z32 44))) := (AB.out.trans (HM.out.bel.mono (by rw [AZ.out]; omega))).trans (eb.mono (by rw [AZ.out] at hw; omega))
          have hsrc : ∀ j v, ((y.parp 6).map F.bv)[j]? = some v → (wr.alloc (Obj.cells z32 44)).cell? ((⟨bb, off, none⟩ : Addr).add j) = some v := by
            intro j v hv
            have hj : j < 26 := by
              have := (List.getElem?_eq_some_iff.1 hv).1
              simpa [y.parp_len] using this
            rw [Addr.add_mid, eb.cell hbb, hcell j hj, ← hv]
            have := y.parp_len 6
            simp [this, hj, F.bv]
          generalize wr.alloc (Obj.cells z32 44) = W4 at *
          obtain ⟨W5, hr, hg5, hgr, hz5⟩ := copy_run (w := W4) (ty := 3) (dLen := 32) (dCap := 32) (sLen := 26) (sCap := cap) Try.underlying22 s5 (L := z32.toList) (off := 0) e0 (cs := (y.parp 6).map F.bv) (by simp [y.parp_len]) hsrc (by simp [y.parp_len]) (bv_one _)
          rw [img_splice] at hg5
          have G5 := Lib.hid hg5
          have hws : w.heap.size + 1 < wr.heap.size := by rw [AZ.out] at hw; omega
          have E5 : Hid (W5.heap[w.heap.size + 1]? = some (.cells z32 44 (0, 0))) := (hgr.block _ (by rw [ez]; omega) (by simp; omega)).trans E1.out
          have B5 : Hid (Below w.heap.size w W5) := EB.out.grown hgr (by rw [ez]; omega) (fun k hk => by cases hk; omega)
          have HS : Hid ((Try.prog.info? 44).map (·.size) = some (y.img.map F.bv).toArray.size) := by show _ = _; rw [List.size_toArray, List.length_map, y.img_len]; exact s44
          have HS2 : Hid (z32.size = (y.img.map F.bv).toArray.size) := by
            have h := y.img_len
            show 32 = _
            simp [h]
          clear hsrc hg5 hgr hz5 E1 EB e0 eb ez hcell hB HM
          go_wp2_with (first | (refine wpList_load_row rfl 44 _ rfl wr.heap.size rfl _ _ _ G5.out _ Try.underlying44 rfl HS.out ?_) | (refine wpList_store_row rfl 44 _ _ rfl (w.heap.size + 1) z32 (y.img.map F.bv).toArray 44 rfl rfl E5.out HS.out HS2.out (all_oneCell_toArray (bv_one _)) ?_) | fail)
          refine bodyPost_ret (ret_row2 rfl rfl (setRow_in _ _ _ _ _ E5.out) Try.underlying44 rfl HS.out) rfl ?_
          exact ⟨rfl, below_setRow B5.out (by omega) _⟩
end Go.Proofs.Ytijphembfohfnaa
