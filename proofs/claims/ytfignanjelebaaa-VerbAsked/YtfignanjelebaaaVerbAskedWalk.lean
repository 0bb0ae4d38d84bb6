/- VerbAsked, walked over the bundle of contracts. -/
import Derived.Test.YtfignanjelebaaaVCtr
import Derived.Test.YtfignanjelebaaaVSame
namespace Go.Proofs.Ytfignanjelebaaa.verbAsked
open Go.RowKit
set_option linter.unusedVariables false
set_option maxRecDepth 100000 in
set_option maxHeartbeats 4000000 in
theorem walk (H : Verbs) (w : World) (v : Vb) (A : Option Addr) (n c : Nat) (hd : Bts w w.heap.size A n c v.d) (A' : Option Addr) (n' c' : Nat) (l : List UInt8) (h : Bts w w.heap.size A' n' c' l) (R : c' ≤ 140737488351232) :
    Calls Try.prog 4 #[.agg (vc v A n c).toArray, .slice A' n' c'] w fun e w' => e = .returned (.bool true) ∧ Below w.heap.size w w' := by
  have HD := Lib.hid hd
  have HL := Lib.hid h
  have hn : n' ≤ 281474976700000 := by have := h.cap; omega
  clear hd h R
  obtain ⟨a0, ab, az⟩ := box1 w (Obj.cells (vc v A n c).toArray 26)
  have A0 := Lib.hid a0
  have AB := Lib.hid ab
  have hz : w.heap.size < (w.alloc (Obj.cells (vc v A n c).toArray 26)).heap.size := by omega
  clear a0 ab az
  go_enter Try.func4, Try.ntmps4
  go_wp2_with (first | (refine wpList_load_row rfl 26 _ rfl w.heap.size rfl _ _ _ A0.out _ Try.underlying26 rfl s26 ?_) | fail)
  generalize w.alloc (Obj.cells (vc v A n c).toArray 26) = W at *
  refine (refEncode_any v A n c _ W (HD.out.below AB.out) AB.out.size).mono ?_
  rintro e w1 ⟨X, hb1⟩
  have HB1 := Lib.hid (AB.out.trans (hb1.mono AB.out.size))
  have A1 := Lib.hid ((hb1.block _ hz).trans A0.out)
  have hz1 : w.heap.size < w1.heap.size := Nat.lt_of_lt_of_le hz hb1.size
  clear hb1 A0 hz AB
  obtain ⟨hg, rfl⟩ | ⟨_, rfl⟩ := X
  · have HG := Lib.hid hg
    clear hg
    have hcv := run_bytes_of_string (P := Try.prog) w1 9 24 5 ⟨v.frame.toArray⟩ Try.underlying9 Try.underlying24 Try.underlying5
    have hfl : (ByteArray.mk v.frame.toArray).size ≤ 819 := HG.out.flen
    have hF := bytes_bts w1 ⟨v.frame.toArray⟩ (by omega)
    generalize hW : (w1.drew.alloc (.cells (bytesRow ⟨v.frame.toArray⟩ (grownCap w1 (ByteArray.mk v.frame.toArray).size 0 5)) 5 ((bytesRow ⟨v.frame.toArray⟩ (grownCap w1 (ByteArray.mk v.frame.toArray).size 0 5)).size, (bytesRow ⟨v.frame.toArray⟩ (grownCap w1 (ByteArray.mk v.frame.toArray).size 0 5)).size + 1))) = w2 at *
    have hb2 : Below w1.heap.size w1 w2 := by rw [← hW]; exact ((Below.refl _ w1).drew).alloc (Nat.le_refl _) _
    have hz2 : w2.heap.size = w1.heap.size + 1 := by rw [← hW]; simp
    generalize grownCap w1 (ByteArray.mk v.frame.toArray).size 0 5 = cc at *
    have HF : Hid (Bts w2 w2.heap.size (some ⟨w1.heap.size, 0, none⟩) (ByteArray.mk v.frame.toArray).size cc v.frame) := by rw [hz2]; exact hF
    have HB2 := Lib.hid (HB1.out.trans (hb2.mono HB1.out.size))
    have A2 := Lib.hid ((hb2.block _ hz1).trans A1.out)
    have hz2 : w.heap.size < w2.heap.size := Nat.lt_of_lt_of_le hz1 hb2.size
    clear hW hF hb2 A1 hz1 HB1
    go_wp2_with fail
    refine (H.dec _ _ _ _ v.frame _ HF.out (Nat.le_refl _) (by omega)).mono ?_
    clear hcv
    rintro e w3 ⟨hb3, ⟨x, hx, hf, A3, n3, c3, hB3, rfl⟩ | ⟨hn3, _⟩⟩
    case inr => exact absurd rfl (hn3 v HG.out)
    obtain rfl : v = x := Vb.frame_inj HG.out hx hf
    have HB3 := Lib.hid (HB2.out.trans (hb3.mono HB2.out.size))
    have A3' := Lib.hid ((hb3.block _ hz2).trans A2.out)
    have hz3 : w.heap.size < w3.heap.size := Nat.lt_of_lt_of_le hz2 hb3.size
    obtain ⟨b0, bb, bz⟩ := box1 w3 (Obj.cells (vc v A3 n3 c3).toArray 26)
    have HB4 := Lib.hid (HB3.out.trans (bb.mono HB3.out.size))
    have B4 := Lib.hid b0
    have A4 := Lib.hid ((bb.block _ hz3).trans A3'.out)
    have D4 := Lib.hid ((hB3.below bb).more (B' := (w3.alloc (Obj.cells (vc v A3 n3 c3).toArray 26)).heap.size) (by omega))
    clear b0 bb bz hb3 hx hf hB3 A2 hz2 A3' hz3 HF hfl HB2
    go_wp2_with (first | (refine wpList_store_new rfl 26 _ _ rfl w3 _ (vc v A3 n3 c3).toArray rfl rfl s26 rfl (all_oneCell_toArray (vc_one _ _ _ _)) ?_) | (refine wpList_load_row rfl 26 _ rfl w3.heap.size rfl _ _ _ B4.out _ Try.underlying26 rfl s26 ?_) | (refine wpList_load_row rfl 26 _ rfl w.heap.size rfl _ _ _ A4.out _ Try.underlying26 rfl s26 ?_) | fail)
    refine (refSame_eq v A3 A n3 c3 n c _ _ D4.out ((HD.out.below HB4.out).more HB4.out.size) (Nat.le_refl _)).mono ?_
    rintro e w4 ⟨rfl, hb4⟩
    have HB4' := Lib.hid (HB4.out.trans (hb4.mono HB4.out.size))
    clear hb4 B4 A4 D4 HB4 HB3
    go_wp2_with fail
    refine (H.dec A' n' c' _ l _ (HL.out.below HB4'.out) HB4'.out.size hn).mono ?_
    rintro e w5 ⟨hb5, X5⟩
    have HB5 := Lib.hid (HB4'.out.trans (hb5.mono HB4'.out.size))
    clear hb5
    obtain ⟨x, hx, hf, A5, n5, c5, hB5, rfl⟩ | ⟨_, rfl⟩ := X5
    · subst hf
      have HX := Lib.hid hx
      have D5 := Lib.hid hB5
      clear hx hB5
      obtain ⟨b0, bb, bz⟩ := box1 w5 (Obj.cells (vc x A5 n5 c5).toArray 26)
      have HB6 := Lib.hid (HB5.out.trans (bb.mono HB5.out.size))
      have B6 := Lib.hid b0
      have D6 := Lib.hid ((D5.out.below bb).more (B' := (w5.alloc (Obj.cells (vc x A5 n5 c5).toArray 26)).heap.size) (by omega))
      clear b0 bb bz
      go_wp2_with (first | (refine wpList_store_new rfl 26 _ _ rfl w5 _ (vc x A5 n5 c5).toArray rfl rfl s26 rfl (all_oneCell_toArray (vc_one _ _ _ _)) ?_) | (refine wpList_load_row rfl 26 _ rfl w5.heap.size rfl _ _ _ B6.out _ Try.underlying26 rfl s26 ?_) | fail)
      refine (refEncode_any x A5 n5 c5 _ _ D6.out (Nat.le_refl _)).mono ?_
      rintro e w7 ⟨X7, hb7⟩
      have HB7 := Lib.hid (HB6.out.trans (hb7.mono HB6.out.size))
      clear hb7
      obtain ⟨_, rfl⟩ | ⟨hn7, _⟩ := X7
      case inr => exact absurd HX.out hn7
      go_wp2_with fail
      refine (awake_any H _).mono ?_
      rintro e w8 ⟨rfl, hb8⟩
      have HB8 := Lib.hid (HB7.out.trans (hb8.mono HB7.out.size))
      clear hb8
      have hcv := (HL.out.below HB8.out).str w8 (fun _ _ => rfl)
      go_wp2_with fail
      go_ret
      exact ⟨rfl, HB8.out⟩
    · skip
      obtain ⟨b0, bb, bz⟩ := box1 w5 (Obj.cells (vc zeroV none 0 0).toArray 26)
      have HB6 := Lib.hid (HB5.out.trans (bb.mono HB5.out.size))
      have B6 := Lib.hid b0
      clear b0 bb bz
      go_wp2_with (first | (refine wpList_store_new rfl 26 _ _ rfl w5 _ (vc zeroV none 0 0).toArray rfl rfl s26 rfl (all_oneCell_toArray (vc_one _ _ _ _)) ?_) | fail)
      refine (awake_any H _).mono ?_
      rintro e w8 ⟨rfl, hb8⟩
      have HB8 := Lib.hid (HB6.out.trans (hb8.mono HB6.out.size))
      have B8 : Hid (w8.heap[w5.heap.size]? = some (.cells (vc zeroV none 0 0).toArray 26 (0, 0))) := (hb8.block _ (by simp)).trans B6.out
      clear hb8
      go_wp2_with (first | (refine wpList_load_row rfl 26 _ rfl w5.heap.size rfl _ _ _ B8.out _ Try.underlying26 rfl s26 ?_) | fail)
      refine (refSame_eq zeroV none none 0 0 0 0 0 w8 (Bts.nil_ _ _) (Bts.nil_ _ _) (Nat.zero_le _)).mono ?_
      rintro e w9 ⟨rfl, hb9⟩
      have HB9 := Lib.hid (HB8.out.trans (hb9.mono HB8.out.size))
      clear hb9
      go_wp2_with fail
      go_ret
      exact ⟨rfl, HB9.out⟩
  · skip
    go_wp2_with fail
    refine (H.dec A' n' c' _ l _ (HL.out.below HB1.out) HB1.out.size hn).mono ?_
    rintro e w5 ⟨hb5, X5⟩
    have HB5 := Lib.hid (HB1.out.trans (hb5.mono HB1.out.size))
    clear hb5
    obtain ⟨x, hx, hf, A5, n5, c5, hB5, rfl⟩ | ⟨_, rfl⟩ := X5
    · subst hf
      have HX := Lib.hid hx
      have D5 := Lib.hid hB5
      clear hx hB5
      obtain ⟨b0, bb, bz⟩ := box1 w5 (Obj.cells (vc x A5 n5 c5).toArray 26)
      have HB6 := Lib.hid (HB5.out.trans (bb.mono HB5.out.size))
      have B6 := Lib.hid b0
      have D6 := Lib.hid ((D5.out.below bb).more (B' := (w5.alloc (Obj.cells (vc x A5 n5 c5).toArray 26)).heap.size) (by omega))
      clear b0 bb bz
      go_wp2_with (first | (refine wpList_store_new rfl 26 _ _ rfl w5 _ (vc x A5 n5 c5).toArray rfl rfl s26 rfl (all_oneCell_toArray (vc_one _ _ _ _)) ?_) | (refine wpList_load_row rfl 26 _ rfl w5.heap.size rfl _ _ _ B6.out _ Try.underlying26 rfl s26 ?_) | fail)
      refine (refEncode_any x A5 n5 c5 _ _ D6.out (Nat.le_refl _)).mono ?_
      rintro e w7 ⟨X7, hb7⟩
      have HB7 := Lib.hid (HB6.out.trans (hb7.mono HB6.out.size))
      clear hb7
      obtain ⟨_, rfl⟩ | ⟨hn7, _⟩ := X7
      case inr => exact absurd HX.out hn7
      go_wp2_with fail
      refine (awake_any H _).mono ?_
      rintro e w8 ⟨rfl, hb8⟩
      have HB8 := Lib.hid (HB7.out.trans (hb8.mono HB7.out.size))
      clear hb8
      have hcv := (HL.out.below HB8.out).str w8 (fun _ _ => rfl)
      go_wp2_with fail
      go_ret
      exact ⟨rfl, HB8.out⟩
    · skip
      obtain ⟨b0, bb, bz⟩ := box1 w5 (Obj.cells (vc zeroV none 0 0).toArray 26)
      have HB6 := Lib.hid (HB5.out.trans (bb.mono HB5.out.size))
      have B6 := Lib.hid b0
      clear b0 bb bz
      go_wp2_with (first | (refine wpList_store_new rfl 26 _ _ rfl w5 _ (vc zeroV none 0 0).toArray rfl rfl s26 rfl (all_oneCell_toArray (vc_one _ _ _ _)) ?_) | fail)
      refine (awake_any H _).mono ?_
      rintro e w8 ⟨rfl, hb8⟩
      have HB8 := Lib.hid (HB6.out.trans (hb8.mono HB6.out.size))
      have B8 : Hid (w8.heap[w5.heap.size]? = some (.cells (vc zeroV none 0 0).toArray 26 (0, 0))) := (hb8.block _ (by simp)).trans B6.out
      clear hb8
      go_wp2_with (first | (refine wpList_load_row rfl 26 _ rfl w5.heap.size rfl _ _ _ B8.out _ Try.underlying26 rfl s26 ?_) | fail)
      refine (refSame_eq zeroV none none 0 0 0 0 0 w8 (Bts.nil_ _ _) (Bts.nil_ _ _) (Nat.zero_le _)).mono ?_
      rintro e w9 ⟨rfl, hb9⟩
      have HB9 := Lib.hid (HB8.out.trans (hb9.mono HB8.out.size))
      clear hb9
      go_wp2_with fail
      go_ret
      exact ⟨rfl, HB9.out⟩
end Go.Proofs.Ytfignanjelebaaa.verbAsked
