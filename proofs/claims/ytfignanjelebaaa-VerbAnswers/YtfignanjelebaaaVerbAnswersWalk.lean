/- VerbAnswers, walked over the bundle of contracts. -/
import Derived.Test.YtfignanjelebaaaVCtr
import Derived.Test.YtfignanjelebaaaVSame
namespace Go.Proofs.Ytfignanjelebaaa.verbAnswers
open Go.RowKit
set_option linter.unusedVariables false
set_option maxRecDepth 100000 in
set_option maxHeartbeats 4000000 in
theorem walk (H : Verbs) (w : World) (r : Rp) (A X : Option Addr) (n c m d : Nat) (hd : Bts w w.heap.size A n c r.d) (hs : Strs w w.heap.size X m d r.ns) (A' : Option Addr) (n' c' : Nat) (l : List UInt8) (h : Bts w w.heap.size A' n' c' l) (R : c' ≤ 140737488351232) :
    Calls Try.prog 5 #[.agg (rc r A n c X m d).toArray, .slice A' n' c'] w fun e w' => e = .returned (.bool true) ∧ Below w.heap.size w w' := by
  have HD := Lib.hid hd
  have HS := Lib.hid hs
  have HL := Lib.hid h
  clear hd hs
  have hn : n' ≤ 281474976700000 := by have := h.cap; omega
  clear h R
  obtain ⟨a0, ab, az⟩ := box1 w (Obj.cells (rc r A n c X m d).toArray 44)
  have A0 := Lib.hid a0
  have AB := Lib.hid ab
  have hz : w.heap.size < (w.alloc (Obj.cells (rc r A n c X m d).toArray 44)).heap.size := by omega
  clear a0 ab az
  go_enter Try.func5, Try.ntmps5
  go_wp2_with (first | (refine wpList_load_row rfl 44 _ rfl w.heap.size rfl _ _ _ A0.out _ Try.underlying44 rfl s44 ?_) | fail)
  generalize w.alloc (Obj.cells (rc r A n c X m d).toArray 44) = W at *
  refine (H.ans r A X n c m d _ W (HD.out.below AB.out) (HS.out.below AB.out) AB.out.size).mono ?_
  rintro e w1 ⟨hb1, X1⟩
  have HB1 := Lib.hid (AB.out.trans (hb1.mono AB.out.size))
  have A1 := Lib.hid ((hb1.block _ hz).trans A0.out)
  have hz1 : w.heap.size < w1.heap.size := Nat.lt_of_lt_of_le hz hb1.size
  clear hb1 A0 hz AB
  obtain ⟨hg, B1, k1, j1, hB1, rfl⟩ | ⟨hg, B1, k1, j1, hB1, rfl⟩ := X1
  · skip
    have HG := Lib.hid hg
    have D1 := Lib.hid hB1
    have hk1 := hB1.len
    clear hg hB1
    go_wp2_with (first | (refine wpList_load_row rfl 44 _ rfl w.heap.size rfl _ _ _ A1.out _ Try.underlying44 rfl s44 ?_) | fail)
    refine (refAnswer_any r A X n c m d _ _ (HD.out.below HB1.out) (HS.out.below HB1.out) HB1.out.size).mono ?_
    rintro e w2 ⟨X2, hb2⟩
    have HB2 := Lib.hid (HB1.out.trans (hb2.mono HB1.out.size))
    have A2 := Lib.hid ((hb2.block _ hz1).trans A1.out)
    have D2 := Lib.hid ((D1.out.below hb2).more hb2.size)
    have hz2 : w.heap.size < w2.heap.size := Nat.lt_of_lt_of_le hz1 hb2.size
    clear hb2 A1 D1 hz1 HB1
    obtain ⟨_, rfl⟩ | ⟨hn2, _⟩ := X2
    case inr => exact absurd HG.out hn2
    have hcv := D2.out.str w2 (fun _ _ => rfl)
    go_wp2_with fail
    have hl1 : k1 ≤ 281474976700000 := by rw [← hk1]; exact Nat.le_trans HG.out.flen (by omega)
    refine (H.ansd B1 k1 j1 _ r.frame _ D2.out (Nat.le_refl _) hl1).mono ?_
    clear hcv
    rintro e w3 ⟨hb3, X3⟩
    obtain ⟨x, hx, hf, A3, n3, c3, X3, m3, d3, hB3, hS3, rfl⟩ | ⟨hn3, _⟩ := X3
    case inr => exact absurd rfl (hn3 r HG.out)
    obtain rfl : r = x := Rp.frame_inj HG.out hx hf
    have HB3 := Lib.hid (HB2.out.trans (hb3.mono HB2.out.size))
    have A3b := Lib.hid ((hb3.block _ hz2).trans A2.out)
    have hz3 : w.heap.size < w3.heap.size := Nat.lt_of_lt_of_le hz2 hb3.size
    obtain ⟨b0, bb, bz⟩ := box1 w3 (Obj.cells (rc r A3 n3 c3 X3 m3 d3).toArray 44)
    have HB4 := Lib.hid (HB3.out.trans (bb.mono HB3.out.size))
    have B4 := Lib.hid b0
    have A4 := Lib.hid ((bb.block _ hz3).trans A3b.out)
    have D4 := Lib.hid ((hB3.below bb).more (B' := (w3.alloc (Obj.cells (rc r A3 n3 c3 X3 m3 d3).toArray 44)).heap.size) (by omega))
    have S4 := Lib.hid ((hS3.below bb).more (B' := (w3.alloc (Obj.cells (rc r A3 n3 c3 X3 m3 d3).toArray 44)).heap.size) (by omega))
    have hm3 : m3 ≤ 1099511627776 := by have := hS3.len; have h2 := HG.out.1; simp only [Rp.low] at h2; omega
    clear b0 bb bz hb3 hx hf A2 hz2 A3b hz3 D2 HB2 hl1 hB3 hS3
    go_wp2_with (first | (refine wpList_store_new rfl 44 _ _ rfl w3 _ (rc r A3 n3 c3 X3 m3 d3).toArray rfl rfl s44 rfl (all_oneCell_toArray (rc_one _ _ _ _ _ _ _)) ?_) | (refine wpList_load_row rfl 44 _ rfl w3.heap.size rfl _ _ _ B4.out _ Try.underlying44 rfl s44 ?_) | (refine wpList_load_row rfl 44 _ rfl w.heap.size rfl _ _ _ A4.out _ Try.underlying44 rfl s44 ?_) | fail)
    refine (refAlike_eq r A3 A X3 X n3 c3 n c m3 d3 m d _ _ D4.out ((HD.out.below HB4.out).more HB4.out.size) S4.out ((HS.out.below HB4.out).more HB4.out.size) hm3 (Nat.le_refl _)).mono ?_
    rintro e w4 ⟨rfl, hb4⟩
    have HB4' := Lib.hid (HB4.out.trans (hb4.mono HB4.out.size))
    clear hb4 B4 A4 D4 S4 HB4 HB3 hm3
    go_wp2_with fail
    refine (H.ansd A' n' c' _ l _ (HL.out.below HB4'.out) HB4'.out.size hn).mono ?_
    rintro e w5 ⟨hb5, X5⟩
    have HB5 := Lib.hid (HB4'.out.trans (hb5.mono HB4'.out.size))
    clear hb5
    obtain ⟨x, hx, hf, A5, n5, c5, X5, m5, d5, hB5, hS5, rfl⟩ | ⟨_, rfl⟩ := X5
    · subst hf
      have HX := Lib.hid hx
      clear hx
      have D5 := Lib.hid hB5
      have S5 := Lib.hid hS5
      clear hB5 hS5
      obtain ⟨b0, bb, bz⟩ := box1 w5 (Obj.cells (rc x A5 n5 c5 X5 m5 d5).toArray 44)
      have HB6 := Lib.hid (HB5.out.trans (bb.mono HB5.out.size))
      have B6 := Lib.hid b0
      have D6 := Lib.hid ((D5.out.below bb).more (B' := (w5.alloc (Obj.cells (rc x A5 n5 c5 X5 m5 d5).toArray 44)).heap.size) (by omega))
      have S6 := Lib.hid ((S5.out.below bb).more (B' := (w5.alloc (Obj.cells (rc x A5 n5 c5 X5 m5 d5).toArray 44)).heap.size) (by omega))
      clear b0 bb bz
      go_wp2_with (first | (refine wpList_store_new rfl 44 _ _ rfl w5 _ (rc x A5 n5 c5 X5 m5 d5).toArray rfl rfl s44 rfl (all_oneCell_toArray (rc_one _ _ _ _ _ _ _)) ?_) | (refine wpList_load_row rfl 44 _ rfl w5.heap.size rfl _ _ _ B6.out _ Try.underlying44 rfl s44 ?_) | fail)
      refine (refAnswer_any x A5 X5 n5 c5 m5 d5 _ _ D6.out S6.out (Nat.le_refl _)).mono ?_
      rintro e w7 ⟨X7, hb7⟩
      have HB7 := Lib.hid (HB6.out.trans (hb7.mono HB6.out.size))
      clear hb7
      obtain ⟨_, rfl⟩ | ⟨hn7, _⟩ := X7
      case inr => exact absurd HX.out hn7
      go_wp2_with fail
      refine (awake_any H _).mono ?_
      rintro e w8 ⟨rfl, hb8⟩
      have HB8 := Lib.hid (HB7.out.trans (hb8.mono HB7.out.size))
      clear hb8
      have hcv := (HL.out.below HB8.out).str w8 (fun _ _ => rfl)
      go_wp2_with fail
      go_ret
      exact ⟨rfl, HB8.out⟩
    · skip
      obtain ⟨b0, bb, bz⟩ := box1 w5 (Obj.cells (rc zeroR none 0 0 none 0 0).toArray 44)
      have HB6 := Lib.hid (HB5.out.trans (bb.mono HB5.out.size))
      have B6 := Lib.hid b0
      clear b0 bb bz
      go_wp2_with (first | (refine wpList_store_new rfl 44 _ _ rfl w5 _ (rc zeroR none 0 0 none 0 0).toArray rfl rfl s44 rfl (all_oneCell_toArray (rc_one _ _ _ _ _ _ _)) ?_) | fail)
      refine (awake_any H _).mono ?_
      rintro e w8 ⟨rfl, hb8⟩
      have HB8 := Lib.hid (HB6.out.trans (hb8.mono HB6.out.size))
      have B8 : Hid (w8.heap[w5.heap.size]? = some (.cells (rc zeroR none 0 0 none 0 0).toArray 44 (0, 0))) := (hb8.block _ (by simp)).trans B6.out
      clear hb8
      go_wp2_with (first | (refine wpList_load_row rfl 44 _ rfl w5.heap.size rfl _ _ _ B8.out _ Try.underlying44 rfl s44 ?_) | fail)
      refine (refAlike_eq zeroR none none none none 0 0 0 0 0 0 0 0 0 w8 (Bts.nil_ _ _) (Bts.nil_ _ _) (Strs.nil_ _ _) (Strs.nil_ _ _) (by omega) (Nat.zero_le _)).mono ?_
      rintro e w9 ⟨rfl, hb9⟩
      have HB9 := Lib.hid (HB8.out.trans (hb9.mono HB8.out.size))
      clear hb9
      go_wp2_with fail
      go_ret
      exact ⟨rfl, HB9.out⟩
  · skip
    have HG := Lib.hid hg
    have D1 := Lib.hid hB1
    have hk1 := hB1.len
    clear hg hB1
    go_wp2_with (first | (refine wpList_load_row rfl 44 _ rfl w.heap.size rfl _ _ _ A1.out _ Try.underlying44 rfl s44 ?_) | fail)
    refine (refAnswer_any r A X n c m d _ _ (HD.out.below HB1.out) (HS.out.below HB1.out) HB1.out.size).mono ?_
    rintro e w2 ⟨X2, hb2⟩
    have HB2 := Lib.hid (HB1.out.trans (hb2.mono HB1.out.size))
    have A2 := Lib.hid ((hb2.block _ hz1).trans A1.out)
    have D2 := Lib.hid ((D1.out.below hb2).more hb2.size)
    have hz2 : w.heap.size < w2.heap.size := Nat.lt_of_lt_of_le hz1 hb2.size
    clear hb2 A1 D1 hz1 HB1
    obtain ⟨hn2, _⟩ | ⟨_, rfl⟩ := X2
    case inl => exact absurd hn2 HG.out
    have hcv := D2.out.str w2 (fun _ _ => rfl)
    go_wp2_with fail
    clear hcv
    refine (H.ansd A' n' c' _ l _ (HL.out.below HB2.out) HB2.out.size hn).mono ?_
    rintro e w5 ⟨hb5, X5⟩
    have HB5 := Lib.hid (HB2.out.trans (hb5.mono HB2.out.size))
    clear hb5
    obtain ⟨x, hx, hf, A5, n5, c5, X5, m5, d5, hB5, hS5, rfl⟩ | ⟨_, rfl⟩ := X5
    · subst hf
      have HX := Lib.hid hx
      clear hx
      have D5 := Lib.hid hB5
      have S5 := Lib.hid hS5
      clear hB5 hS5
      obtain ⟨b0, bb, bz⟩ := box1 w5 (Obj.cells (rc x A5 n5 c5 X5 m5 d5).toArray 44)
      have HB6 := Lib.hid (HB5.out.trans (bb.mono HB5.out.size))
      have B6 := Lib.hid b0
      have D6 := Lib.hid ((D5.out.below bb).more (B' := (w5.alloc (Obj.cells (rc x A5 n5 c5 X5 m5 d5).toArray 44)).heap.size) (by omega))
      have S6 := Lib.hid ((S5.out.below bb).more (B' := (w5.alloc (Obj.cells (rc x A5 n5 c5 X5 m5 d5).toArray 44)).heap.size) (by omega))
      clear b0 bb bz
      go_wp2_with (first | (refine wpList_store_new rfl 44 _ _ rfl w5 _ (rc x A5 n5 c5 X5 m5 d5).toArray rfl rfl s44 rfl (all_oneCell_toArray (rc_one _ _ _ _ _ _ _)) ?_) | (refine wpList_load_row rfl 44 _ rfl w5.heap.size rfl _ _ _ B6.out _ Try.underlying44 rfl s44 ?_) | fail)
      refine (refAnswer_any x A5 X5 n5 c5 m5 d5 _ _ D6.out S6.out (Nat.le_refl _)).mono ?_
      rintro e w7 ⟨X7, hb7⟩
      have HB7 := Lib.hid (HB6.out.trans (hb7.mono HB6.out.size))
      clear hb7
      obtain ⟨_, rfl⟩ | ⟨hn7, _⟩ := X7
      case inr => exact absurd HX.out hn7
      go_wp2_with fail
      refine (awake_any H _).mono ?_
      rintro e w8 ⟨rfl, hb8⟩
      have HB8 := Lib.hid (HB7.out.trans (hb8.mono HB7.out.size))
      clear hb8
      have hcv := (HL.out.below HB8.out).str w8 (fun _ _ => rfl)
      go_wp2_with fail
      go_ret
      exact ⟨rfl, HB8.out⟩
    · skip
      obtain ⟨b0, bb, bz⟩ := box1 w5 (Obj.cells (rc zeroR none 0 0 none 0 0).toArray 44)
      have HB6 := Lib.hid (HB5.out.trans (bb.mono HB5.out.size))
      have B6 := Lib.hid b0
      clear b0 bb bz
      go_wp2_with (first | (refine wpList_store_new rfl 44 _ _ rfl w5 _ (rc zeroR none 0 0 none 0 0).toArray rfl rfl s44 rfl (all_oneCell_toArray (rc_one _ _ _ _ _ _ _)) ?_) | fail)
      refine (awake_any H _).mono ?_
      rintro e w8 ⟨rfl, hb8⟩
      have HB8 := Lib.hid (HB6.out.trans (hb8.mono HB6.out.size))
      have B8 : Hid (w8.heap[w5.heap.size]? = some (.cells (rc zeroR none 0 0 none 0 0).toArray 44 (0, 0))) := (hb8.block _ (by simp)).trans B6.out
      clear hb8
      go_wp2_with (first | (refine wpList_load_row rfl 44 _ rfl w5.heap.size rfl _ _ _ B8.out _ Try.underlying44 rfl s44 ?_) | fail)
      refine (refAlike_eq zeroR none none none none 0 0 0 0 0 0 0 0 0 w8 (Bts.nil_ _ _) (Bts.nil_ _ _) (Strs.nil_ _ _) (Strs.nil_ _ _) (by omega) (Nat.zero_le _)).mono ?_
      rintro e w9 ⟨rfl, hb9⟩
      have HB9 := Lib.hid (HB8.out.trans (hb9.mono HB8.out.size))
      clear hb9
      go_wp2_with fail
      go_ret
      exact ⟨rfl, HB9.out⟩
end Go.Proofs.Ytfignanjelebaaa.verbAnswers
