/- VerbCalls, walked over the bundle of contracts. -/
import Derived.Test.YtfignanjelebaaaVCtr
import Derived.Test.YtfignanjelebaaaVSame
namespace Go.Proofs.Ytfignanjelebaaa.verbCalls
open Go.RowKit
set_option linter.unusedVariables false
set_option maxRecDepth 100000 in
set_option maxHeartbeats 4000000 in
theorem walk (H : Verbs) (w : World) (r : Rc) (A' : Option Addr) (n' c' : Nat) (l : List UInt8) (h : Bts w w.heap.size A' n' c' l) (R : c' ≤ 140737488351232) :
    Calls Try.prog 6 #[.agg (kc r).toArray, .slice A' n' c'] w fun e w' => e = .returned (.bool true) ∧ Below w.heap.size w w' := by
  have hq : ∀ V, (Op.equalIn 10000 52 (.agg #[.int .i64 r.ep, .int .i64 r.nd, .int .i64 r.gn]) (.agg #[.int .i64 r.ep, .int .i64 r.nd, .int .i64 r.gn])).run Try.prog V = .ok true V := fun V => by
    have := eq52 r r V
    rw [decide_eq_true rfl] at this
    exact this
  have hq0 : ∀ V, (Op.equalIn 10000 52 (.agg #[.int .i64 0, .int .i64 0, .int .i64 0]) (.agg #[.int .i64 0, .int .i64 0, .int .i64 0])).run Try.prog V = .ok true V := fun V => by
    have := eq52 zeroC zeroC V
    rw [decide_eq_true rfl] at this
    exact this
  have HL := Lib.hid h
  have hn : n' ≤ 281474976700000 := by have := h.cap; omega
  clear h R
  obtain ⟨a0, ab, az⟩ := box1 w (Obj.cells #[.int .i64 r.ep, .int .i64 r.nd, .int .i64 r.gn] 52)
  have A0 := Lib.hid a0
  have AB := Lib.hid ab
  have hz : w.heap.size < (w.alloc (Obj.cells #[.int .i64 r.ep, .int .i64 r.nd, .int .i64 r.gn] 52)).heap.size := by omega
  clear a0 ab az
  go_enter Try.func6, Try.ntmps6
  rw [show (kc r).toArray = #[.int .i64 r.ep, .int .i64 r.nd, .int .i64 r.gn] from rfl]
  go_wp2_with (first | (refine wpList_load_row rfl 52 _ rfl w.heap.size rfl _ _ _ A0.out _ Try.underlying52 rfl s52 ?_) | fail)
  generalize w.alloc (Obj.cells #[.int .i64 r.ep, .int .i64 r.nd, .int .i64 r.gn] 52) = W at *
  refine (H.cal r W).mono ?_
  rintro e w1 ⟨hb1, X1⟩
  have HB1 := Lib.hid (AB.out.trans (hb1.mono AB.out.size))
  have A1 := Lib.hid ((hb1.block _ hz).trans A0.out)
  have hz1 : w.heap.size < w1.heap.size := Nat.lt_of_lt_of_le hz hb1.size
  clear hb1 A0 hz AB
  obtain ⟨hg, B1, k1, j1, hB1, rfl⟩ | ⟨hg, B1, k1, j1, hB1, rfl⟩ := X1
  · skip
    have HG := Lib.hid hg
    have D1 := Lib.hid hB1
    have hk1 := hB1.len
    clear hg hB1
    go_wp2_with (first | (refine wpList_load_row rfl 52 _ rfl w.heap.size rfl _ _ _ A1.out _ Try.underlying52 rfl s52 ?_) | fail)
    refine (refCall_any r _).mono ?_
    rintro e w2 ⟨X2, hb2⟩
    have HB2 := Lib.hid (HB1.out.trans (hb2.mono HB1.out.size))
    have A2 := Lib.hid ((hb2.block _ hz1).trans A1.out)
    have D2 := Lib.hid ((D1.out.below hb2).more hb2.size)
    have hz2 : w.heap.size < w2.heap.size := Nat.lt_of_lt_of_le hz1 hb2.size
    clear hb2 A1 D1 hz1 HB1
    obtain ⟨_, rfl⟩ | ⟨hn2, _⟩ := X2
    case inr => exact absurd HG.out hn2
    have hcv := D2.out.str w2 (fun _ _ => rfl)
    go_wp2_with fail
    have hl1 : k1 ≤ 281474976700000 := by rw [← hk1]; show (fram 67 (nums r.xs)).length ≤ _; rw [fram_length, nums_length]; show 4 * 3 + 7 ≤ _; omega
    refine (H.cald B1 k1 j1 _ r.frame _ D2.out (Nat.le_refl _) hl1).mono ?_
    clear hcv
    rintro e w3 ⟨hb3, X3⟩
    obtain ⟨x, hx, hf, rfl⟩ | ⟨hn3, _⟩ := X3
    case inr => exact absurd rfl (hn3 r HG.out)
    obtain rfl : r = x := Rc.frame_inj HG.out hx hf
    rw [show (kc r).toArray = #[.int .i64 r.ep, .int .i64 r.nd, .int .i64 r.gn] from rfl]
    have HB3 := Lib.hid (HB2.out.trans (hb3.mono HB2.out.size))
    have A3b := Lib.hid ((hb3.block _ hz2).trans A2.out)
    have hz3 : w.heap.size < w3.heap.size := Nat.lt_of_lt_of_le hz2 hb3.size
    obtain ⟨b0, bb, bz⟩ := box1 w3 (Obj.cells #[.int .i64 r.ep, .int .i64 r.nd, .int .i64 r.gn] 52)
    have HB4 := Lib.hid (HB3.out.trans (bb.mono HB3.out.size))
    have B4 := Lib.hid b0
    have A4 := Lib.hid ((bb.block _ hz3).trans A3b.out)
    clear b0 bb bz hb3 hx hf A2 hz2 A3b hz3 D2 HB2 hl1
    go_wp2_with (first | (refine wpList_store_new rfl 52 _ _ rfl w3 _ #[.int .i64 r.ep, .int .i64 r.nd, .int .i64 r.gn] rfl rfl s52 rfl (all_oneCell_toArray (kc_one r)) ?_) | (refine wpList_load_row rfl 52 _ rfl w3.heap.size rfl _ _ _ B4.out _ Try.underlying52 rfl s52 ?_) | (refine wpList_load_row rfl 52 _ rfl w.heap.size rfl _ _ _ A4.out _ Try.underlying52 rfl s52 ?_) | fail)
    refine (H.cald A' n' c' _ l _ (HL.out.below HB4.out) HB4.out.size hn).mono ?_
    rintro e w5 ⟨hb5, X5⟩
    have HB5 := Lib.hid (HB4.out.trans (hb5.mono HB4.out.size))
    clear hb5
    obtain ⟨x, hx, hf, rfl⟩ | ⟨_, rfl⟩ := X5
    · subst hf
      have HX := Lib.hid hx
      clear hx
      rw [show (kc x).toArray = #[.int .i64 x.ep, .int .i64 x.nd, .int .i64 x.gn] from rfl]
      obtain ⟨b0, bb, bz⟩ := box1 w5 (Obj.cells #[.int .i64 x.ep, .int .i64 x.nd, .int .i64 x.gn] 52)
      have HB6 := Lib.hid (HB5.out.trans (bb.mono HB5.out.size))
      have B6 := Lib.hid b0
      clear b0 bb bz
      go_wp2_with (first | (refine wpList_store_new rfl 52 _ _ rfl w5 _ #[.int .i64 x.ep, .int .i64 x.nd, .int .i64 x.gn] rfl rfl s52 rfl (all_oneCell_toArray (kc_one x)) ?_) | (refine wpList_load_row rfl 52 _ rfl w5.heap.size rfl _ _ _ B6.out _ Try.underlying52 rfl s52 ?_) | fail)
      refine (refCall_any x _).mono ?_
      rintro e w7 ⟨X7, hb7⟩
      have HB7 := Lib.hid (HB6.out.trans (hb7.mono HB6.out.size))
      clear hb7
      obtain ⟨_, rfl⟩ | ⟨hn7, _⟩ := X7
      case inr => exact absurd HX.out hn7
      go_wp2_with fail
      refine (awake_any H _).mono ?_
      rintro e w8 ⟨rfl, hb8⟩
      have HB8 := Lib.hid (HB7.out.trans (hb8.mono HB7.out.size))
      clear hb8
      have hcv := (HL.out.below HB8.out).str w8 (fun _ _ => rfl)
      go_wp2_with fail
      go_ret
      exact ⟨rfl, HB8.out⟩
    · skip
      rw [show (kc zeroC).toArray = #[.int .i64 0, .int .i64 0, .int .i64 0] from rfl]
      obtain ⟨b0, bb, bz⟩ := box1 w5 (Obj.cells #[.int .i64 0, .int .i64 0, .int .i64 0] 52)
      have HB6 := Lib.hid (HB5.out.trans (bb.mono HB5.out.size))
      have B6 := Lib.hid b0
      clear b0 bb bz
      go_wp2_with (first | (refine wpList_store_new rfl 52 _ _ rfl w5 _ #[.int .i64 0, .int .i64 0, .int .i64 0] rfl rfl s52 rfl (all_oneCell_toArray (kc_one zeroC)) ?_) | fail)
      refine (awake_any H _).mono ?_
      rintro e w8 ⟨rfl, hb8⟩
      have HB8 := Lib.hid (HB6.out.trans (hb8.mono HB6.out.size))
      have B8 : Hid (w8.heap[w5.heap.size]? = some (.cells #[.int .i64 0, .int .i64 0, .int .i64 0] 52 (0, 0))) := (hb8.block _ (by simp)).trans B6.out
      clear hb8
      go_wp2_with (first | (refine wpList_load_row rfl 52 _ rfl w5.heap.size rfl _ _ _ B8.out _ Try.underlying52 rfl s52 ?_) | fail)
      go_ret
      exact ⟨rfl, HB8.out⟩
  · skip
    have HG := Lib.hid hg
    have D1 := Lib.hid hB1
    have hk1 := hB1.len
    clear hg hB1
    go_wp2_with (first | (refine wpList_load_row rfl 52 _ rfl w.heap.size rfl _ _ _ A1.out _ Try.underlying52 rfl s52 ?_) | fail)
    refine (refCall_any r _).mono ?_
    rintro e w2 ⟨X2, hb2⟩
    have HB2 := Lib.hid (HB1.out.trans (hb2.mono HB1.out.size))
    have A2 := Lib.hid ((hb2.block _ hz1).trans A1.out)
    have D2 := Lib.hid ((D1.out.below hb2).more hb2.size)
    have hz2 : w.heap.size < w2.heap.size := Nat.lt_of_lt_of_le hz1 hb2.size
    clear hb2 A1 D1 hz1 HB1
    obtain ⟨hn2, _⟩ | ⟨_, rfl⟩ := X2
    case inl => exact absurd hn2 HG.out
    have hcv := D2.out.str w2 (fun _ _ => rfl)
    go_wp2_with fail
    clear hcv
    refine (H.cald A' n' c' _ l _ (HL.out.below HB2.out) HB2.out.size hn).mono ?_
    rintro e w5 ⟨hb5, X5⟩
    have HB5 := Lib.hid (HB2.out.trans (hb5.mono HB2.out.size))
    clear hb5
    obtain ⟨x, hx, hf, rfl⟩ | ⟨_, rfl⟩ := X5
    · subst hf
      have HX := Lib.hid hx
      clear hx
      rw [show (kc x).toArray = #[.int .i64 x.ep, .int .i64 x.nd, .int .i64 x.gn] from rfl]
      obtain ⟨b0, bb, bz⟩ := box1 w5 (Obj.cells #[.int .i64 x.ep, .int .i64 x.nd, .int .i64 x.gn] 52)
      have HB6 := Lib.hid (HB5.out.trans (bb.mono HB5.out.size))
      have B6 := Lib.hid b0
      clear b0 bb bz
      go_wp2_with (first | (refine wpList_store_new rfl 52 _ _ rfl w5 _ #[.int .i64 x.ep, .int .i64 x.nd, .int .i64 x.gn] rfl rfl s52 rfl (all_oneCell_toArray (kc_one x)) ?_) | (refine wpList_load_row rfl 52 _ rfl w5.heap.size rfl _ _ _ B6.out _ Try.underlying52 rfl s52 ?_) | fail)
      refine (refCall_any x _).mono ?_
      rintro e w7 ⟨X7, hb7⟩
      have HB7 := Lib.hid (HB6.out.trans (hb7.mono HB6.out.size))
      clear hb7
      obtain ⟨_, rfl⟩ | ⟨hn7, _⟩ := X7
      case inr => exact absurd HX.out hn7
      go_wp2_with fail
      refine (awake_any H _).mono ?_
      rintro e w8 ⟨rfl, hb8⟩
      have HB8 := Lib.hid (HB7.out.trans (hb8.mono HB7.out.size))
      clear hb8
      have hcv := (HL.out.below HB8.out).str w8 (fun _ _ => rfl)
      go_wp2_with fail
      go_ret
      exact ⟨rfl, HB8.out⟩
    · skip
      rw [show (kc zeroC).toArray = #[.int .i64 0, .int .i64 0, .int .i64 0] from rfl]
      obtain ⟨b0, bb, bz⟩ := box1 w5 (Obj.cells #[.int .i64 0, .int .i64 0, .int .i64 0] 52)
      have HB6 := Lib.hid (HB5.out.trans (bb.mono HB5.out.size))
      have B6 := Lib.hid b0
      clear b0 bb bz
      go_wp2_with (first | (refine wpList_store_new rfl 52 _ _ rfl w5 _ #[.int .i64 0, .int .i64 0, .int .i64 0] rfl rfl s52 rfl (all_oneCell_toArray (kc_one zeroC)) ?_) | fail)
      refine (awake_any H _).mono ?_
      rintro e w8 ⟨rfl, hb8⟩
      have HB8 := Lib.hid (HB6.out.trans (hb8.mono HB6.out.size))
      have B8 : Hid (w8.heap[w5.heap.size]? = some (.cells #[.int .i64 0, .int .i64 0, .int .i64 0] 52 (0, 0))) := (hb8.block _ (by simp)).trans B6.out
      clear hb8
      go_wp2_with (first | (refine wpList_load_row rfl 52 _ rfl w5.heap.size rfl _ _ _ B8.out _ Try.underlying52 rfl s52 ?_) | fail)
      go_ret
      exact ⟨rfl, HB8.out⟩
end Go.Proofs.Ytfignanjelebaaa.verbCalls
