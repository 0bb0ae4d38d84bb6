/- VerbOne, walked over the bundle of contracts. -/
import Derived.Test.YtfignanjelebaaaVCtr
namespace Go.Proofs.Ytfignanjelebaaa.verbOne
open Go.RowKit
set_option linter.unusedVariables false
theorem tag {a b : UInt8} {x y : List UInt8} (h : a ≠ b) : fram a x ≠ fram b y := fun e => h (fram_inj e).1
set_option maxRecDepth 100000 in
set_option maxHeartbeats 4000000 in
theorem walk (H : Verbs) (w : World) (A : Option Addr) (n c : Nat) (l : List UInt8) (h : Bts w w.heap.size A n c l) (R : c ≤ 140737488351232) :
    Calls Try.prog 8 #[.slice A n c] w fun e w' => e = .returned (.bool true) ∧ Below w.heap.size w w' := by
  have HL := Lib.hid h
  have hn : n ≤ 281474976700000 := by have := h.cap; omega
  clear h R
  go_enter Try.func8, Try.ntmps8
  go_wp2_with fail
  refine (H.dec A n c _ l _ HL.out (Nat.le_refl _) hn).mono ?_
  rintro e w1 ⟨hb1, X1⟩
  have HB1 := Lib.hid hb1
  clear hb1
  obtain ⟨v, _, f1, A1, n1, c1, _, rfl⟩ | ⟨_, rfl⟩ := X1
  · skip
    obtain ⟨b0, bb, bz⟩ := box1 w1 (Obj.cells (vc v A1 n1 c1).toArray 26)
    have HB1' := Lib.hid (HB1.out.trans (bb.mono HB1.out.size))
    clear b0 bb bz
    go_wp2_with (first | (refine wpList_store_new rfl 26 _ _ rfl w1 _ (vc v A1 n1 c1).toArray rfl rfl s26 rfl (all_oneCell_toArray (vc_one _ _ _ _)) ?_) | fail)
    refine (H.ansd A n c _ l _ (HL.out.below HB1'.out) HB1'.out.size hn).mono ?_
    rintro e w2 ⟨hb2, X2⟩
    have HB2 := Lib.hid (HB1'.out.trans (hb2.mono HB1'.out.size))
    clear hb2
    obtain ⟨r, _, f2, _⟩ | ⟨_, rfl⟩ := X2
    · exact absurd (f1.symm.trans f2) (tag (by decide))
    obtain ⟨b0, bb, bz⟩ := box1 w2 (Obj.cells (rc zeroR none 0 0 none 0 0).toArray 44)
    have HB2' := Lib.hid (HB2.out.trans (bb.mono HB2.out.size))
    clear b0 bb bz
    go_wp2_with (first | (refine wpList_store_new rfl 44 _ _ rfl w2 _ (rc zeroR none 0 0 none 0 0).toArray rfl rfl s44 rfl (all_oneCell_toArray (rc_one _ _ _ _ _ _ _)) ?_) | fail)
    refine (H.cald A n c _ l _ (HL.out.below HB2'.out) HB2'.out.size hn).mono ?_
    rintro e w3 ⟨hb3, X3⟩
    have HB3 := Lib.hid (HB2'.out.trans (hb3.mono HB2'.out.size))
    clear hb3
    obtain ⟨r3, _, f3, rfl⟩ | ⟨_, rfl⟩ := X3
    · exact absurd (f1.symm.trans f3) (tag (by decide))
    obtain ⟨b0, bb, bz⟩ := box1 w3 (Obj.cells (kc zeroC).toArray 52)
    have HB3' := Lib.hid (HB3.out.trans (bb.mono HB3.out.size))
    clear b0 bb bz
    go_wp2_with (first | (refine wpList_store_new rfl 52 _ _ rfl w3 _ (kc zeroC).toArray rfl rfl s52 rfl (all_oneCell_toArray (kc_one _)) ?_) | fail)
    refine (awake_any H _).mono ?_
    rintro e w4 ⟨rfl, hb4⟩
    have HB4 := Lib.hid (HB3'.out.trans (hb4.mono HB3'.out.size))
    clear hb4
    go_wp2_with fail
    go_ret
    exact ⟨rfl, HB4.out⟩
  · skip
    obtain ⟨b0, bb, bz⟩ := box1 w1 (Obj.cells (vc zeroV none 0 0).toArray 26)
    have HB1' := Lib.hid (HB1.out.trans (bb.mono HB1.out.size))
    clear b0 bb bz
    go_wp2_with (first | (refine wpList_store_new rfl 26 _ _ rfl w1 _ (vc zeroV none 0 0).toArray rfl rfl s26 rfl (all_oneCell_toArray (vc_one _ _ _ _)) ?_) | fail)
    refine (H.ansd A n c _ l _ (HL.out.below HB1'.out) HB1'.out.size hn).mono ?_
    rintro e w2 ⟨hb2, X2⟩
    have HB2 := Lib.hid (HB1'.out.trans (hb2.mono HB1'.out.size))
    clear hb2
    obtain ⟨r, _, f2, A2, n2, c2, Y2, m2, d2, _, _, rfl⟩ | ⟨_, rfl⟩ := X2
    · skip
      obtain ⟨b0, bb, bz⟩ := box1 w2 (Obj.cells (rc r A2 n2 c2 Y2 m2 d2).toArray 44)
      have HB2' := Lib.hid (HB2.out.trans (bb.mono HB2.out.size))
      clear b0 bb bz
      go_wp2_with (first | (refine wpList_store_new rfl 44 _ _ rfl w2 _ (rc r A2 n2 c2 Y2 m2 d2).toArray rfl rfl s44 rfl (all_oneCell_toArray (rc_one _ _ _ _ _ _ _)) ?_) | fail)
      refine (H.cald A n c _ l _ (HL.out.below HB2'.out) HB2'.out.size hn).mono ?_
      rintro e w3 ⟨hb3, X3⟩
      have HB3 := Lib.hid (HB2'.out.trans (hb3.mono HB2'.out.size))
      clear hb3
      obtain ⟨r3, _, f3, rfl⟩ | ⟨_, rfl⟩ := X3
      · exact absurd (f2.symm.trans f3) (tag (by decide))
      obtain ⟨b0, bb, bz⟩ := box1 w3 (Obj.cells (kc zeroC).toArray 52)
      have HB3' := Lib.hid (HB3.out.trans (bb.mono HB3.out.size))
      clear b0 bb bz
      go_wp2_with (first | (refine wpList_store_new rfl 52 _ _ rfl w3 _ (kc zeroC).toArray rfl rfl s52 rfl (all_oneCell_toArray (kc_one _)) ?_) | fail)
      refine (awake_any H _).mono ?_
      rintro e w4 ⟨rfl, hb4⟩
      have HB4 := Lib.hid (HB3'.out.trans (hb4.mono HB3'.out.size))
      clear hb4
      go_wp2_with fail
      go_ret
      exact ⟨rfl, HB4.out⟩
    · skip
      obtain ⟨b0, bb, bz⟩ := box1 w2 (Obj.cells (rc zeroR none 0 0 none 0 0).toArray 44)
      have HB2' := Lib.hid (HB2.out.trans (bb.mono HB2.out.size))
      clear b0 bb bz
      go_wp2_with (first | (refine wpList_store_new rfl 44 _ _ rfl w2 _ (rc zeroR none 0 0 none 0 0).toArray rfl rfl s44 rfl (all_oneCell_toArray (rc_one _ _ _ _ _ _ _)) ?_) | fail)
      refine (H.cald A n c _ l _ (HL.out.below HB2'.out) HB2'.out.size hn).mono ?_
      rintro e w3 ⟨hb3, X3⟩
      have HB3 := Lib.hid (HB2'.out.trans (hb3.mono HB2'.out.size))
      clear hb3
      obtain ⟨r3, _, _, rfl⟩ | ⟨_, rfl⟩ := X3
      · skip
        obtain ⟨b0, bb, bz⟩ := box1 w3 (Obj.cells (kc r3).toArray 52)
        have HB3' := Lib.hid (HB3.out.trans (bb.mono HB3.out.size))
        clear b0 bb bz
        go_wp2_with (first | (refine wpList_store_new rfl 52 _ _ rfl w3 _ (kc r3).toArray rfl rfl s52 rfl (all_oneCell_toArray (kc_one _)) ?_) | fail)
        refine (awake_any H _).mono ?_
        rintro e w4 ⟨rfl, hb4⟩
        have HB4 := Lib.hid (HB3'.out.trans (hb4.mono HB3'.out.size))
        clear hb4
        go_wp2_with fail
        go_ret
        exact ⟨rfl, HB4.out⟩
      · skip
        obtain ⟨b0, bb, bz⟩ := box1 w3 (Obj.cells (kc zeroC).toArray 52)
        have HB3' := Lib.hid (HB3.out.trans (bb.mono HB3.out.size))
        clear b0 bb bz
        go_wp2_with (first | (refine wpList_store_new rfl 52 _ _ rfl w3 _ (kc zeroC).toArray rfl rfl s52 rfl (all_oneCell_toArray (kc_one _)) ?_) | fail)
        refine (awake_any H _).mono ?_
        rintro e w4 ⟨rfl, hb4⟩
        have HB4 := Lib.hid (HB3'.out.trans (hb4.mono HB3'.out.size))
        clear hb4
        go_wp2_with fail
        go_ret
        exact ⟨rfl, HB4.out⟩
end Go.Proofs.Ytfignanjelebaaa.verbOne
