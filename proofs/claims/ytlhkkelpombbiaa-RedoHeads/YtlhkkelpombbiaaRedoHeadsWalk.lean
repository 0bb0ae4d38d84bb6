/- RedoHeads, walked. -/
import Derived.Test.YtlhkkelpombbiaaBegin
import Derived.Test.YtlhkkelpombbiaaRefH
namespace Go.Proofs.Ytlhkkelpombbiaa.redoHeads
open Go.RowKit
set_option linter.unusedVariables false

theorem same_list (l : List UInt8) : ((sb l).toList == (sb l).toList) = true := by rw [sb_list]; simp
theorem same_not (l : List UInt8) : ((sb l).toList != (sb l).toList) = false := by unfold bne; rw [same_list]; rfl
set_option maxRecDepth 20000 in
set_option maxHeartbeats 2000000 in
theorem walk (W : World) (A : Option Addr) (n c : Nat) (l : List Int) (hI : Ints W (fun q => q < W.heap.size) A n c l) (A' : Option Addr) (n' c' : Nat) (b : List UInt8) (hB : F.Bts W W.heap.size A' n' c' b) :
    Calls Try.prog 3 #[.slice A n c, .slice A' n' c'] W fun e W' => e = .returned (.bool true) ∧ Below W.heap.size W W' := by
  have HI := Lib.hid hI
  have HB := Lib.hid hB
  clear hI hB
  obtain ⟨o, ho⟩ : ∃ o, isHd b = o := ⟨_, rfl⟩
  have HO := Lib.hid ho
  clear ho
  cases hg : good l with
  | false =>
    have HG := Lib.hid hg
    clear hg
    go_enter Try.func3, Try.ntmps3
    go_wp2_with fail
    refine (head_no HI.out HG.out).mono ?_
    rintro e w1 ⟨rfl, rfl⟩
    go_wp2_with fail
    refine (refHead_no HI.out (fun b hb => hb) HG.out).mono ?_
    rintro e w2 ⟨rfl, hb2⟩
    have HB2 := Lib.hid hb2
    clear hb2
    have hcv := fstr (F.Bts.nil_ w2 0) w2 (Below.refl _ _)
    have hne := same_not []
    go_wp2_with fail
    clear hcv hne
    have HBX := Lib.hid HB2.out
    have HH := Lib.hid (heads_any (HB.out.below HBX.out) HBX.out.size)
    rw [HO.out] at HH
    cases o with
    | none =>
      refine HH.out.mono ?_
      rintro e w5 ⟨rfl, hb5⟩
      have HB5 := Lib.hid (HBX.out.trans (hb5.mono HBX.out.size))
      clear hb5
      go_wp2_with fail
      refine (awake_any w5).mono ?_
      rintro e w6 ⟨rfl, hb6⟩
      have HB6 := Lib.hid (HB5.out.trans (hb6.mono HB5.out.size))
      clear hb6
      go_wp2_with fail
      go_ret
      exact ⟨rfl, HB6.out⟩
    | some ns =>
      obtain ⟨hgn, hen⟩ := isHd_some HO.out
      have HGN := Lib.hid hgn
      have HEN := Lib.hid hen
      clear hgn hen
      refine HH.out.mono ?_
      rintro e w5 ⟨g5, rfl, hI5, hg51, hg52, hb5⟩
      have HB5 := Lib.hid (HBX.out.trans (hb5.mono HBX.out.size))
      have HI5 := Lib.hid hI5
      clear hb5 hI5
      go_wp2_with fail
      refine (refHead_yes HI5.out (fun q hq => by cases hq; exact hg52) HGN.out).mono ?_
      rintro e w6 ⟨rfl, hb6⟩
      have HB6 := Lib.hid (HB5.out.trans (hb6.mono HB5.out.size))
      clear hb6
      rw [HEN.out]
      go_wp2_with fail
      refine (awake_any w6).mono ?_
      rintro e w7 ⟨rfl, hb7⟩
      have HB7 := Lib.hid (HB6.out.trans (hb7.mono HB6.out.size))
      clear hb7
      have hcv2 := fstr HB.out w7 HB7.out
      have hsb := same_list b
      go_wp2_with fail
      go_ret
      exact ⟨rfl, HB7.out⟩
  | true =>
    have HG := Lib.hid hg
    clear hg
    go_enter Try.func3, Try.ntmps3
    go_wp2_with fail
    refine (head_yes HI.out (fun b hb => hb) HG.out).mono ?_
    rintro e w1 ⟨v, rfl, hm⟩
    have HB1 := Lib.hid hm.bel
    obtain ⟨A1, n1, c1, rfl, hb1⟩ := hm.holds
    have HF1 := Lib.hid hb1
    clear hm hb1
    go_wp2_with fail
    refine (refHead_yes (HI.out.keep fun q hq => HB1.out.block q hq) (fun q hq => Nat.lt_of_lt_of_le hq HB1.out.size) HG.out).mono ?_
    rintro e w2 ⟨rfl, hb2⟩
    have HF2 := Lib.hid ((HF1.out.below hb2).more hb2.size)
    have HB2 := Lib.hid (HB1.out.trans (hb2.mono HB1.out.size))
    clear hb2
    have hcv := fstr HF2.out w2 (Below.refl _ _)
    have hne := same_not (hd l)
    go_wp2_with fail
    clear hcv hne
    have HH0 := Lib.hid (heads_any HF2.out (Nat.le_refl _))
    rw [isHd_hd HG.out] at HH0
    refine HH0.out.mono ?_
    rintro e w3 ⟨g3, rfl, hI3, hg31, hg32, hb3⟩
    have HB3 := Lib.hid (HB2.out.trans (hb3.mono HB2.out.size))
    have HI3 := Lib.hid hI3
    clear hb3 hI3 HH0
    go_wp2_with fail
    refine (refInts_any HI3.out (HI.out.keep (w' := w3) fun q hq => HB3.out.block q hq) (fun q hq => by cases hq; exact hg32) (fun q hq => Nat.lt_of_lt_of_le hq HB3.out.size)).mono ?_
    rintro e w4 ⟨rfl, hb4⟩
    have HBX := Lib.hid (HB3.out.trans (hb4.mono HB3.out.size))
    have hdd : decide (l = l) = true := by simp
    clear hb4
    go_wp2_with fail
    clear hdd
    have HH := Lib.hid (heads_any (HB.out.below HBX.out) HBX.out.size)
    rw [HO.out] at HH
    cases o with
    | none =>
      refine HH.out.mono ?_
      rintro e w5 ⟨rfl, hb5⟩
      have HB5 := Lib.hid (HBX.out.trans (hb5.mono HBX.out.size))
      clear hb5
      go_wp2_with fail
      refine (awake_any w5).mono ?_
      rintro e w6 ⟨rfl, hb6⟩
      have HB6 := Lib.hid (HB5.out.trans (hb6.mono HB5.out.size))
      clear hb6
      go_wp2_with fail
      go_ret
      exact ⟨rfl, HB6.out⟩
    | some ns =>
      obtain ⟨hgn, hen⟩ := isHd_some HO.out
      have HGN := Lib.hid hgn
      have HEN := Lib.hid hen
      clear hgn hen
      refine HH.out.mono ?_
      rintro e w5 ⟨g5, rfl, hI5, hg51, hg52, hb5⟩
      have HB5 := Lib.hid (HBX.out.trans (hb5.mono HBX.out.size))
      have HI5 := Lib.hid hI5
      clear hb5 hI5
      go_wp2_with fail
      refine (refHead_yes HI5.out (fun q hq => by cases hq; exact hg52) HGN.out).mono ?_
      rintro e w6 ⟨rfl, hb6⟩
      have HB6 := Lib.hid (HB5.out.trans (hb6.mono HB5.out.size))
      clear hb6
      rw [HEN.out]
      go_wp2_with fail
      refine (awake_any w6).mono ?_
      rintro e w7 ⟨rfl, hb7⟩
      have HB7 := Lib.hid (HB6.out.trans (hb7.mono HB6.out.size))
      clear hb7
      have hcv2 := fstr HB.out w7 HB7.out
      have hsb := same_list b
      go_wp2_with fail
      go_ret
      exact ⟨rfl, HB7.out⟩
end Go.Proofs.Ytlhkkelpombbiaa.redoHeads
