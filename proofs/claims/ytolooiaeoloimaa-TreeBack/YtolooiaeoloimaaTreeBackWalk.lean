/- TreeBack, walked. -/
import Derived.Test.YtolooiaeoloimaaAwake
namespace Go.Proofs.Ytolooiaeoloimaa.treeBack
open Go.RowKit
set_option linter.unusedVariables false

set_option maxRecDepth 20000 in
set_option maxHeartbeats 1000000 in
theorem walk (w : World) (A : Option Addr) (n c : Nat) (l : List Int) (h : Ints w w.heap.size A n c l) :
    Calls Try.prog 5 #[.slice A n c] w fun e W' => e = .returned (.bool true) ∧ Below w.heap.size w W' := by
  have H := Lib.hid h
  have HE := Lib.hid (enc_any h (Nat.le_refl _))
  clear h
  cases ho : okl l with
  | false =>
    rw [isEnc_no ho] at HE
    clear ho
    go_enter Try.func5, Try.ntmps5
    go_wp2_with fail
    refine HE.out.mono ?_
    rintro e w1 ⟨rfl, hb1⟩
    have HB1 := Lib.hid hb1
    clear hb1
    go_wp2_with fail
    refine (awake_any _).mono ?_
    rintro e w2 ⟨rfl, hb2⟩
    have HB2 := Lib.hid (HB1.out.trans (hb2.mono HB1.out.size))
    clear hb2
    go_wp2_with fail
    refine (awake_any _).mono ?_
    rintro e w3 ⟨rfl, hb3⟩
    have HB3 := Lib.hid (HB2.out.trans (hb3.mono HB2.out.size))
    clear hb3
    go_wp2_with fail
    go_ret
    exact ⟨rfl, HB3.out⟩
  | true =>
    have HO := Lib.hid ho
    rw [isEnc_yes ho] at HE
    clear ho
    go_enter Try.func5, Try.ntmps5
    go_wp2_with fail
    refine HE.out.mono ?_
    rintro e w1 ⟨g1, rfl, h1, hb1⟩
    have HB1 := Lib.hid hb1
    have H1 := Lib.hid h1
    clear hb1 h1
    go_wp2_with fail
    refine (awake_any _).mono ?_
    rintro e w2 ⟨rfl, hb2⟩
    have HB2 := Lib.hid (HB1.out.trans (hb2.mono HB1.out.size))
    have H2 := Lib.hid ((H1.out.below hb2).more hb2.size)
    clear hb2 HB1 H1
    go_wp2_with fail
    have HD := Lib.hid (dec_any H2.out (Nat.le_refl _))
    rw [isPt_enc HO.out] at HD
    refine HD.out.mono ?_
    rintro e w3 ⟨g3, rfl, h3, hb3⟩
    have HB3 := Lib.hid (HB2.out.trans (hb3.mono HB2.out.size))
    have HIN := Lib.hid (ints_any h3 (H.out.below HB3.out))
    rw [show decide (l = l) = true by simp] at HIN
    clear h3 hb3 HB2 HD H2
    go_wp2_with fail
    refine HIN.out.mono ?_
    rintro e w4 ⟨rfl, hb4⟩
    have HB4 := Lib.hid (HB3.out.trans (hb4.mono HB3.out.size))
    clear hb4
    go_wp2_with fail
    go_ret
    exact ⟨rfl, HB4.out⟩
end Go.Proofs.Ytolooiaeoloimaa.treeBack
