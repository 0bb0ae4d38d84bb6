/- copyholdlaw11.awake, walked. -/
import Derived.Test.YtolooiaeoloimaaParts
import Derived.Test.YtolooiaeoloimaaDec
namespace Go.Proofs.Ytolooiaeoloimaa
open Go.RowKit
set_option linter.unusedVariables false

def awl : List Int := [43, 0, 0, 0, 0, 0, 0, 300]
theorem awl_ok : okl awl = true := by decide
set_option maxRecDepth 20000 in
set_option maxHeartbeats 2000000 in
theorem awake_any (w : World) : Calls Try.prog 10 #[] w fun e w' => e = .returned (.bool true) ∧ Below w.heap.size w w' := by
  go_enter Try.func10, Try.ntmps10
  go_wp2_with fail
  refine (route_yes 30 w (by omega)).mono ?_
  rintro e w1 ⟨g1, rfl, h1, hb1⟩
  have H1 : Hid (Ints w1 w1.heap.size (some ⟨g1, 0, none⟩) 3 3 [5, 2, 2]) := h1
  have HB1 := Lib.hid hb1
  rw [show (route 30).length = 3 from rfl]
  clear h1 hb1
  go_wp2_with fail
  have HE := Lib.hid (enc_any (ints_new w1 awl 3 (0, 0) (by decide)) (by simp))
  rw [isEnc_yes awl_ok] at HE
  refine HE.out.mono ?_
  rintro e w2 ⟨g2, rfl, h2, hb2⟩
  have H2 := Lib.hid h2
  have HB12 : Hid (Below w1.heap.size w1 w2) := (box_below w1 _).trans (hb2.mono (by simp))
  clear h2 hb2 HE
  go_wp2_with fail
  have HD := Lib.hid (dec_any H2.out (Nat.le_refl _))
  rw [isPt_enc awl_ok] at HD
  refine HD.out.mono ?_
  rintro e w3 ⟨g3, rfl, h3, hb3⟩
  have H3 := Lib.hid h3
  have HB13 : Hid (Below w1.heap.size w1 w3) := HB12.out.trans (hb3.mono HB12.out.size)
  clear h3 hb3 HD H2 HB12
  go_wp2_with fail
  refine (parts_some 120 20 w3 (by omega) (by omega)).mono ?_
  rintro e w4 ⟨A4, c4, rfl, h4, hb4⟩
  have H4 := Lib.hid h4
  have HB14 : Hid (Below w1.heap.size w1 w4) := HB13.out.trans (hb4.mono HB13.out.size)
  have HB34 := Lib.hid hb4
  rw [show np 120 20 = 2 from rfl] at *
  clear h4 hb4 HB13
  obtain ⟨b4, rfl, _, hc4⟩ := H4.out.at_ (by omega)
  have hp : w4.cell? ⟨b4, 5, none⟩ = some (.int .i64 12) := (hc4 1 (by omega)).2.2
  have hl4 := H4.out.cap
  clear hc4
  obtain ⟨b, off, e, _, hm⟩ := (H3.out.below HB34.out).cell (k := 7) (by omega)
  cases e
  have hm7 : w4.cell? ⟨g3, 7, none⟩ = some (.int .i64 300) := hm
  have H14 := Lib.hid (H1.out.below HB14.out)
  obtain ⟨b, off, e, _, hm0⟩ := H14.out.cell (k := 0) (by omega)
  cases e
  obtain ⟨b, off, e, _, hm1⟩ := H14.out.cell (k := 1) (by omega)
  cases e
  obtain ⟨b, off, e, _, hm2⟩ := H14.out.cell (k := 2) (by omega)
  cases e
  have hr0 : w4.cell? ⟨g1, 0, none⟩ = some (.int .i64 5) := hm0
  have hr1 : w4.cell? ⟨g1, 1, none⟩ = some (.int .i64 2) := hm1
  have hr2 : w4.cell? ⟨g1, 2, none⟩ = some (.int .i64 2) := hm2
  have HB : Hid (Below w.heap.size w w4) := HB1.out.trans (HB14.out.mono HB1.out.size)
  clear hm hm0 hm1 hm2 H1 H3 H4 H14 HB1 HB14 HB34
  go_wp2_with fail
  refine (blocks_any 129 _ (by omega)).mono ?_
  rintro e w5 ⟨rfl, rfl⟩
  rw [show blocks 129 = 2 from rfl]
  go_wp2_with fail
  go_ret
  exact ⟨rfl, HB.out⟩
end Go.Proofs.Ytolooiaeoloimaa
