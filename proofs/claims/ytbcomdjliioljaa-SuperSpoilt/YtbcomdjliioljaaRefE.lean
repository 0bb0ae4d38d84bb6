/- copyholdref07.Encode, walked. -/
import Derived.Test.YtbcomdjliioljaaDecB
import Derived.Deep.RegionHeld3
namespace Go.Proofs.Ytbcomdjliioljaa
open Go.RowKit
set_option linter.unusedVariables false

def RefE (w : World) (l : List UInt8) (x : Int) (e : Ending) (w' : World) : Prop := e = .returned (.tuple #[.string (sb l), .int .i64 x]) ∧ Below w.heap.size w w'
theorem refEncode_no (a b c : Int) (w : World) (h : ok a b c = false) : Calls Try.prog 7 #[.agg #[.int .i64 a, .int .i64 b, .int .i64 c]] w (RefE w [] 2) := by
  have H := Lib.hid h
  clear h
  go_enter Try.func7, Try.ntmps7
  go_wp2_with fail
  refine (refSound_any a b c _).mono ?_
  rintro e w1 ⟨rfl, hb1⟩
  rw [H.out]
  have HB : Hid (Below w.heap.size w w1) := (box_below w _).trans (hb1.mono (by simp))
  clear hb1
  go_wp2_with fail
  go_ret2
  exact ⟨rfl, HB.out⟩
theorem little4 (n : Nat) (w : World) (hn : n ≤ 4294967296) : Calls Try.prog 16 #[.int .i64 n, .int .i64 4] w fun e w' => e = .returned (.string (sb (F.lit 4 n))) ∧ Below w.heap.size w w' := little6 n 4 w hn (by omega)
theorem noughts108 (w : World) : Calls Try.prog 17 #[.int .i64 108] w fun e w' => e = .returned (.string (noughtsL 108)) ∧ w = w' := noughts_any 108 w (by omega)
theorem pre_text (a b c : Nat) : ({ data := #[67, 79, 80, 89] } : ByteArray) ++ sb (F.lit 4 a) ++ sb (F.lit 4 b) ++ sb (F.lit 4 c) ++ noughtsL 108 = sb (pre a b c) := by
  have e : ({ data := #[67, 79, 80, 89] } : ByteArray) = sb [67, 79, 80, 89] := rfl
  unfold noughtsL
  rw [e, sb_app, sb_app, sb_app, sb_app]
  rfl
set_option maxRecDepth 20000 in
set_option maxHeartbeats 1000000 in
theorem refEncode_yes (a b c : Nat) (w : World) (h : ok a b c = true) : Calls Try.prog 7 #[.agg #[.int .i64 a, .int .i64 b, .int .i64 c]] w (RefE w (sec a b c) 0) := by
  have H := Lib.hid h
  obtain ⟨_, ha, _, hb, _, hc⟩ := ok_iff.1 h
  have ha' : a ≤ 4294967296 := by omega
  have hb' : b ≤ 4294967296 := by omega
  have hc' : c ≤ 4294967296 := by omega
  clear h ha hb hc
  go_enter Try.func7, Try.ntmps7
  go_wp2_with fail
  refine (refSound_any a b c _).mono ?_
  rintro e w1 ⟨rfl, hb1⟩
  rw [H.out]
  have HB1 : Hid (Below w.heap.size w w1) := (box_below w _).trans (hb1.mono (by simp))
  have hlt : w.heap.size < w1.heap.size := by have := hb1.size; simp at this; omega
  obtain ⟨l0, l1, l2⟩ := cell3 w a b c 23 w.heap.size rfl w1 (hb1.mono (by simp))
  clear hb1
  have za : (sb (F.lit 4 a)).size = 4 := by rw [sb_size, F.lit_length]
  have zb : (sb (F.lit 4 b)).size = 4 := by rw [sb_size, F.lit_length]
  have zc : (sb (F.lit 4 c)).size = 4 := by rw [sb_size, F.lit_length]
  have zn := noughts_size 108
  have HP := Lib.hid (pre_text a b c)
  have HS : ∀ W, Hid (Below w1.heap.size w1 W → W.cell? ⟨w.heap.size, 0, none⟩ = some (.int .i64 a) ∧ W.cell? ⟨w.heap.size, 1, none⟩ = some (.int .i64 b) ∧ W.cell? ⟨w.heap.size, 2, none⟩ = some (.int .i64 c)) := fun W hW => ⟨(hW.cell hlt).trans l0, (hW.cell hlt).trans l1, (hW.cell hlt).trans l2⟩
  have HB0 : Hid (Below w1.heap.size w1 w1.drew) := (Below.refl _ _).drew
  go_wp2_with fail
  go_region_held3 (fun w' => w'.cell? ⟨w.heap.size, 0, none⟩ = some (.int .i64 a) ∧ w'.cell? ⟨w.heap.size, 1, none⟩ = some (.int .i64 b) ∧ w'.cell? ⟨w.heap.size, 2, none⟩ = some (.int .i64 c)) (first | (with_reducible exact (HS _).out HB0.out) | (with_reducible exact (HS _).out HB2.out) | (with_reducible exact (HS _).out HB3.out) | (with_reducible exact (HS _).out HB4.out) | (with_reducible exact (HS _).out HB5.out)) (first
    | (go_at_call 16; (with_reducible refine (little4 a _ ha').mono ?_); rintro e w2 ⟨rfl, hb2⟩; have HB2 := Lib.hid (HB0.out.trans (hb2.mono HB0.out.size)); clear hb2)
    | (go_at_call 16; (with_reducible refine (little4 b _ hb').mono ?_); rintro e w3 ⟨rfl, hb3⟩; have HB3 := Lib.hid (HB2.out.trans (hb3.mono HB2.out.size)); clear hb3)
    | (go_at_call 16; (with_reducible refine (little4 c _ hc').mono ?_); rintro e w4 ⟨rfl, hb4⟩; have HB4 := Lib.hid (HB3.out.trans (hb4.mono HB3.out.size)); clear hb4)
    | (go_at_call 17; (refine (noughts108 _).mono ?_); rintro e w4' ⟨rfl, rfl⟩)
    | (go_at_call 15; rw [HP.out]; (refine (sealed6 (pre a b c) _ (by rw [pre_len]; omega)).mono ?_); rintro e w5 ⟨rfl, hb5⟩; have HB5 := Lib.hid (HB4.out.trans (hb5.mono HB4.out.size)); clear hb5))
  go_wp2_with fail
  go_ret2
  exact ⟨rfl, HB1.out.trans (HB5.out.mono HB1.out.size)⟩
end Go.Proofs.Ytbcomdjliioljaa
