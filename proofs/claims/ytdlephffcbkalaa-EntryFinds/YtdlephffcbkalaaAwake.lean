/- awake, walked. -/
import Derived.Test.YtdlephffcbkalaaSlotsB
import Derived.Test.YtdlephffcbkalaaFind
namespace Go.Proofs.Ytdlephffcbkalaa
open Go.RowKit
set_option linter.unusedVariables false

def ab : List UInt8 := raw [97, 98] 3
def rs2 : List Rw := [emp, ([97, 98], 3)]
theorem enc_ab : enc ([97, 98], 3) = some ab := by decide +kernel
theorem slots_ab : slots (z32 ++ ab) = some rs2 := by decide +kernel
theorem find_ab : find rs2 [97, 98] = some 1 := by decide +kernel
theorem place_ab : place rs2 = 0 := by decide +kernel
theorem sound_ab : sound ([97, 98], 3) = true := by decide +kernel
theorem names_ab : (srt (nms rs2)).length = 1 := by rw [srt_len]; decide +kernel
theorem aw_enc (w : World) : Calls Try.prog 8 #[.agg #[.string { data := #[97, 98] }, .int .i64 3]] w (EncP w (some ab)) := by
  have := enc_any [97, 98] 3 w
  rw [enc_ab] at this
  exact this
theorem make_own (w : World) : (w.alloc (.cells zeros 5)).ownsRow w.heap.size 5 1 (.slice (some ⟨w.heap.size, 0, none⟩) 32 32) z32.length (z32.map bv) := by
  refine ⟨by simp, .inr ⟨w.heap.size, 32, zeros, rfl, Nat.le_refl _, heap_alloc_new w _, Nat.le_refl _, by decide, rfl, ?_⟩⟩
  simp [zeros, z32]
set_option maxRecDepth 20000 in
set_option maxHeartbeats 2000000 in
theorem awake_any (w : World) : Calls Try.prog 13 #[] w fun e w' => e = .returned (.bool true) ∧ Below w.heap.size w w' := by
  go_enter Try.func13, Try.ntmps13
  go_wp2_with fail
  refine (aw_enc w).mono ?_
  rintro e w1 ⟨g, rfl, hb1, hg1, hw1⟩
  have B1 := Lib.hid hb1
  have W1 := Lib.hid hw1
  clear hb1 hw1
  go_wp2_with fail
  refine (dec_any B1.out (Nat.le_refl _)).mono ?_
  intro e w2 hd
  rw [dec_enc enc_ab] at hd
  obtain ⟨rfl, hb2⟩ := decP_some hd
  have hb3 : Below w1.heap.size w1 (w2.alloc (Obj.cells #[.string (bs [97, 98]), .int .i64 3] 23)) := hb2.trans ((box_below w2 _).mono hb2.size)
  obtain ⟨x1, x2, x3⟩ := box1 w2 (Obj.cells #[.string (bs [97, 98]), .int .i64 3] 23)
  have X1 := Lib.hid x1
  have B3 := Lib.hid (B1.out.below hb3)
  have W3 := Lib.hid (W1.out.trans (hb3.mono W1.out.size))
  have hw13 := hb3.size
  have hz3 : w2.heap.size < (w2.alloc (Obj.cells #[.string (bs [97, 98]), .int .i64 3] 23)).heap.size := by rw [x3]; omega
  clear hd hb2 hb3 x1 x2 x3
  go_upto_region 3 with fail
  generalize w2.alloc (Obj.cells #[.string (bs [97, 98]), .int .i64 3] 23) = V at *
  have hmk := make_run V
  have hm := make_own V
  obtain ⟨y1, y2, y3⟩ := box1 V (Obj.cells zeros 5)
  obtain ⟨v', w4, hr, ho, hg⟩ := app_run (ty := 24) hm (B3.out.below (y2.mono hw13)) (by decide) (by rw [y3]; omega)
  have hb4 : Below V.heap.size V w4 := y2.grown hg (by rw [y3]; omega) fun j hj => by cases hj; exact Nat.le_refl _
  obtain ⟨A5, n5, c5, rfl, hB5⟩ := own_holds ho
  have hn5 := hB5.len
  have HS := Lib.hid (slots_any hB5 (Nat.le_refl _) (by rw [← hn5]; decide))
  have HR := Lib.hid hr
  have X4 := Lib.hid ((hb4.block _ hz3).trans X1.out)
  have B4 := Lib.hid (B3.out.below (hb4.mono hw13))
  have W4 := Lib.hid (W3.out.trans (hb4.mono W3.out.size))
  have hz4 := hb4.size
  clear hr hm y1 y2 y3 hg hb4 ho hB5 hn5 X1 B3 W3
  rw [slots_ab] at HS
  go_wp2_with (at_builtin; refine Lib.wpList_append_run _ rfl _ _ _ _ rfl _ _ rfl rfl _ _ HR.out ?_)
  refine HS.out.mono ?_
  rintro e w5 ⟨v5, rfl, ho5, hb5⟩
  obtain ⟨A6, c6, rfl, hR⟩ := ho5.rws
  have HFI := Lib.hid (find_any [97, 98] hR (Nat.le_refl _))
  rw [find_ab] at HFI
  have X5 := Lib.hid ((hb5.block _ (by omega)).trans X4.out)
  have B5 := Lib.hid (B4.out.below (hb5.mono (by omega)))
  have W5 := Lib.hid (W4.out.trans (hb5.mono W4.out.size))
  have RW := Lib.hid hR
  have hz5 := hb5.size
  clear ho5 hb5 hR HS HR hmk X4 B4 W4
  go_wp2_with fail
  refine HFI.out.mono ?_
  rintro e w6 ⟨rfl, hb6⟩
  have X6 := Lib.hid ((hb6.block _ (by omega)).trans X5.out)
  have B6 := Lib.hid (B5.out.below (hb6.mono (by omega)))
  have W6 := Lib.hid (W5.out.trans (hb6.mono W5.out.size))
  have RW6 := Lib.hid (RW.out.below hb6)
  have hz6 := hb6.size
  clear hb6 X5 B5 W5 RW HFI
  obtain ⟨gg, oo, eg, _, cb0⟩ := B6.out.cell (k := 0) (by omega)
  cases eg
  have cb : w6.cell? ⟨g, 0, none⟩ = some (.int .u8 2) := cb0
  have cx0 : w6.cell? ⟨w2.heap.size, 0, none⟩ = some (.string (bs [97, 98])) := cell_in X6.out 0
  have cx1 : w6.cell? ⟨w2.heap.size, 1, none⟩ = some (.int .i64 3) := cell_in X6.out 1
  clear cb0
  go_wp2_with fail
  refine (sound_any [97, 98] 3 _).mono ?_
  rw [sound_ab]
  rintro e w7 ⟨rfl, hb7⟩
  have W7 := Lib.hid (W6.out.trans (hb7.mono W6.out.size))
  have RW7 := Lib.hid (RW6.out.below (hb7.mono hz6))
  have hz7 := hb7.size
  clear hb7 W6 RW6 X6 B6 cb cx0 cx1
  go_wp2_with fail
  refine (place_any RW7.out (by omega)).mono ?_
  rw [place_ab]
  rintro e w8 ⟨rfl, hb8⟩
  have W8 := Lib.hid (W7.out.trans (hb8.mono W7.out.size))
  have RW8 := Lib.hid (RW7.out.below (hb8.mono (by omega)))
  have hz8 := hb8.size
  clear hb8 W7 RW7
  go_wp2_with fail
  refine (names_any RW8.out (by omega) (by decide)).mono ?_
  rintro e w9 ⟨v9, rfl, ho9, hb9⟩
  obtain ⟨A9, c9, rfl, hS9⟩ := ho9.strs
  have W9 := Lib.hid (W8.out.trans (hb9.mono W8.out.size))
  have hlen := names_ab
  rw [hlen]
  clear hb9 W8 RW8 ho9 hS9 hlen
  go_wp2_with fail
  go_ret
  exact ⟨rfl, W9.out⟩
end Go.Proofs.Ytdlephffcbkalaa
