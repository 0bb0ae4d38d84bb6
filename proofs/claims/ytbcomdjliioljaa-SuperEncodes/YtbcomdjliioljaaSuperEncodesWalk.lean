/- SuperEncodes, walked. -/
import Derived.Test.YtbcomdjliioljaaSuperApartWalk
namespace Go.Proofs.Ytbcomdjliioljaa.superEncodes
open Go.RowKit
set_option linter.unusedVariables false

theorem same_not (l : List UInt8) : ((sb l).toList != (sb l).toList) = false := by unfold bne; rw [sb_list]; simp
set_option maxRecDepth 20000 in
set_option maxHeartbeats 2000000 in
theorem walk_no (w : World) (a b c : Int) (hok : ok a b c = false) (A : Option Addr) (n cap : Nat) (l : List UInt8) (hl : F.Bts w w.heap.size A n cap l) :
    Calls Try.prog 3 #[.agg #[.int .i64 a, .int .i64 b, .int .i64 c], .slice A n cap] w fun e W' => e = .returned (.bool true) ∧ Below w.heap.size w W' := by
  have HB0 : Hid (Below w.heap.size w (w.alloc (.cells #[.int .i64 a, .int .i64 b, .int .i64 c] 23))) := box_below w _
  have HS0 : Hid ((w.alloc (.cells #[.int .i64 a, .int .i64 b, .int .i64 c] 23)).heap.size = w.heap.size + 1) := by show _ = _; simp
  have H := Lib.hid hl
  have HOK := Lib.hid hok
  clear hl hok
  go_enter Try.func3, Try.ntmps3
  go_wp2_with fail
  refine (encode_no a b c _ HOK.out).mono ?_
  rintro e w1 ⟨rfl, hb1⟩
  rw [HS0.out] at hb1
  have HB1 := Lib.hid hb1
  obtain ⟨l0, l1, l2⟩ := cell3 w a b c 23 w.heap.size rfl w1 HB1.out
  clear hb1
  go_wp2_with fail
  refine (refEncode_no a b c _ HOK.out).mono ?_
  rintro e w2 ⟨rfl, hb2⟩
  have HB2 := Lib.hid (HB1.out.trans (hb2.mono (HS0.out ▸ HB1.out.size)))
  clear hb2 l0 l1 l2 HB1
  have HS : ∀ W, Hid (Below (w.heap.size + 1) (w.alloc (.cells #[.int .i64 a, .int .i64 b, .int .i64 c] 23)) W → W.cell? ⟨w.heap.size, 0, none⟩ = some (.int .i64 a) ∧ W.cell? ⟨w.heap.size, 1, none⟩ = some (.int .i64 b) ∧ W.cell? ⟨w.heap.size, 2, none⟩ = some (.int .i64 c) ∧ (convert 24 9 (.slice none 0 0)).run Try.prog W = .ok (.string (sb [])) W) := fun W hW => by
    obtain ⟨h0, h1, h2⟩ := cell3 w a b c 23 w.heap.size rfl W hW
    exact ⟨h0, h1, h2, fstr (F.Bts.nil_ W 0) W (Below.refl _ _)⟩
  have HBD : Hid (Below (w.heap.size + 1) (w.alloc (.cells #[.int .i64 a, .int .i64 b, .int .i64 c] 23)) w2.drew) := HB2.out.drew
  have hnn := same_not []
  have HSZ : ∀ W, Hid (Below (w.heap.size + 1) (w.alloc (.cells #[.int .i64 a, .int .i64 b, .int .i64 c] 23)) W → w.heap.size + 1 ≤ W.heap.size) := fun W hW => HS0.out ▸ hW.size
  go_wp2_with fail
  go_region_held3 (fun w' => w'.cell? ⟨w.heap.size, 0, none⟩ = some (.int .i64 a) ∧ w'.cell? ⟨w.heap.size, 1, none⟩ = some (.int .i64 b) ∧ w'.cell? ⟨w.heap.size, 2, none⟩ = some (.int .i64 c) ∧ (convert 24 9 (.slice none 0 0)).run Try.prog w' = .ok (.string (sb [])) w') (first | (with_reducible exact (HS _).out HBD.out) | (with_reducible exact (HS _).out HB3.out) | (with_reducible exact (HS _).out HB4.out)) (first
    | (go_at_call 8; (with_reducible refine (sound_any a b c _).mono ?_); rintro e w3 ⟨rfl, hb3⟩; have HB3 := Lib.hid (HBD.out.trans (hb3.mono ((HSZ _).out HBD.out))); clear hb3)
    | (go_at_call 9; (with_reducible refine (refSound_any a b c _).mono ?_); rintro e w4 ⟨rfl, hb4⟩; have HB4 := Lib.hid (HB3.out.trans (hb4.mono ((HSZ _).out HB3.out))); clear hb4))
  have HBW : Hid (Below w.heap.size w w4) := HB0.out.trans (HB4.out.mono (by omega))
  clear HBD HB4 HS HSZ HB2 hnn HB0 HS0
  by_cases hs : IsSec l
  · obtain ⟨hs0, hs1, hs2⟩ := hs
    have HSC := Lib.hid hs1
    have HSE := Lib.hid hs2
    have HI : Hid (IsSec l) := ⟨hs0, hs1, hs2⟩
    clear hs0 hs1 hs2
    go_wp2_with fail
    refine (decode_any (r := true) (H.out.below HBW.out) HBW.out.size ⟨(fun _ => HI.out), (fun _ => rfl)⟩).mono ?_
    rintro e w6 ⟨rfl, hb6⟩
    have HB6 := Lib.hid (HBW.out.trans (hb6.mono HBW.out.size))
    clear hb6
    go_wp2_with fail
    refine (refEncode_yes _ _ _ _ HSC.out).mono ?_
    rintro e w7 ⟨rfl, hb7⟩
    rw [← HSE.out]
    have HB7 : Hid (Below w.heap.size w w7) := (HB6.out.alloc HB6.out.size _).trans (hb7.mono (by simp; have := HB6.out.size; omega))
    clear hb7
    go_wp2_with fail
    refine (awake_any _).mono ?_
    rintro e w8 ⟨rfl, hb8⟩
    have HB8 := Lib.hid (HB7.out.trans (hb8.mono HB7.out.size))
    clear hb8
    have hcv := fstr H.out w8 HB8.out
    have hll := superApart.list_eq (rfl : l = l)
    go_wp2_with fail
    go_ret
    exact ⟨rfl, HB8.out⟩
  · have HI := Lib.hid hs
    clear hs
    go_wp2_with fail
    refine (decode_any (r := false) (H.out.below HBW.out) HBW.out.size ⟨(fun e => by cases e), (fun e => absurd e HI.out)⟩).mono ?_
    rintro e w6 ⟨rfl, hb6⟩
    have HB6 := Lib.hid (HBW.out.trans (hb6.mono HBW.out.size))
    clear hb6
    go_wp2_with fail
    refine (awake_any _).mono ?_
    rintro e w7 ⟨rfl, hb7⟩
    have HB7 : Hid (Below w.heap.size w w7) := (HB6.out.alloc HB6.out.size _).trans (hb7.mono (by simp; have := HB6.out.size; omega))
    obtain ⟨k0, k1, k2⟩ := cell3 w6 0 0 0 23 w6.heap.size rfl w7 (hb7.mono (by simp))
    clear hb7
    go_wp2_with fail
    go_ret
    exact ⟨rfl, HB7.out⟩
theorem same_lists (l : List UInt8) : ((sb l).toList == (sb l).toList) = true := superApart.list_eq rfl
set_option maxRecDepth 20000 in
set_option maxHeartbeats 2000000 in
theorem walk_yes (w : World) (a b c : Nat) (hok : ok a b c = true) (A : Option Addr) (n cap : Nat) (l : List UInt8) (hl : F.Bts w w.heap.size A n cap l) :
    Calls Try.prog 3 #[.agg #[.int .i64 a, .int .i64 b, .int .i64 c], .slice A n cap] w fun e W' => e = .returned (.bool true) ∧ Below w.heap.size w W' := by
  have HB0 : Hid (Below w.heap.size w (w.alloc (.cells #[.int .i64 a, .int .i64 b, .int .i64 c] 23))) := box_below w _
  have HS0 : Hid ((w.alloc (.cells #[.int .i64 a, .int .i64 b, .int .i64 c] 23)).heap.size = w.heap.size + 1) := by show _ = _; simp
  have H := Lib.hid hl
  have HOK := Lib.hid hok
  clear hl hok
  go_enter Try.func3, Try.ntmps3
  go_wp2_with fail
  refine (encode_yes a b c _ HOK.out).mono ?_
  rintro e w1 ⟨v, rfl, hm1⟩
  have hb1 := hm1.bel
  rw [HS0.out] at hb1
  have HB1 := Lib.hid hb1
  obtain ⟨A1, n1, c1, rfl, h1⟩ := hm1.holds
  have H1 := Lib.hid h1
  obtain ⟨l0, l1, l2⟩ := cell3 w a b c 23 w.heap.size rfl w1 HB1.out
  clear hb1 hm1 h1
  go_wp2_with fail
  refine (refEncode_yes a b c _ HOK.out).mono ?_
  rintro e w2 ⟨rfl, hb2⟩
  have hsz1 : w.heap.size + 1 ≤ w1.heap.size := HS0.out ▸ HB1.out.size
  have HBA : Hid (Below w1.heap.size w1 w2.drew) := hb2.drew
  clear hb2 l0 l1 l2
  have HS : ∀ W, Hid (Below w1.heap.size w1 W → W.cell? ⟨w.heap.size, 0, none⟩ = some (.int .i64 a) ∧ W.cell? ⟨w.heap.size, 1, none⟩ = some (.int .i64 b) ∧ W.cell? ⟨w.heap.size, 2, none⟩ = some (.int .i64 c) ∧ (convert 24 9 (.slice A1 n1 c1)).run Try.prog W = .ok (.string (sb (sec a b c))) W) := fun W hW => by
    obtain ⟨h0, h1, h2⟩ := cell3 w a b c 23 w.heap.size rfl W (HB1.out.trans (hW.mono hsz1))
    exact ⟨h0, h1, h2, fstr H1.out W hW⟩
  have hnn := same_not (sec a b c)
  go_wp2_with fail
  go_region_held3 (fun w' => w'.cell? ⟨w.heap.size, 0, none⟩ = some (.int .i64 a) ∧ w'.cell? ⟨w.heap.size, 1, none⟩ = some (.int .i64 b) ∧ w'.cell? ⟨w.heap.size, 2, none⟩ = some (.int .i64 c) ∧ (convert 24 9 (.slice A1 n1 c1)).run Try.prog w' = .ok (.string (sb (sec a b c))) w') (first | (with_reducible exact (HS _).out HBA.out) | (with_reducible exact (HS _).out HB3.out) | (with_reducible exact (HS _).out HB4.out)) (first
    | (go_at_call 8; (with_reducible refine (sound_any a b c _).mono ?_); rintro e w3 ⟨rfl, hb3⟩; have HB3 := Lib.hid (HBA.out.trans (hb3.mono HBA.out.size)); clear hb3)
    | (go_at_call 9; (with_reducible refine (refSound_any a b c _).mono ?_); rintro e w4 ⟨rfl, hb4⟩; have HB4 := Lib.hid (HB3.out.trans (hb4.mono HB3.out.size)); clear hb4))
  clear hnn
  go_wp2_with fail
  refine (decode_sec (H1.out.below HB4.out) HB4.out.size HOK.out).mono ?_
  rintro e w5 ⟨rfl, hb5⟩
  have HB5 := Lib.hid (HB4.out.trans (hb5.mono HB4.out.size))
  clear hb5
  have hlt5 : w.heap.size < w5.heap.size := by have := HB5.out.size; omega
  obtain ⟨j0, j1, j2, _⟩ := (HS _).out HB5.out
  have k0 : ∀ o, (w5.alloc o).cell? ⟨w.heap.size, 0, none⟩ = some (.int .i64 a) := fun o => ((box_below w5 o).cell hlt5).trans j0
  have k1 : ∀ o, (w5.alloc o).cell? ⟨w.heap.size, 1, none⟩ = some (.int .i64 b) := fun o => ((box_below w5 o).cell hlt5).trans j1
  have k2 : ∀ o, (w5.alloc o).cell? ⟨w.heap.size, 2, none⟩ = some (.int .i64 c) := fun o => ((box_below w5 o).cell hlt5).trans j2
  have HBW0 : Hid (Below w.heap.size w w5) := HB0.out.trans ((HB1.out.trans (HB5.out.mono hsz1)).mono (by omega))
  clear j0 j1 j2 HS HBA HB3 HB4 HB5 HB0 HS0
  go_wp2_with fail
  clear k0 k1 k2
  have HBW : ∀ o, Hid (Below w.heap.size w (w5.alloc o)) := fun o => HBW0.out.alloc HBW0.out.size _
  by_cases hs : IsSec l
  · obtain ⟨hs0, hs1, hs2⟩ := hs
    have HSC := Lib.hid hs1
    have HSE := Lib.hid hs2
    have HI : Hid (IsSec l) := ⟨hs0, hs1, hs2⟩
    clear hs0 hs1 hs2
    go_wp2_with fail
    refine (decode_any (r := true) (H.out.below (HBW _).out) (HBW _).out.size ⟨(fun _ => HI.out), (fun _ => rfl)⟩).mono ?_
    rintro e w6 ⟨rfl, hb6⟩
    have HB6 := Lib.hid ((HBW _).out.trans (hb6.mono (HBW _).out.size))
    clear hb6
    go_wp2_with fail
    refine (refEncode_yes _ _ _ _ HSC.out).mono ?_
    rintro e w7 ⟨rfl, hb7⟩
    rw [← HSE.out]
    have HB7 : Hid (Below w.heap.size w w7) := (HB6.out.alloc HB6.out.size _).trans (hb7.mono (by simp; have := HB6.out.size; omega))
    clear hb7
    go_wp2_with fail
    refine (awake_any _).mono ?_
    rintro e w8 ⟨rfl, hb8⟩
    have HB8 := Lib.hid (HB7.out.trans (hb8.mono HB7.out.size))
    clear hb8
    have hcv := fstr H.out w8 HB8.out
    have hll := superApart.list_eq (rfl : l = l)
    go_wp2_with fail
    go_ret
    exact ⟨rfl, HB8.out⟩
  · have HI := Lib.hid hs
    clear hs
    go_wp2_with fail
    refine (decode_any (r := false) (H.out.below (HBW _).out) (HBW _).out.size ⟨(fun e => by cases e), (fun e => absurd e HI.out)⟩).mono ?_
    rintro e w6 ⟨rfl, hb6⟩
    have HB6 := Lib.hid ((HBW _).out.trans (hb6.mono (HBW _).out.size))
    clear hb6
    go_wp2_with fail
    refine (awake_any _).mono ?_
    rintro e w7 ⟨rfl, hb7⟩
    have HB7 : Hid (Below w.heap.size w w7) := (HB6.out.alloc HB6.out.size _).trans (hb7.mono (by simp; have := HB6.out.size; omega))
    obtain ⟨k0, k1, k2⟩ := cell3 w6 0 0 0 23 w6.heap.size rfl w7 (hb7.mono (by simp))
    clear hb7
    go_wp2_with fail
    go_ret
    exact ⟨rfl, HB7.out⟩
theorem walk (w : World) (a b c : Int) (A : Option Addr) (n cap : Nat) (l : List UInt8) (hl : F.Bts w w.heap.size A n cap l) :
    Calls Try.prog 3 #[.agg #[.int .i64 a, .int .i64 b, .int .i64 c], .slice A n cap] w fun e W' => e = .returned (.bool true) ∧ Below w.heap.size w W' := by
  cases hok : ok a b c with
  | false => exact walk_no w a b c hok A n cap l hl
  | true =>
    obtain ⟨x, y, z, rfl, rfl, rfl⟩ := superApart.toNats hok
    exact walk_yes w x y z hok A n cap l hl
end Go.Proofs.Ytbcomdjliioljaa.superEncodes
