/- SeatEncodes, walked. -/
import Derived.Test.YtheimdnjmhibjaaAwake
namespace Go.Proofs.Ytheimdnjmhibjaa.seatEncodes
open Go.RowKit
set_option linter.unusedVariables false

theorem same_texts (l : List UInt8) : ((sb l).toList != (sb l).toList) = false := by unfold bne; rw [sb_list]; simp
theorem same_lists (l : List UInt8) : ((sb l).toList == (sb l).toList) = true := list_eq rfl
theorem same_zero (w : World) : Calls Try.prog 12 #[.agg #[.int .i64 0, .int .i64 0, .slice none 0 0], .agg #[.int .i64 0, .int .i64 0, .slice none 0 0]] w fun e w' => e = .returned (.bool true) ∧ Below w.heap.size w w' := by
  have h := same_any 0 0 0 0 (F.Bts.nil_ w 0) (Nat.zero_le _) (F.Bts.nil_ w 0) (Nat.zero_le _)
  rwa [same_yes] at h
set_option maxRecDepth 20000 in
set_option maxHeartbeats 2000000 in
theorem walk_no (w : World) (a b : Int) (A0 : Option Addr) (n0 c0 : Nat) (hok : ok a b n0 = false) (A : Option Addr) (n cap : Nat) (l : List UInt8) (hl : F.Bts w w.heap.size A n cap l) :
    Calls Try.prog 3 #[.agg #[.int .i64 a, .int .i64 b, .slice A0 n0 c0], .slice A n cap] w fun e W' => e = .returned (.bool true) ∧ Below w.heap.size w W' := by
  have HB0 : Hid (Below w.heap.size w (w.alloc (.cells #[.int .i64 a, .int .i64 b, .slice A0 n0 c0] 24))) := box_below w _
  have HS0 : Hid ((w.alloc (.cells #[.int .i64 a, .int .i64 b, .slice A0 n0 c0] 24)).heap.size = w.heap.size + 1) := by show _ = _; simp
  have H := Lib.hid hl
  have HOK := Lib.hid hok
  clear hl hok
  go_enter Try.func3, Try.ntmps3
  go_wp2_with fail
  refine (encode_no a b A0 n0 c0 _ HOK.out).mono ?_
  rintro e w1 ⟨rfl, hb1⟩
  rw [HS0.out] at hb1
  have HB1 := Lib.hid hb1
  obtain ⟨l0, l1, l2⟩ := cell3 w (.int .i64 a) (.int .i64 b) (.slice A0 n0 c0) 24 w.heap.size rfl w1 HB1.out
  clear hb1
  go_wp2_with fail
  refine (refEncode_no a b A0 n0 c0 _ HOK.out).mono ?_
  rintro e w2 ⟨rfl, hb2⟩
  have HB2 := Lib.hid (HB1.out.trans (hb2.mono (HS0.out ▸ HB1.out.size)))
  clear hb2 l0 l1 l2 HB1
  have HS : ∀ W, Hid (Below (w.heap.size + 1) (w.alloc (.cells #[.int .i64 a, .int .i64 b, .slice A0 n0 c0] 24)) W → W.cell? ⟨w.heap.size, 0, none⟩ = some (.int .i64 a) ∧ W.cell? ⟨w.heap.size, 1, none⟩ = some (.int .i64 b) ∧ W.cell? ⟨w.heap.size, 2, none⟩ = some (.slice A0 n0 c0) ∧ (convert 22 9 (.slice none 0 0)).run Try.prog W = .ok (.string (sb [])) W) := fun W hW => by
    obtain ⟨h0, h1, h2⟩ := cell3 w (.int .i64 a) (.int .i64 b) (.slice A0 n0 c0) 24 w.heap.size rfl W hW
    exact ⟨h0, h1, h2, fstr (F.Bts.nil_ W 0) W (Below.refl _ _)⟩
  have HBD : Hid (Below (w.heap.size + 1) (w.alloc (.cells #[.int .i64 a, .int .i64 b, .slice A0 n0 c0] 24)) w2.drew) := HB2.out.drew
  have hnn := same_texts []
  have HSZ : ∀ W, Hid (Below (w.heap.size + 1) (w.alloc (.cells #[.int .i64 a, .int .i64 b, .slice A0 n0 c0] 24)) W → w.heap.size + 1 ≤ W.heap.size) := fun W hW => HS0.out ▸ hW.size
  have HSO := fun W => Lib.hid (sound_any a b A0 n0 c0 W)
  have HRS := fun W => Lib.hid (refSound_any a b A0 n0 c0 W)
  go_wp2_with fail
  go_region_held3 (fun w' => w'.cell? ⟨w.heap.size, 0, none⟩ = some (.int .i64 a) ∧ w'.cell? ⟨w.heap.size, 1, none⟩ = some (.int .i64 b) ∧ w'.cell? ⟨w.heap.size, 2, none⟩ = some (.slice A0 n0 c0) ∧ (convert 22 9 (.slice none 0 0)).run Try.prog w' = .ok (.string (sb [])) w') (first | (with_reducible exact (HS _).out HBD.out) | (with_reducible exact (HS _).out HB3.out) | (with_reducible exact (HS _).out HB4.out)) (first
    | (go_at_call 9; (with_reducible refine (HSO _).out.mono ?_); rintro e w3 ⟨rfl, hb3⟩; have HB3 := Lib.hid (HBD.out.trans (hb3.mono ((HSZ _).out HBD.out))); clear hb3)
    | (go_at_call 10; (with_reducible refine (HRS _).out.mono ?_); rintro e w4 ⟨rfl, hb4⟩; have HB4 := Lib.hid (HB3.out.trans (hb4.mono ((HSZ _).out HB3.out))); clear hb4))
  have HBW : Hid (Below w.heap.size w w4) := HB0.out.trans (HB4.out.mono (by omega))
  clear HBD HB4 HS HSZ HB2 hnn HB0 HS0 HSO HRS
  by_cases hs : IsSec l
  · have HI := Lib.hid hs
    have hl96 := hs.2.1
    have HSC : Hid (ok (num l 0) (num l 1) (len l) = true) := hs.2.2.1
    have HSE : Hid (l = sec (num l 0) (num l 1) (rep l)) := hs.2.2.2
    have HRL : Hid ((rep l).length = len l) := rep_len hs.1 hs.2.1
    clear hs
    go_wp2_with fail
    refine (decode_any (r := true) (H.out.below HBW.out) HBW.out.size ⟨(fun _ => HI.out), (fun _ => rfl)⟩).mono ?_
    rintro e w6 ⟨A6, n6, c6, rfl, h6, hb6⟩
    have HB6 := Lib.hid (HBW.out.trans (hb6.mono HBW.out.size))
    have H6 := Lib.hid h6
    have HN6 : Hid (ok (num l 0) (num l 1) n6 = true) := by show _ = _; rw [← h6.len, HRL.out]; exact HSC.out
    clear hb6 h6
    go_wp2_with fail
    refine (refEncode_yes (num l 0) (num l 1) A6 n6 c6 _ (rep l) _ (H6.out.below (box_below _ _)) (by simp) HN6.out).mono ?_
    rintro e w7 ⟨rfl, hb7⟩
    rw [← HSE.out]
    have HB7 : Hid (Below w.heap.size w w7) := (HB6.out.alloc HB6.out.size _).trans (hb7.mono (by simp; have := HB6.out.size; omega))
    clear hb7
    go_wp2_with fail
    refine (awake_any _).mono ?_
    rintro e w8 ⟨rfl, hb8⟩
    have HB8 := Lib.hid (HB7.out.trans (hb8.mono HB7.out.size))
    clear hb8
    have hcv := fstr H.out w8 HB8.out
    have hll := same_lists l
    go_wp2_with fail
    go_ret
    exact ⟨rfl, HB8.out⟩
  · have HI := Lib.hid hs
    clear hs
    go_wp2_with fail
    refine (decode_any (r := false) (H.out.below HBW.out) HBW.out.size ⟨(fun e => by cases e), (fun e => absurd e HI.out)⟩).mono ?_
    rintro e w6 ⟨rfl, hb6⟩
    have HB6 := Lib.hid (HBW.out.trans (hb6.mono HBW.out.size))
    clear hb6
    go_wp2_with fail
    refine (awake_any _).mono ?_
    rintro e w7 ⟨rfl, hb7⟩
    have HB7 : Hid (Below w.heap.size w w7) := (HB6.out.alloc HB6.out.size _).trans (hb7.mono (by simp; have := HB6.out.size; omega))
    obtain ⟨k0, k1, k2⟩ := cell3 w6 (.int .i64 0) (.int .i64 0) (.slice none 0 0) 24 w6.heap.size rfl w7 (hb7.mono (by simp))
    clear hb7
    go_wp2_with fail
    refine (same_zero _).mono ?_
    rintro e w8 ⟨rfl, hb8⟩
    have HB8 := Lib.hid (HB7.out.trans (hb8.mono HB7.out.size))
    clear hb8 k0 k1 k2
    go_wp2_with fail
    go_ret
    exact ⟨rfl, HB8.out⟩
set_option maxRecDepth 20000 in
set_option maxHeartbeats 2000000 in
theorem walk_yes (w : World) (a b : Nat) (A0 : Option Addr) (n0 c0 : Nat) (r0 : List UInt8) (hr0 : F.Bts w w.heap.size A0 n0 c0 r0) (hok : ok a b n0 = true) (A : Option Addr) (n cap : Nat) (l : List UInt8) (hl : F.Bts w w.heap.size A n cap l) :
    Calls Try.prog 3 #[.agg #[.int .i64 a, .int .i64 b, .slice A0 n0 c0], .slice A n cap] w fun e W' => e = .returned (.bool true) ∧ Below w.heap.size w W' := by
  have HB0 : Hid (Below w.heap.size w (w.alloc (.cells #[.int .i64 a, .int .i64 b, .slice A0 n0 c0] 24))) := box_below w _
  have HS0 : Hid ((w.alloc (.cells #[.int .i64 a, .int .i64 b, .slice A0 n0 c0] 24)).heap.size = w.heap.size + 1) := by show _ = _; simp
  have H := Lib.hid hl
  have HR := Lib.hid hr0
  have HOK := Lib.hid hok
  have HOL : Hid (ok a b r0.length = true) := by show _ = _; rw [hr0.len]; exact hok
  clear hl hok hr0
  go_enter Try.func3, Try.ntmps3
  go_wp2_with fail
  refine (encode_yes a b A0 n0 c0 _ r0 _ (HR.out.below HB0.out) HB0.out.size HOK.out).mono ?_
  rintro e w1 ⟨v, rfl, hm1⟩
  have hb1 := hm1.bel
  rw [HS0.out] at hb1
  have HB1 := Lib.hid hb1
  have HBW1 : Hid (Below w.heap.size w w1) := HB0.out.trans (hm1.bel.mono HB0.out.size)
  obtain ⟨A1, n1, c1, rfl, h1⟩ := hm1.holds
  have H1 := Lib.hid h1
  obtain ⟨l0, l1, l2⟩ := cell3 w (.int .i64 a) (.int .i64 b) (.slice A0 n0 c0) 24 w.heap.size rfl w1 HB1.out
  clear hb1 hm1 h1
  go_wp2_with fail
  refine (refEncode_yes a b A0 n0 c0 _ r0 _ (HR.out.below HBW1.out) HBW1.out.size HOK.out).mono ?_
  rintro e w2 ⟨rfl, hb2⟩
  have hsz1 : w.heap.size + 1 ≤ w1.heap.size := HS0.out ▸ HB1.out.size
  have HBA : Hid (Below w1.heap.size w1 w2.drew) := hb2.drew
  clear hb2 l0 l1 l2
  have HS : ∀ W, Hid (Below w1.heap.size w1 W → W.cell? ⟨w.heap.size, 0, none⟩ = some (.int .i64 a) ∧ W.cell? ⟨w.heap.size, 1, none⟩ = some (.int .i64 b) ∧ W.cell? ⟨w.heap.size, 2, none⟩ = some (.slice A0 n0 c0) ∧ (convert 22 9 (.slice A1 n1 c1)).run Try.prog W = .ok (.string (sb (sec a b r0))) W) := fun W hW => by
    obtain ⟨h0, h1, h2⟩ := cell3 w (.int .i64 a) (.int .i64 b) (.slice A0 n0 c0) 24 w.heap.size rfl W (HB1.out.trans (hW.mono hsz1))
    exact ⟨h0, h1, h2, fstr H1.out W hW⟩
  have hnn := same_texts (sec a b r0)
  have HSO := fun W => Lib.hid (sound_any a b A0 n0 c0 W)
  have HRS := fun W => Lib.hid (refSound_any a b A0 n0 c0 W)
  go_wp2_with fail
  go_region_held3 (fun w' => w'.cell? ⟨w.heap.size, 0, none⟩ = some (.int .i64 a) ∧ w'.cell? ⟨w.heap.size, 1, none⟩ = some (.int .i64 b) ∧ w'.cell? ⟨w.heap.size, 2, none⟩ = some (.slice A0 n0 c0) ∧ (convert 22 9 (.slice A1 n1 c1)).run Try.prog w' = .ok (.string (sb (sec a b r0))) w') (first | (with_reducible exact (HS _).out HBA.out) | (with_reducible exact (HS _).out HB3.out) | (with_reducible exact (HS _).out HB4.out)) (first
    | (go_at_call 9; (with_reducible refine (HSO _).out.mono ?_); rintro e w3 ⟨rfl, hb3⟩; have HB3 := Lib.hid (HBA.out.trans (hb3.mono HBA.out.size)); clear hb3)
    | (go_at_call 10; (with_reducible refine (HRS _).out.mono ?_); rintro e w4 ⟨rfl, hb4⟩; have HB4 := Lib.hid (HB3.out.trans (hb4.mono HB3.out.size)); clear hb4))
  clear hnn HSO HRS
  go_wp2_with fail
  refine (decode_sec (H1.out.below HB4.out) HB4.out.size HOL.out).mono ?_
  rintro e w5 ⟨A5, n5, c5, rfl, h5, hb5⟩
  have HB5 := Lib.hid (HB4.out.trans (hb5.mono HB4.out.size))
  have H5 := Lib.hid h5
  clear hb5 h5
  have hlt5 : w.heap.size < w5.heap.size := by have := HB5.out.size; omega
  obtain ⟨j0, j1, j2, _⟩ := (HS _).out HB5.out
  have k0 : ∀ o, (w5.alloc o).cell? ⟨w.heap.size, 0, none⟩ = some (.int .i64 a) := fun o => ((box_below w5 o).cell hlt5).trans j0
  have k1 : ∀ o, (w5.alloc o).cell? ⟨w.heap.size, 1, none⟩ = some (.int .i64 b) := fun o => ((box_below w5 o).cell hlt5).trans j1
  have k2 : ∀ o, (w5.alloc o).cell? ⟨w.heap.size, 2, none⟩ = some (.slice A0 n0 c0) := fun o => ((box_below w5 o).cell hlt5).trans j2
  have HBW0 : Hid (Below w.heap.size w w5) := HBW1.out.trans (HB5.out.mono HBW1.out.size)
  clear j0 j1 j2 HS HBA HB3 HB4 HB5 HB0 HS0
  have HBO : ∀ o, Hid (Below w.heap.size w (w5.alloc o)) := fun o => HBW0.out.alloc HBW0.out.size _
  have HSM : ∀ o, Hid (Calls Try.prog 12 #[.agg #[.int .i64 a, .int .i64 b, .slice A5 n5 c5], .agg #[.int .i64 a, .int .i64 b, .slice A0 n0 c0]] (w5.alloc o) fun e w' => e = .returned (.bool true) ∧ Below (w5.alloc o).heap.size (w5.alloc o) w') := fun o => by
    have h := same_any a b a b (H5.out.below (box_below w5 o)) (by simp) (HR.out.below (HBO o).out) (HBO o).out.size
    rw [same_yes] at h
    exact h
  go_wp2_with fail
  refine (HSM _).out.mono ?_
  rintro e w4 ⟨rfl, hb4⟩
  have HBW := Lib.hid ((HBO _).out.trans (hb4.mono (HBO _).out.size))
  clear k0 k1 k2 hb4 HSM HBO HBW0 H5 HB1 HBW1 H1
  by_cases hs : IsSec l
  · have HI := Lib.hid hs
    have hl96 := hs.2.1
    have HSC : Hid (ok (num l 0) (num l 1) (len l) = true) := hs.2.2.1
    have HSE : Hid (l = sec (num l 0) (num l 1) (rep l)) := hs.2.2.2
    have HRL : Hid ((rep l).length = len l) := rep_len hs.1 hs.2.1
    clear hs
    go_wp2_with fail
    refine (decode_any (r := true) (H.out.below HBW.out) HBW.out.size ⟨(fun _ => HI.out), (fun _ => rfl)⟩).mono ?_
    rintro e w6 ⟨A6, n6, c6, rfl, h6, hb6⟩
    have HB6 := Lib.hid (HBW.out.trans (hb6.mono HBW.out.size))
    have H6 := Lib.hid h6
    have HN6 : Hid (ok (num l 0) (num l 1) n6 = true) := by show _ = _; rw [← h6.len, HRL.out]; exact HSC.out
    clear hb6 h6
    go_wp2_with fail
    refine (refEncode_yes (num l 0) (num l 1) A6 n6 c6 _ (rep l) _ (H6.out.below (box_below _ _)) (by simp) HN6.out).mono ?_
    rintro e w7 ⟨rfl, hb7⟩
    rw [← HSE.out]
    have HB7 : Hid (Below w.heap.size w w7) := (HB6.out.alloc HB6.out.size _).trans (hb7.mono (by simp; have := HB6.out.size; omega))
    clear hb7
    go_wp2_with fail
    refine (awake_any _).mono ?_
    rintro e w8 ⟨rfl, hb8⟩
    have HB8 := Lib.hid (HB7.out.trans (hb8.mono HB7.out.size))
    clear hb8
    have hcv := fstr H.out w8 HB8.out
    have hll := same_lists l
    go_wp2_with fail
    go_ret
    exact ⟨rfl, HB8.out⟩
  · have HI := Lib.hid hs
    clear hs
    go_wp2_with fail
    refine (decode_any (r := false) (H.out.below HBW.out) HBW.out.size ⟨(fun e => by cases e), (fun e => absurd e HI.out)⟩).mono ?_
    rintro e w6 ⟨rfl, hb6⟩
    have HB6 := Lib.hid (HBW.out.trans (hb6.mono HBW.out.size))
    clear hb6
    go_wp2_with fail
    refine (awake_any _).mono ?_
    rintro e w7 ⟨rfl, hb7⟩
    have HB7 : Hid (Below w.heap.size w w7) := (HB6.out.alloc HB6.out.size _).trans (hb7.mono (by simp; have := HB6.out.size; omega))
    obtain ⟨k0, k1, k2⟩ := cell3 w6 (.int .i64 0) (.int .i64 0) (.slice none 0 0) 24 w6.heap.size rfl w7 (hb7.mono (by simp))
    clear hb7
    go_wp2_with fail
    refine (same_zero _).mono ?_
    rintro e w8 ⟨rfl, hb8⟩
    have HB8 := Lib.hid (HB7.out.trans (hb8.mono HB7.out.size))
    clear hb8 k0 k1 k2
    go_wp2_with fail
    go_ret
    exact ⟨rfl, HB8.out⟩
theorem walk (w : World) (a b : Int) (A0 : Option Addr) (n0 c0 : Nat) (r0 : List UInt8) (hr0 : F.Bts w w.heap.size A0 n0 c0 r0) (A : Option Addr) (n cap : Nat) (l : List UInt8) (hl : F.Bts w w.heap.size A n cap l) :
    Calls Try.prog 3 #[.agg #[.int .i64 a, .int .i64 b, .slice A0 n0 c0], .slice A n cap] w fun e W' => e = .returned (.bool true) ∧ Below w.heap.size w W' := by
  cases hok : ok a b n0 with
  | false => exact walk_no w a b A0 n0 c0 hok A n cap l hl
  | true =>
    obtain ⟨x, y, rfl, rfl, _⟩ := toNats hok
    exact walk_yes w x y A0 n0 c0 r0 hr0 hok A n cap l hl
end Go.Proofs.Ytheimdnjmhibjaa.seatEncodes
