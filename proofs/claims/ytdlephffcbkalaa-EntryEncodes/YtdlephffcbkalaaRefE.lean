/- ref.Encode, walked. -/
import Derived.Test.YtdlephffcbkalaaEncB
import Derived.Deep.RegionHeld3
namespace Go.Proofs.Ytdlephffcbkalaa
open Go.RowKit
set_option linter.unusedVariables false

def RefE (w : World) (o : Option (List UInt8)) (e : Ending) (w' : World) : Prop := e = .returned (.tuple #[.string (bs (o.getD [])), .int .i64 (if o = none then 2 else 0)]) ∧ Below w.heap.size w w'
theorem little1 (n : Nat) (w : World) (hn : n ≤ 24) : Calls Try.prog 23 #[.int .i64 n, .int .i64 1] w fun e w' => e = .returned (.string (bs [UInt8.ofNat n])) ∧ Below w.heap.size w w' := by
  have h := little_any n 1 w (by omega) (by omega)
  have e : lit 1 n = [UInt8.ofNat n] := by simp [lit]
  rw [e] at h
  exact h
theorem little2 (x : Int) (w : World) (h1 : 1 ≤ x) (h2 : x ≤ 31) : Calls Try.prog 23 #[.int .i64 x, .int .i64 2] w fun e w' => e = .returned (.string (bs [UInt8.ofNat x.toNat, 0])) ∧ Below w.heap.size w w' := by
  have h := little_any x.toNat 2 w (by omega) (by omega)
  have e : lit 2 x.toNat = [UInt8.ofNat x.toNat, 0] := by
    have : x.toNat / 256 = 0 := by omega
    simp [lit, this]
  rw [e, Int.toNat_of_nonneg (by omega)] at h
  exact h
theorem noughts24 {m : Nat} (h : m ≤ 24) (w : World) : Calls Try.prog 22 #[.int .i64 (24 - (m : Int))] w fun e w' => e = .returned (.string (bs (z (24 - m)))) ∧ w = w' := by
  have := noughts_any (24 - m) w (by omega)
  rw [show ((24 - m : Nat) : Int) = 24 - (m : Int) by omega] at this
  exact this
set_option maxRecDepth 20000 in
set_option maxHeartbeats 1000000 in
theorem refE_emp (w : World) : Calls Try.prog 9 #[.agg #[.string (bs []), .int .i64 0]] w (RefE w (some z32)) := by
  have h0 := nil_yes
  have h0' := nil_yes'
  have HB := Lib.hid (box_below w (.cells #[.string (bs []), .int .i64 0] 23))
  have HN := fun W => Lib.hid (noughts_any 32 W (by omega))
  go_enter Try.func9, Try.ntmps9
  go_wp2_with fail
  refine (HN _).out.mono ?_
  rintro e w1 ⟨rfl, rfl⟩
  go_wp2_with fail
  go_ret2
  exact ⟨rfl, HB.out⟩
set_option maxRecDepth 20000 in
set_option maxHeartbeats 1000000 in
theorem refE_no (a : List UInt8) (x : Int) (w : World) (h : (a, x) ≠ emp) (hs : sound (a, x) = false) : Calls Try.prog 9 #[.agg #[.string (bs a), .int .i64 x]] w (RefE w none) := by
  have HS := Lib.hid hs
  clear hs
  by_cases ha : a = []
  · subst ha
    have h0 := nil_yes
    have h0' := nil_yes'
    have hx : (x == 0) = false := by
      rw [beq_eq_false_iff_ne]
      intro e
      exact h (by rw [e]; rfl)
    clear h
    go_enter Try.func9, Try.ntmps9
    go_wp2_with fail
    refine (refSound_any [] x _).mono ?_
    rintro e w1 ⟨rfl, hb⟩
    rw [HS.out]
    have HB2 := Lib.hid ((box_below w _).trans (hb.mono (by simp)))
    clear hb
    go_wp2_with fail
    go_ret2
    exact ⟨rfl, HB2.out⟩
  · have h0 := nil_no ha
    have h0' := nil_no' ha
    clear h
    go_enter Try.func9, Try.ntmps9
    go_wp2_with fail
    refine (refSound_any a x _).mono ?_
    rintro e w1 ⟨rfl, hb⟩
    rw [HS.out]
    have HB2 := Lib.hid ((box_below w _).trans (hb.mono (by simp)))
    clear hb
    go_wp2_with fail
    go_ret2
    exact ⟨rfl, HB2.out⟩
theorem raw_text (a : List UInt8) (y : UInt8) : bs [UInt8.ofNat a.length] ++ bs a ++ bs (z (24 - a.length)) ++ bs [y, 0] ++ bs (z 5) = bs (raw a y) := by
  rw [bs_app, bs_app, bs_app, bs_app]
  unfold raw z
  simp
set_option maxRecDepth 20000 in
set_option maxHeartbeats 2000000 in
theorem refE_yes (a : List UInt8) (x : Int) (w : World) (hs : sound (a, x) = true) : Calls Try.prog 9 #[.agg #[.string (bs a), .int .i64 x]] w (RefE w (some (raw a (UInt8.ofNat x.toNat)))) := by
  obtain ⟨hn, hx1, hx2⟩ := sound_iff.1 hs
  have hlen := name_len hn
  have h0 := nil_no (name_ne hn)
  have h0' := nil_no' (name_ne hn)
  dsimp only at hn hx1 hx2 hlen h0 h0'
  have HS := Lib.hid hs
  clear hs hn
  go_enter Try.func9, Try.ntmps9
  go_wp2_with fail
  refine (refSound_any a x _).mono ?_
  rintro e w1 ⟨rfl, hb⟩
  rw [HS.out]
  have HL : Hid (w1.cell? ⟨w.heap.size, 0, none⟩ = some (.string (bs a)) ∧ w1.cell? ⟨w.heap.size, 1, none⟩ = some (.int .i64 x)) := ent_cells w (a, x) w.heap.size rfl w1 (hb.mono (by simp))
  have hlt : w.heap.size < w1.heap.size := by have := hb.size; simp at this; omega
  have HB1 := Lib.hid ((box_below w _).trans (hb.mono (by simp)))
  clear hb
  have KS : ∀ V, Hid (Below w1.heap.size w1 V → V.cell? ⟨w.heap.size, 0, none⟩ = some (.string (bs a)) ∧ V.cell? ⟨w.heap.size, 1, none⟩ = some (.int .i64 x)) := fun V hV => ⟨(hV.cell hlt).trans HL.out.1, (hV.cell hlt).trans HL.out.2⟩
  have HB0 : Hid (Below w1.heap.size w1 w1.drew) := (Below.refl _ _).drew
  have za : (bs a).size = a.length := bs_size a
  have z1 : (bs [UInt8.ofNat a.length]).size = 1 := rfl
  have z2 : (bs [UInt8.ofNat x.toNat, 0]).size = 2 := rfl
  have z3 : (bs (z (24 - a.length))).size = 24 - a.length := z_size _
  have z5 : (bs (z 5)).size = 5 := z_size _
  have HT := Lib.hid (raw_text a (UInt8.ofNat x.toNat))
  obtain ⟨m, hm⟩ : ∃ m, m = a.length := ⟨_, rfl⟩
  have hm24 : m ≤ 24 := by omega
  have hw : IntKind.i64.wrap (24 - (m : Int)) = 24 - (m : Int) := by rw [IntKind.wrap_i64]; omega
  rw [← hm] at za z3 HT z1
  have hs1 : ¬ 9223372036854775807 < 1 + m := by omega
  have hs2 : ¬ 9223372036854775807 < 1 + m + (24 - m) := by omega
  have hs3 : ¬ 9223372036854775807 < 1 + m + (24 - m) + 2 := by omega
  have hs4 : ¬ 9223372036854775807 < 1 + m + (24 - m) + 2 + 5 := by omega
  clear hm HL
  go_wp2_with fail
  go_region_held3 (fun V => V.cell? ⟨w.heap.size, 0, none⟩ = some (.string (bs a)) ∧ V.cell? ⟨w.heap.size, 1, none⟩ = some (.int .i64 x)) (first | (with_reducible exact (KS _).out HB0.out) | (with_reducible exact (KS _).out HB2.out) | (with_reducible exact (KS _).out HB3.out)) (first
    | (go_at_call 23; (with_reducible refine (little1 m _ hm24).mono ?_); rintro e w2 ⟨rfl, hb2⟩; have HB2 := Lib.hid (HB0.out.trans (hb2.mono HB0.out.size)); clear hb2)
    | (go_at_call 22; (with_reducible refine (noughts24 hm24 _).mono ?_); rintro e w4 ⟨rfl, rfl⟩)
    | (go_at_call 23; (with_reducible refine (little2 x _ hx1 hx2).mono ?_); rintro e w3 ⟨rfl, hb3⟩; have HB3 := Lib.hid (HB2.out.trans (hb3.mono HB2.out.size)); clear hb3))
  have HN := fun W => Lib.hid (noughts_any 5 W (by omega))
  go_wp2_with fail
  refine (HN _).out.mono ?_
  rintro e w5 ⟨rfl, rfl⟩
  go_wp2_with fail
  go_ret2
  rw [HT.out]
  exact ⟨rfl, HB1.out.trans (HB3.out.mono HB1.out.size)⟩
theorem refE_any (a : List UInt8) (x : Int) (w : World) : Calls Try.prog 9 #[.agg #[.string (bs a), .int .i64 x]] w (RefE w (enc (a, x))) := by
  by_cases h : (a, x) = emp
  · rw [h, enc_emp]
    obtain ⟨rfl, rfl⟩ : a = [] ∧ x = 0 := by
      unfold emp at h
      simpa using h
    exact refE_emp w
  · cases hs : sound (a, x) with
    | false => rw [enc_no h hs]; exact refE_no a x w h hs
    | true => rw [enc_yes hs]; exact refE_yes a x w hs
end Go.Proofs.Ytdlephffcbkalaa
