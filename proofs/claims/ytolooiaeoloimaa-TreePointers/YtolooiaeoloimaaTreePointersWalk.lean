/- TreePointers, walked. -/
import Derived.Test.YtolooiaeoloimaaAwake
namespace Go.Proofs.Ytolooiaeoloimaa.treePointers
open Go.RowKit
set_option linter.unusedVariables false

set_option maxRecDepth 20000 in
set_option maxHeartbeats 2000000 in
theorem walk_yes (w : World) (A : Option Addr) (c : Nat) (l : List Int) (h : Ints w w.heap.size A 8 c l) (A' : Option Addr) (n' c' : Nat) (b : List UInt8) (h' : Bts w w.heap.size A' n' c' b) (ho : okl l = true) :
    Calls Try.prog 4 #[.slice A 8 c, .slice A' n' c'] w fun e W' => e = .returned (.bool true) ∧ Below w.heap.size w W' := by
  have HI := Lib.hid h
  have HBB := Lib.hid h'
  have HL : Hid (l.length = 8) := h.len
  have hlim := h.lim
  have hcap := h.cap
  unfold maxLen at hlim
  have HE := Lib.hid (enc_any h (Nat.le_refl _))
  rw [isEnc_yes ho] at HE
  have HO : Hid (∀ x ∈ l, okp x = true) := (okl_iff.1 ho).2
  clear h h' ho
  go_enter Try.func4, Try.ntmps4
  go_wp2_with fail
  refine HE.out.mono ?_
  rintro e w1 ⟨g1, rfl, h1, hb1⟩
  have H1 := Lib.hid h1
  have HB1 := Lib.hid hb1
  clear h1 hb1 HE
  have hmk := make_run w1
  go_wp2_with fail
  clear hmk
  go_loopw [7, 9] (fun o i wr => ∃ k : Nat, k ≤ 8 ∧ i = .int .i64 k ∧ o = .bool true ∧ Hid (Sec wr w1.heap.size (encS l k)) ∧ Hid (Below w1.heap.size w1 wr)) (fun _ i _ => 8 - (intOf i).toNat)
  case atStart => exact ⟨0, Nat.zero_le _, rfl, rfl, sec_new w1, box_below _ _⟩
  case round =>
    obtain ⟨k, hk, rfl, rfl, HS, HB⟩ := hrel
    have HBW := Lib.hid (HB1.out.trans (HB.out.mono HB1.out.size))
    by_cases hlt : k < 8
    · obtain ⟨bb, off, rfl, hbb, hc⟩ := (HI.out.below HBW.out).cell hlt
      have hne : bb ≠ w1.heap.size := by have := HB1.out.size; omega
      have HX : Hid (l[k]? = some (l[k]?.getD 0)) := get_of HL.out hlt
      have HEE : Hid (encS l (k + 1) = lay1 (encS l k) k (l[k]?.getD 0)) := rfl
      generalize l[k]?.getD 0 = x at *
      have hx0 := okp_iff.1 (HO.out x (List.mem_of_getElem? HX.out))
      have hx1 : 0 ≤ x ∧ x < 1024 := by omega
      obtain ⟨hc1, hf1⟩ := HS.out.cell (j := 2 * k) (by omega)
      obtain ⟨hc2, hf2⟩ := HS.out.cell (j := 2 * k + 1) (by omega)
      have HS2 : Hid (Sec ((wr.setCell ⟨w1.heap.size, 2 * k, none⟩ (.int .u8 (x % 256))).setCell ⟨w1.heap.size, 2 * k + 1, none⟩ (.int .u8 (x / 256))) w1.heap.size (encS l (k + 1))) := by
        show Sec _ _ _
        rw [HEE.out]
        exact (HS.out.set (2 * k) (lo_bv rfl)).set (2 * k + 1) (lo_bv (by omega))
      have HB2 : ∀ u v, Hid (Below w1.heap.size w1 ((wr.setCell ⟨w1.heap.size, 2 * k, none⟩ u).setCell ⟨w1.heap.size, 2 * k + 1, none⟩ v)) := fun u v => (HB.out.setCell (p := ⟨w1.heap.size, 2 * k, none⟩) (Nat.le_refl _) _).setCell (p := ⟨w1.heap.size, 2 * k + 1, none⟩) (Nat.le_refl _) _
      have hx2 : x = 0 ∨ (x == 0) = false ∧ 43 ≤ x ∧ x ≤ 1023 := by
        by_cases e : x = 0
        · exact .inl e
        · exact .inr ⟨by simpa using e, by omega, by omega⟩
      clear hx0
      generalize hG : w1.heap.size = G at *
      clear hG
      rcases hx2 with rfl | ⟨e1, e2, e3⟩
      · go_wp2_with fail
        exact ⟨⟨k + 1, by omega, by go_num, rfl, HS2.out, (HB2 _ _).out⟩, by simp [intOf]; omega⟩
      · go_wp2_with fail
        exact ⟨⟨k + 1, by omega, by go_num, rfl, HS2.out, (HB2 _ _).out⟩, by simp [intOf]; omega⟩
    · obtain rfl : k = 8 := by omega
      have hs1 := fstr H1.out wr HB.out
      have hs2 := fstr HS.out.bts wr (Below.refl _ _)
      clear HB HI HS H1 HB1
      have HB := HBW
      clear HBW
      go_wp2_with fail
      refine (dec_any (HBB.out.below HB.out) HB.out.size).mono ?_
      cases hp : isPt b with
      | none =>
        clear hp
        rintro e w3 ⟨rfl, hb3⟩
        have HB3 := Lib.hid (HB.out.trans (hb3.mono HB.out.size))
        clear hb3
        go_wp2_with fail
        refine (awake_any _).mono ?_
        rintro e w4 ⟨rfl, hb4⟩
        have HB4 := Lib.hid (HB3.out.trans (hb4.mono HB3.out.size))
        clear hb4
        go_wp2_with fail
        go_ret
        exact ⟨rfl, HB4.out⟩
      | some ns =>
        obtain ⟨q1, q2, _⟩ := isPt_some hp
        have HQ := Lib.hid q2
        have HEN := Lib.hid (isEnc_yes q1)
        rw [q2] at HEN
        clear hp q1 q2
        rintro e w3 ⟨g3, rfl, h3, hb3⟩
        have H3 := Lib.hid h3
        have HB3 := Lib.hid (HB.out.trans (hb3.mono HB.out.size))
        clear hb3 h3
        go_wp2_with fail
        have HE3 := Lib.hid (enc_any H3.out (Nat.le_refl _))
        rw [HEN.out] at HE3
        refine HE3.out.mono ?_
        rintro e w4 ⟨g4, rfl, h4, hb4⟩
        have HB4 := Lib.hid (HB3.out.trans (hb4.mono HB3.out.size))
        have H4 := Lib.hid h4
        clear hb4 h4 HE3
        go_wp2_with fail
        refine (awake_any _).mono ?_
        rintro e w5 ⟨rfl, hb5⟩
        have HB5 := Lib.hid (HB4.out.trans (hb5.mono HB4.out.size))
        have hs1 := fstr H4.out w5 hb5
        have hs2 := fstr HBB.out w5 HB5.out
        clear hb5
        go_wp2_with fail
        go_ret
        exact ⟨rfl, HB5.out⟩
set_option maxRecDepth 20000 in
set_option maxHeartbeats 2000000 in
theorem walk_short (w : World) (A : Option Addr) (n c : Nat) (l : List Int) (h : Ints w w.heap.size A n c l) (A' : Option Addr) (n' c' : Nat) (b : List UInt8) (h' : Bts w w.heap.size A' n' c' b) (hn : n ≠ 8) :
    Calls Try.prog 4 #[.slice A n c, .slice A' n' c'] w fun e W' => e = .returned (.bool true) ∧ Below w.heap.size w W' := by
  have HI := Lib.hid h
  have HBB := Lib.hid h'
  have HL : Hid (l.length = n) := h.len
  have hlim := h.lim
  have hcap := h.cap
  unfold maxLen at hlim
  have HE := Lib.hid (enc_any h (Nat.le_refl _))
  rw [isEnc_no (okl_len (by rw [h.len]; exact hn))] at HE
  clear h h'
  have hn1 : ((n : Int) == 8) = false := by simp; omega
  go_enter Try.func4, Try.ntmps4
  go_wp2_with fail
  refine HE.out.mono ?_
  rintro e w1 ⟨rfl, hb1⟩
  have HB1 := Lib.hid hb1
  clear hb1 HE
  have hmk := make_run w1
  go_wp2_with fail
  clear hmk
  go_loopw [7, 9] (fun o i wr => o = .bool false ∧ i = .int .i64 0 ∧ Hid (Below w1.heap.size w1 wr)) (fun _ i _ => 0)
  case atStart => exact ⟨rfl, rfl, box_below _ _⟩
  case round =>
    obtain ⟨rfl, rfl, HBA⟩ := hrel
    have HB := Lib.hid (HB1.out.trans (HBA.out.mono HB1.out.size))
    have hcase : 0 < n ∨ n = 0 := by omega
    clear hn
    rcases hcase with hlt | rfl
    all_goals
      clear HI HBA HB1
      go_wp2_with fail
      refine (dec_any (HBB.out.below HB.out) HB.out.size).mono ?_
      cases hp : isPt b with
      | none =>
        clear hp
        rintro e w3 ⟨rfl, hb3⟩
        have HB3 := Lib.hid (HB.out.trans (hb3.mono HB.out.size))
        clear hb3
        go_wp2_with fail
        refine (awake_any _).mono ?_
        rintro e w4 ⟨rfl, hb4⟩
        have HB4 := Lib.hid (HB3.out.trans (hb4.mono HB3.out.size))
        clear hb4
        go_wp2_with fail
        go_ret
        exact ⟨rfl, HB4.out⟩
      | some ns =>
        obtain ⟨q1, q2, _⟩ := isPt_some hp
        have HQ := Lib.hid q2
        have HEN := Lib.hid (isEnc_yes q1)
        rw [q2] at HEN
        clear hp q1 q2
        rintro e w3 ⟨g3, rfl, h3, hb3⟩
        have H3 := Lib.hid h3
        have HB3 := Lib.hid (HB.out.trans (hb3.mono HB.out.size))
        clear hb3 h3
        go_wp2_with fail
        have HE3 := Lib.hid (enc_any H3.out (Nat.le_refl _))
        rw [HEN.out] at HE3
        refine HE3.out.mono ?_
        rintro e w4 ⟨g4, rfl, h4, hb4⟩
        have HB4 := Lib.hid (HB3.out.trans (hb4.mono HB3.out.size))
        have H4 := Lib.hid h4
        clear hb4 h4 HE3
        go_wp2_with fail
        refine (awake_any _).mono ?_
        rintro e w5 ⟨rfl, hb5⟩
        have HB5 := Lib.hid (HB4.out.trans (hb5.mono HB4.out.size))
        have hs1 := fstr H4.out w5 hb5
        have hs2 := fstr HBB.out w5 HB5.out
        clear hb5
        go_wp2_with fail
        go_ret
        exact ⟨rfl, HB5.out⟩
set_option maxRecDepth 20000 in
set_option maxHeartbeats 2000000 in
theorem walk_no (w : World) (A : Option Addr) (c : Nat) (l : List Int) (h : Ints w w.heap.size A 8 c l) (A' : Option Addr) (n' c' : Nat) (b : List UInt8) (h' : Bts w w.heap.size A' n' c' b) (ho : okl l = false) :
    Calls Try.prog 4 #[.slice A 8 c, .slice A' n' c'] w fun e W' => e = .returned (.bool true) ∧ Below w.heap.size w W' := by
  have HI := Lib.hid h
  have HBB := Lib.hid h'
  have HL : Hid (l.length = 8) := h.len
  have hlim := h.lim
  have hcap := h.cap
  unfold maxLen at hlim
  have HE := Lib.hid (enc_any h (Nat.le_refl _))
  rw [isEnc_no ho] at HE
  have HO := Lib.hid ho
  clear h h' ho
  go_enter Try.func4, Try.ntmps4
  go_wp2_with fail
  refine HE.out.mono ?_
  rintro e w1 ⟨rfl, hb1⟩
  have HB1 := Lib.hid hb1
  clear hb1 HE
  have hmk := make_run w1
  go_wp2_with fail
  clear hmk
  go_loopw [7, 9] (fun o i wr => ∃ k : Nat, ∃ q : Bool, k ≤ 8 ∧ i = .int .i64 k ∧ o = .bool q ∧ Hid (q = true → (l.take k).all okp = true) ∧ Hid (∃ L, Sec wr w1.heap.size L) ∧ Hid (Below w1.heap.size w1 wr)) (fun _ i _ => 8 - (intOf i).toNat)
  case atStart => exact ⟨0, true, Nat.zero_le _, rfl, rfl, fun e => by simp, ⟨_, sec_new w1⟩, box_below _ _⟩
  case round =>
    obtain ⟨k, q, hk, rfl, rfl, HQ0, HS0, HBA⟩ := hrel
    have HB := Lib.hid (HB1.out.trans (HBA.out.mono HB1.out.size))
    have hcase : (k < 8 ∧ q = true) ∨ (k < 8 ∧ q = false) ∨ (k = 8 ∧ q = false) ∨ (k = 8 ∧ q = true) := by
      cases q <;> simp <;> omega
    rcases hcase with ⟨hlt, rfl⟩ | ⟨hlt, rfl⟩ | ⟨rfl, rfl⟩ | ⟨rfl, rfl⟩
    · have hall := HQ0.out rfl
      have HALL := Lib.hid hall
      obtain ⟨L, HS1⟩ := HS0.out
      have HS := Lib.hid HS1
      clear hall HS1 HS0 HQ0
      obtain ⟨bb, off, rfl, hbb, hc⟩ := (HI.out.below HB.out).cell hlt
      have hne : bb ≠ w1.heap.size := by have := HB1.out.size; omega
      have HX : Hid (l[k]? = some (l[k]?.getD 0)) := get_of HL.out hlt
      generalize l[k]?.getD 0 = x at *
      obtain ⟨hc1, hf1⟩ := HS.out.cell (j := 2 * k) (by omega)
      obtain ⟨hc2, hf2⟩ := HS.out.cell (j := 2 * k + 1) (by omega)
      have HS2 : ∀ y z : Int, Hid (∃ L, Sec ((wr.setCell ⟨w1.heap.size, 2 * k, none⟩ (.int .u8 (y % 256))).setCell ⟨w1.heap.size, 2 * k + 1, none⟩ (.int .u8 (z % 256))) w1.heap.size L) := fun y z => ⟨_, (HS.out.set (2 * k) (lo_bv rfl)).set (2 * k + 1) (lo_bv rfl)⟩
      have HB2 : ∀ u v, Hid (Below w1.heap.size w1 ((wr.setCell ⟨w1.heap.size, 2 * k, none⟩ u).setCell ⟨w1.heap.size, 2 * k + 1, none⟩ v)) := fun u v => (HBA.out.setCell (p := ⟨w1.heap.size, 2 * k, none⟩) (Nat.le_refl _) _).setCell (p := ⟨w1.heap.size, 2 * k + 1, none⟩) (Nat.le_refl _) _
      have hx2 : x = 0 ∨ ((x == 0) = false ∧ ¬ 43 ≤ x ∧ okp x = false) ∨ ((x == 0) = false ∧ 43 ≤ x ∧ x ≤ 1023 ∧ okp x = true) ∨ ((x == 0) = false ∧ 43 ≤ x ∧ ¬ x ≤ 1023 ∧ okp x = false) := by
        by_cases e : x = 0
        · exact .inl e
        · have e1 : (x == 0) = false := by simpa using e
          by_cases e2 : 43 ≤ x
          · by_cases e3 : x ≤ 1023
            · exact .inr (.inr (.inl ⟨e1, e2, e3, okp_iff.2 (by omega)⟩))
            · exact .inr (.inr (.inr ⟨e1, e2, e3, by rw [Bool.eq_false_iff, Ne, okp_iff]; omega⟩))
          · exact .inr (.inl ⟨e1, e2, by rw [Bool.eq_false_iff, Ne, okp_iff]; omega⟩)
      generalize hG : w1.heap.size = G at *
      clear hG
      rcases hx2 with rfl | ⟨e1, e2, e3⟩ | ⟨e1, e2, e3, e4⟩ | ⟨e1, e2, e3, e4⟩
      · have HA := Lib.hid (all_take HX.out HALL.out (by decide))
        go_wp2_with fail
        exact ⟨⟨k + 1, true, by omega, by go_num, rfl, fun _ => HA.out, (HS2 0 0).out, (HB2 _ _).out⟩, by simp [intOf]; omega⟩
      · clear e3
        go_wp2_with fail
        exact ⟨⟨k + 1, false, by omega, by go_num, rfl, (fun e => by cases e), (HS2 x (x / 256)).out, (HB2 _ _).out⟩, by simp [intOf]; omega⟩
      · have HA := Lib.hid (all_take HX.out HALL.out e4)
        clear e4
        go_wp2_with fail
        have HS3 := Lib.hid (HS2 x (x / 256)).out
        rw [show x / 256 % 256 = x / 256 by omega] at HS3
        exact ⟨⟨k + 1, true, by omega, by go_num, rfl, fun _ => HA.out, HS3.out, (HB2 _ _).out⟩, by simp [intOf]; omega⟩
      · clear e4
        go_wp2_with fail
        exact ⟨⟨k + 1, false, by omega, by go_num, rfl, (fun e => by cases e), (HS2 x (x / 256)).out, (HB2 _ _).out⟩, by simp [intOf]; omega⟩
    rotate_right
    · exfalso
      have hall := HQ0.out rfl
      have h1 := HO.out
      rw [List.take_of_length_le (by rw [HL.out]; omega)] at hall
      unfold okl at h1
      rw [hall, HL.out] at h1
      cases h1
    all_goals
      clear HI HS0 HQ0 HBA HB1
      go_wp2_with fail
      refine (dec_any (HBB.out.below HB.out) HB.out.size).mono ?_
      cases hp : isPt b with
      | none =>
        clear hp
        rintro e w3 ⟨rfl, hb3⟩
        have HB3 := Lib.hid (HB.out.trans (hb3.mono HB.out.size))
        clear hb3
        go_wp2_with fail
        refine (awake_any _).mono ?_
        rintro e w4 ⟨rfl, hb4⟩
        have HB4 := Lib.hid (HB3.out.trans (hb4.mono HB3.out.size))
        clear hb4
        go_wp2_with fail
        go_ret
        exact ⟨rfl, HB4.out⟩
      | some ns =>
        obtain ⟨q1, q2, _⟩ := isPt_some hp
        have HQ := Lib.hid q2
        have HEN := Lib.hid (isEnc_yes q1)
        rw [q2] at HEN
        clear hp q1 q2
        rintro e w3 ⟨g3, rfl, h3, hb3⟩
        have H3 := Lib.hid h3
        have HB3 := Lib.hid (HB.out.trans (hb3.mono HB.out.size))
        clear hb3 h3
        go_wp2_with fail
        have HE3 := Lib.hid (enc_any H3.out (Nat.le_refl _))
        rw [HEN.out] at HE3
        refine HE3.out.mono ?_
        rintro e w4 ⟨g4, rfl, h4, hb4⟩
        have HB4 := Lib.hid (HB3.out.trans (hb4.mono HB3.out.size))
        have H4 := Lib.hid h4
        clear hb4 h4 HE3
        go_wp2_with fail
        refine (awake_any _).mono ?_
        rintro e w5 ⟨rfl, hb5⟩
        have HB5 := Lib.hid (HB4.out.trans (hb5.mono HB4.out.size))
        have hs1 := fstr H4.out w5 hb5
        have hs2 := fstr HBB.out w5 HB5.out
        clear hb5
        go_wp2_with fail
        go_ret
        exact ⟨rfl, HB5.out⟩
theorem walk (w : World) (A : Option Addr) (n c : Nat) (l : List Int) (h : Ints w w.heap.size A n c l) (A' : Option Addr) (n' c' : Nat) (b : List UInt8) (h' : Bts w w.heap.size A' n' c' b) :
    Calls Try.prog 4 #[.slice A n c, .slice A' n' c'] w fun e W' => e = .returned (.bool true) ∧ Below w.heap.size w W' := by
  cases ho : okl l with
  | false =>
    by_cases hn : n = 8
    · subst hn
      exact walk_no w A c l h A' n' c' b h' ho
    · exact walk_short w A n c l h A' n' c' b h' hn
  | true =>
    obtain rfl : n = 8 := by rw [← h.len]; exact (okl_iff.1 ho).1
    exact walk_yes w A c l h A' n' c' b h' ho
end Go.Proofs.Ytolooiaeoloimaa.treePointers
