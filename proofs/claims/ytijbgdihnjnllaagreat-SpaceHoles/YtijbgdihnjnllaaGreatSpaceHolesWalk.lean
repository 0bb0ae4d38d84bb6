/- The law SpaceHoles, walked. -/
import Derived.Test.YtijbgdihnjnllaaGreatVCutT
namespace Go.Proofs.YtijbgdihnjnllaaGreat.V
open Go.RowKit
set_option linter.unusedVariables false
set_option maxRecDepth 20000
set_option maxHeartbeats 4000000 in
theorem holes_no (x z u : Int) (A : Option Addr) (n c : Nat) (w : World) (hn : 300 < n) : Calls Tryz.prog 6 #[.int .u16 x, .int .u16 z, .slice A n c, .int .u16 u] w fun e w' => e = .returned (.bool true) ∧ Below w.heap.size w w' := by
  go_enter Tryz.func6, Tryz.ntmps6
  go_wp2_with fail
  refine (begin_any 200 w (by omega) (by omega)).mono ?_
  rintro e w1 ⟨d, p, q, O, s, rfl, h1⟩
  have H1 := Lib.hid h1
  clear h1
  go_wp2_with fail
  refine (awake_any w1).mono ?_
  rintro e w2 ⟨rfl, hb⟩
  have H2 := Lib.hid (H1.out.below hb)
  clear hb H1
  go_wp2_with fail
  refine (awake_any w2).mono ?_
  rintro e w3 ⟨rfl, hb⟩
  have H3 := Lib.hid (H2.out.below hb)
  clear hb H2
  go_wp2_with fail
  go_ret
  exact ⟨rfl, H3.out.ons.sit.bel⟩
/-- Bytes that were cut, and made longer. -/
theorem hole_byte {C : Nat → UInt8} {l : List UInt8} {a e less more : Nat} (hc : ∀ i, C i = if a ≤ i ∧ i < e then l[i - a]?.getD 0 else 0) {j : Nat} (hj : j < more) :
    (byt (cutC (cutC C less) more) 0 more)[j]?.getD 0 = if a ≤ j ∧ j < less ∧ j < e then l[j - a]?.getD 0 else 0 := by
  unfold byt
  rw [List.getElem?_map, List.getElem?_range hj]
  show cutC (cutC C less) more (0 + j) = _
  rw [Nat.zero_add, cutC, if_pos hj, cutC]
  by_cases h1 : j < less
  · rw [if_pos h1, hc]
    by_cases h2 : a ≤ j ∧ j < e
    · rw [if_pos h2, if_pos (by omega)]
    · rw [if_neg h2, if_neg (by omega)]
  · rw [if_neg h1, if_neg (by omega)]
set_option maxHeartbeats 1600000 in
theorem holes_some (x z u : Int) (hx : 0 ≤ x ∧ x ≤ 65535) (hz : 0 ≤ z ∧ z ≤ 65535) (hu : 0 ≤ u ∧ u ≤ 65535) (A : Option Addr) (n c : Nat) (l : List UInt8) (w : World) (hB : F.Bts w w.heap.size A n c l) (h1 : 0 < n ∧ n ≤ 300) :
    Calls Tryz.prog 6 #[.int .u16 x, .int .u16 z, .slice A n c, .int .u16 u] w fun e w' => e = .returned (.bool true) ∧ Below w.heap.size w w' := by
  obtain ⟨a, ha, hea⟩ : ∃ a : Nat, a < 9000 ∧ x.tmod 9000 = (a : Int) := ⟨(x.tmod 9000).toNat, by rw [Int.tmod_eq_emod_of_nonneg (by omega)]; omega, by rw [Int.tmod_eq_emod_of_nonneg (by omega)]; omega⟩
  obtain ⟨h0, h1⟩ := h1
  obtain ⟨less, hle, hel⟩ : ∃ less : Nat, less ≤ a + n ∧ u.tmod ((a : Int) + (n : Int) + 1) = (less : Int) := ⟨(u.tmod ((a : Int) + (n : Int) + 1)).toNat, by
    have := Int.emod_lt_of_pos u (show 0 < (a : Int) + (n : Int) + 1 by omega)
    have := Int.emod_nonneg u (show (a : Int) + (n : Int) + 1 ≠ 0 by omega)
    rw [Int.tmod_eq_emod_of_nonneg (by omega)]; omega, by
    have := Int.emod_nonneg u (show (a : Int) + (n : Int) + 1 ≠ 0 by omega)
    rw [Int.tmod_eq_emod_of_nonneg (by omega)]; omega⟩
  have hn1 : (((a : Int) + (n : Int) + 1) == 0) = false := by rw [beq_eq_false_iff_ne]; omega
  obtain ⟨add, had, hed⟩ : ∃ add : Nat, less + add ≤ 9728 ∧ z.tmod (9728 - (less : Int) + 1) = (add : Int) := ⟨(z.tmod (9728 - (less : Int) + 1)).toNat, by
    have := Int.emod_lt_of_pos z (show 0 < 9728 - (less : Int) + 1 by omega)
    have := Int.emod_nonneg z (show 9728 - (less : Int) + 1 ≠ 0 by omega)
    rw [Int.tmod_eq_emod_of_nonneg (by omega)]; omega, by
    have := Int.emod_nonneg z (show 9728 - (less : Int) + 1 ≠ 0 by omega)
    rw [Int.tmod_eq_emod_of_nonneg (by omega)]; omega⟩
  have hn2 : ((9728 - (less : Int) + 1) == 0) = false := by rw [beq_eq_false_iff_ne]; omega
  have HB := Lib.hid hB
  have hcap := hB.cap
  have hlim := hB.lim
  unfold maxLen at hlim
  clear hB
  go_enter Tryz.func6, Tryz.ntmps6
  go_wp2_with fail
  refine (begin_any 200 w (by omega) (by omega)).mono ?_
  rintro e w1 ⟨d, p, q, O, s, rfl, h1⟩
  have H1 := Lib.hid h1
  have HS := Lib.hid (Xb_std (N := 200) (by omega) (by omega))
  clear h1
  go_wp2_with fail
  refine (awake_any w1).mono ?_
  rintro e w2 ⟨rfl, hb⟩
  have H2 := Lib.hid (H1.out.below hb)
  clear hb H1
  go_wp2_with fail
  refine (new_std (k := 1) H2.out HS.out (by decide) (by omega) (.inl rfl)).mono ?_
  rintro e w3 ⟨rfl, h3, _⟩
  have H3 := Lib.hid h3
  have HF3 := Lib.hid (fl_m1 (N := 200) (gN := by omega) (by omega) HS.out (by omega))
  have HK3 : Hid ((keys (m1 200 1 0 1)).length ≤ 15) := by
    have := nodup_len (keys_nodup h3.mok.rise) (L := [0, 35]) fun x hx => by rcases m1_keys _ _ _ _ x hx with rfl | rfl <;> simp
    exact Nat.le_trans this (by simp)
  clear h3 H2 HS
  have HTL := tx_len (a := a) (n := n) (k := 3) (by omega)
  have HBU : Hid (Bud [0, 34, 35] (tx a n) (m1 200 1 0 1) (fun _ => 0)) := ⟨fun k hk => by rcases m1_keys _ _ _ _ k hk with rfl | rfl <;> simp, by simp only [List.length_cons, List.length_nil]; omega, by simp⟩
  have HW3 := Lib.hid (write_yes (nn := 2) (a := a) (n := n) H3.out HF3.out (by omega) HBU.out (by simp) h0 (by omega) (arg_bts H3.out HB.out) (arg_out H3.out) (tx_mem a n))
  rw [show ((2 : Nat) : Int) = 2 from rfl] at HW3
  go_wp2_with fail
  refine HW3.out.mono ?_
  rintro e w4 (⟨rfl, m4, y4, f4, haft, hsz, _, _, _⟩ | ⟨rfl, ⟨bf, m3, hno⟩, _⟩)
  case inr => exact absurd hno (FNo.not (Tx := tx a n) List.nodup_nil (tx_mem a n) (.inl (by rw [nzn_zero, List.length_nil]; omega)))
  have h4 := haft.sto
  have hf4 := haft.fl
  have hk4 : (keys m4).length ≤ 15 := by have := haft.bud.len_le h4.mok.rise; simp only [List.length_cons, List.length_nil] at this; omega
  have hs4 : y4.s = a + n := by rw [hsz]; show max 0 (a + n) = _; omega
  have hc4 : ∀ i, ovr (fun _ => 0) a l n i = if a ≤ i ∧ i < a + n then l[i - a]?.getD 0 else 0 := fun i => rfl
  clear haft hsz HW3 HBU HTL
  have H4 := Lib.hid h4
  have HF4 := Lib.hid hf4
  have HC4 := Lib.hid hc4
  have HS4 := Lib.hid hs4
  clear h4 hf4 hc4 hs4 H3 HF3 HK3
  have HT4 := Lib.hid (trunc_low (size := less) H4.out HF4.out (by omega) (by omega) (by omega))
  rw [show ((2 : Nat) : Int) = 2 from rfl] at HT4
  go_wp2_with fail
  refine HT4.out.mono ?_
  rintro e w5 ⟨rfl, low5, Tx5, m5, y5, haft, hs5, hk5⟩
  have H5 := Lib.hid haft.sto
  have HF5 := Lib.hid haft.fl
  have HS5 := Lib.hid hs5
  have HT5 := Lib.hid (trunc_more (size := less + add) H5.out HF5.out (by omega) (by omega) (by omega) (by omega))
  have hla : ((less + add : Nat) : Int) = (less : Int) + (add : Int) := by omega
  rw [show ((2 : Nat) : Int) = 2 from rfl, hla] at HT5
  clear haft hs5 H4 HT4 HF4 HS4
  go_wp2_with fail
  refine HT5.out.mono ?_
  rintro e w6 ⟨rfl, low6, Tx6, m6, y6, haft, hs6, hk6⟩
  have H6 := Lib.hid haft.sto
  have HF6 := Lib.hid haft.fl
  have HR := Lib.hid (read_fl (a := 0) (z := 9728) (s' := less + add) H6.out HF6.out (by omega) (by omega) (by omega))
  rw [show ((2 : Nat) : Int) = 2 from rfl, show ((0 : Nat) : Int) = 0 from rfl, show ((9728 : Nat) : Int) = 9728 from rfl] at HR
  clear haft hs6 H5 HT5 HF5 HS5 hk4 hk5 hk6
  go_wp2_with fail
  refine HR.out.mono ?_
  rintro e w7 ⟨A1, more, c1, rfl, hb1, hbl⟩
  have hmo : more = less + add := by rw [← hb1.len, byt_len]
  have HX := Lib.hid hb1
  have HBL := Lib.hid (H6.out.below hbl).ons.sit.bel
  have HBB := Lib.hid (HB.out.below HBL.out)
  rw [← hmo] at HX
  have hml : ((more : Int) != (less : Int) + (add : Int)) = false := by rw [bne_eq_false_iff_eq]; omega
  have hmc := hb1.cap
  have hmc2 := hb1.lim
  unfold maxLen at hmc2
  clear hb1 hbl HR H6 HF6 HB
  go_wp2_with fail
  go_loopw [18] (fun i wr => ∃ j : Nat, j ≤ more ∧ i = .int .i64 j ∧ Hid (Below w7.heap.size w7 wr ∧ ∀ p, wr.cell? p = w7.cell? p)) (fun i _ => more - (intOf i).toNat)
  case atStart => exact ⟨0, Nat.zero_le _, rfl, ⟨Below.refl _ _, fun _ => rfl⟩⟩
  case round =>
    obtain ⟨j, hj, rfl, HR⟩ := hrel
    by_cases hlt : j < more
    · have hv := hole_byte (less := less) HC4.out hlt
      rw [hmo] at hv
      obtain ⟨b1, o1, rfl, hbb, hc⟩ := (HX.out.keep (w' := wr) fun p _ => HR.out.2 p).cell hlt
      rw [hmo, hv] at hc
      clear hv
      by_cases h3 : a ≤ j ∧ j < less ∧ j < a + n
      · obtain ⟨h4, h5, h6⟩ := h3
        rw [if_pos ⟨h4, h5, h6⟩] at hc
        obtain ⟨b2, o2, rfl, hbb2, hc2⟩ := (HBB.out.keep (w' := wr) fun p _ => HR.out.2 p).cell (k := j - a) (by omega)
        generalize (l[j - a]?.getD 0).toNat = v at hc hc2
        have hve : ((v : Int) != (v : Int)) = false := by simp
        have e1 : (j : Int) - (a : Int) = ((j - a : Nat) : Int) := by omega
        go_wp2_with fail
        go_roundw
        case rel => exact ⟨j + 1, by omega, by go_num, HR⟩
        case measure => simp [intOf]; omega
      · rw [if_neg h3, show ((0 : UInt8).toNat : Int) = 0 from rfl] at hc
        by_cases h4 : a ≤ j
        · by_cases h5 : j < less
          · exact absurd ⟨h4, h5, by omega⟩ h3
          · clear h3
            go_wp2_with fail
            go_roundw
            case rel => exact ⟨j + 1, by omega, by go_num, HR⟩
            case measure => simp [intOf]; omega
        · clear h3
          go_wp2_with fail
          go_roundw
          case rel => exact ⟨j + 1, by omega, by go_num, HR⟩
          case measure => simp [intOf]; omega
    · obtain rfl : j = more := by omega
      go_wp2_with fail
      go_ret
      exact ⟨rfl, HBL.out.trans (HR.out.1.mono HBL.out.size)⟩
set_option maxHeartbeats 1600000 in
theorem holes_none (x z u : Int) (hx : 0 ≤ x ∧ x ≤ 65535) (hz : 0 ≤ z ∧ z ≤ 65535) (hu : 0 ≤ u ∧ u ≤ 65535) (A : Option Addr) (n c : Nat) (l : List UInt8) (w : World) (hB : F.Bts w w.heap.size A n c l) (h1 : n = 0) :
    Calls Tryz.prog 6 #[.int .u16 x, .int .u16 z, .slice A n c, .int .u16 u] w fun e w' => e = .returned (.bool true) ∧ Below w.heap.size w w' := by
  obtain ⟨a, ha, hea⟩ : ∃ a : Nat, a < 9000 ∧ x.tmod 9000 = (a : Int) := ⟨(x.tmod 9000).toNat, by rw [Int.tmod_eq_emod_of_nonneg (by omega)]; omega, by rw [Int.tmod_eq_emod_of_nonneg (by omega)]; omega⟩
  subst h1
  obtain ⟨less, hle, hel⟩ : ∃ less : Nat, less ≤ 0 ∧ u.tmod 1 = (less : Int) := ⟨0, by omega, by rw [Int.tmod_eq_emod_of_nonneg (by omega)]; omega⟩
  obtain ⟨add, had, hed⟩ : ∃ add : Nat, less + add ≤ 9728 ∧ z.tmod (9728 - (less : Int) + 1) = (add : Int) := ⟨(z.tmod (9728 - (less : Int) + 1)).toNat, by
    have := Int.emod_lt_of_pos z (show 0 < 9728 - (less : Int) + 1 by omega)
    have := Int.emod_nonneg z (show 9728 - (less : Int) + 1 ≠ 0 by omega)
    rw [Int.tmod_eq_emod_of_nonneg (by omega)]; omega, by
    have := Int.emod_nonneg z (show 9728 - (less : Int) + 1 ≠ 0 by omega)
    rw [Int.tmod_eq_emod_of_nonneg (by omega)]; omega⟩
  have hn2 : ((9728 - (less : Int) + 1) == 0) = false := by rw [beq_eq_false_iff_ne]; omega
  have HB := Lib.hid hB
  have hcap := hB.cap
  have hlim := hB.lim
  unfold maxLen at hlim
  clear hB
  go_enter Tryz.func6, Tryz.ntmps6
  go_wp2_with fail
  refine (begin_any 200 w (by omega) (by omega)).mono ?_
  rintro e w1 ⟨d, p, q, O, s, rfl, h1⟩
  have H1 := Lib.hid h1
  have HS := Lib.hid (Xb_std (N := 200) (by omega) (by omega))
  clear h1
  go_wp2_with fail
  refine (awake_any w1).mono ?_
  rintro e w2 ⟨rfl, hb⟩
  have H2 := Lib.hid (H1.out.below hb)
  clear hb H1
  go_wp2_with fail
  refine (new_std (k := 1) H2.out HS.out (by decide) (by omega) (.inl rfl)).mono ?_
  rintro e w3 ⟨rfl, h3, _⟩
  have H3 := Lib.hid h3
  have HF3 := Lib.hid (fl_m1 (N := 200) (gN := by omega) (by omega) HS.out (by omega))
  have HK3 : Hid ((keys (m1 200 1 0 1)).length ≤ 15) := by
    have := nodup_len (keys_nodup h3.mok.rise) (L := [0, 35]) fun x hx => by rcases m1_keys _ _ _ _ x hx with rfl | rfl <;> simp
    exact Nat.le_trans this (by simp)
  clear h3 H2 HS
  have HW3 := Lib.hid (write_none (HF3.out.open_ H3.out (by omega)) (a := (a : Int)) (by omega) A c)
  rw [show ((2 : Nat) : Int) = 2 from rfl] at HW3
  go_wp2_with fail
  refine HW3.out.mono ?_
  rintro e w4 ⟨rfl, hb⟩
  have h4 := H3.out.below hb
  have hf4 := HF3.out
  have hk4 := HK3.out
  have hs4 : (new1 (0 + 1)).s = 0 := rfl
  have hc4 : ∀ i, (fun _ => 0 : Nat → UInt8) i = if a ≤ i ∧ i < 0 then l[i - a]?.getD 0 else 0 := fun i => by rw [if_neg (by omega)]
  clear hb HW3
  have H4 := Lib.hid h4
  have HF4 := Lib.hid hf4
  have HC4 := Lib.hid hc4
  have HS4 := Lib.hid hs4
  clear h4 hf4 hc4 hs4 H3 HF3 HK3
  have HT4 := Lib.hid (trunc_low (size := less) H4.out HF4.out (by omega) (by omega) (by omega))
  rw [show ((2 : Nat) : Int) = 2 from rfl] at HT4
  go_wp2_with fail
  refine HT4.out.mono ?_
  rintro e w5 ⟨rfl, low5, Tx5, m5, y5, haft, hs5, hk5⟩
  have H5 := Lib.hid haft.sto
  have HF5 := Lib.hid haft.fl
  have HS5 := Lib.hid hs5
  have HT5 := Lib.hid (trunc_more (size := less + add) H5.out HF5.out (by omega) (by omega) (by omega) (by omega))
  have hla : ((less + add : Nat) : Int) = (less : Int) + (add : Int) := by omega
  rw [show ((2 : Nat) : Int) = 2 from rfl, hla] at HT5
  clear haft hs5 H4 HT4 HF4 HS4
  go_wp2_with fail
  refine HT5.out.mono ?_
  rintro e w6 ⟨rfl, low6, Tx6, m6, y6, haft, hs6, hk6⟩
  have H6 := Lib.hid haft.sto
  have HF6 := Lib.hid haft.fl
  have HR := Lib.hid (read_fl (a := 0) (z := 9728) (s' := less + add) H6.out HF6.out (by omega) (by omega) (by omega))
  rw [show ((2 : Nat) : Int) = 2 from rfl, show ((0 : Nat) : Int) = 0 from rfl, show ((9728 : Nat) : Int) = 9728 from rfl] at HR
  clear haft hs6 H5 HT5 HF5 HS5 hk4 hk5 hk6
  go_wp2_with fail
  refine HR.out.mono ?_
  rintro e w7 ⟨A1, more, c1, rfl, hb1, hbl⟩
  have hmo : more = less + add := by rw [← hb1.len, byt_len]
  have HX := Lib.hid hb1
  have HBL := Lib.hid (H6.out.below hbl).ons.sit.bel
  have HBB := Lib.hid (HB.out.below HBL.out)
  rw [← hmo] at HX
  have hml : ((more : Int) != (less : Int) + (add : Int)) = false := by rw [bne_eq_false_iff_eq]; omega
  have hmc := hb1.cap
  have hmc2 := hb1.lim
  unfold maxLen at hmc2
  clear hb1 hbl HR H6 HF6 HB
  go_wp2_with fail
  go_loopw [18] (fun i wr => ∃ j : Nat, j ≤ more ∧ i = .int .i64 j ∧ Hid (Below w7.heap.size w7 wr ∧ ∀ p, wr.cell? p = w7.cell? p)) (fun i _ => more - (intOf i).toNat)
  case atStart => exact ⟨0, Nat.zero_le _, rfl, ⟨Below.refl _ _, fun _ => rfl⟩⟩
  case round =>
    obtain ⟨j, hj, rfl, HR⟩ := hrel
    by_cases hlt : j < more
    · have hv := hole_byte (less := less) HC4.out hlt
      rw [hmo] at hv
      obtain ⟨b1, o1, rfl, hbb, hc⟩ := (HX.out.keep (w' := wr) fun p _ => HR.out.2 p).cell hlt
      rw [hmo, hv] at hc
      clear hv
      rw [if_neg (by omega)] at hc
      rw [show ((0 : UInt8).toNat : Int) = 0 from rfl] at hc
      by_cases h1 : a ≤ j
      · by_cases h2 : j < less
        · omega
        · go_wp2_with fail
          go_roundw
          case rel => exact ⟨j + 1, by omega, by go_num, HR⟩
          case measure => simp [intOf]; omega
      · go_wp2_with fail
        go_roundw
        case rel => exact ⟨j + 1, by omega, by go_num, HR⟩
        case measure => simp [intOf]; omega
    · obtain rfl : j = more := by omega
      go_wp2_with fail
      go_ret
      exact ⟨rfl, HBL.out.trans (HR.out.1.mono HBL.out.size)⟩
theorem spaceHoles.walk (w : World) (x : Int) (hx : 0 ≤ x ∧ x ≤ 65535) (z : Int) (hz : 0 ≤ z ∧ z ≤ 65535) (A : Option Addr) (n c : Nat) (l : List UInt8) (hB : F.Bts w w.heap.size A n c l) (u : Int) (hu : 0 ≤ u ∧ u ≤ 65535) :
    Calls Tryz.prog 6 #[.int .u16 x, .int .u16 z, .slice A n c, .int .u16 u] w fun e w' => e = .returned (.bool true) ∧ Below w.heap.size w w' := by
  by_cases h0 : 300 < n
  · exact holes_no x z u A n c w h0
  · by_cases h1 : n = 0
    · exact holes_none x z u hx hz hu A n c l w hB h1
    · exact holes_some x z u hx hz hu A n c l w hB ⟨by omega, by omega⟩
end Go.Proofs.YtijbgdihnjnllaaGreat.V
