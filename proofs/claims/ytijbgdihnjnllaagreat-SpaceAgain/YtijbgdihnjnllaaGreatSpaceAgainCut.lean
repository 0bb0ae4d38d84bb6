/- The law SpaceAgain, walked. -/
import Derived.Test.YtijbgdihnjnllaaGreatVStep
namespace Go.Proofs.YtijbgdihnjnllaaGreat.V
open Go.RowKit
set_option linter.unusedVariables false
set_option maxRecDepth 20000
theorem xb_u : U.ok 200 1 0 = true := by decide
set_option maxHeartbeats 4000000 in
theorem again_no (x y : Int) (A : Option Addr) (n c : Nat) (w : World) (hn : n = 0 ∨ 250 < n) : Calls Tryz.prog 7 #[.int .u16 x, .slice A n c, .int .u8 y] w fun e w' => e = .returned (.bool true) ∧ Below w.heap.size w w' := by
  rcases hn with rfl | hn
  all_goals
    go_enter Tryz.func7, Tryz.ntmps7
    go_wp2_with fail
    refine (begin_any 200 w (by omega) (by omega)).mono ?_
    rintro e w1 ⟨d, p, q, O, s, rfl, h1⟩
    have H1 := Lib.hid h1
    clear h1
    go_wp2_with fail
    refine (awake_any w1).mono ?_
    rintro e w2 ⟨rfl, hb⟩
    have H2 := Lib.hid (H1.out.below hb)
    clear hb H1
    go_wp2_with fail
    refine (awake_any w2).mono ?_
    rintro e w3 ⟨rfl, hb⟩
    have H3 := Lib.hid (H2.out.below hb)
    clear hb H2
    go_wp2_with fail
    go_ret
    exact ⟨rfl, H3.out.ons.sit.bel⟩
set_option maxHeartbeats 8000000 in
theorem again_cut (x y : Int) (hx : 0 ≤ x ∧ x ≤ 65535) (hy : 0 ≤ y ∧ y ≤ 255) (A : Option Addr) (n c : Nat) (l : List UInt8) (w : World) (hB : F.Bts w w.heap.size A n c l) (h0 : 0 < n) (h1 : n ≤ 250) (k : Nat) (hk : y.tmod n = (k : Int)) (hk0 : 0 < k) (hkn : k < n) :
    Calls Tryz.prog 7 #[.int .u16 x, .slice A n c, .int .u8 y] w fun e w' => e = .returned (.bool true) ∧ Below w.heap.size w w' := by
  obtain ⟨a, ha, hea⟩ : ∃ a : Nat, a < 9000 ∧ x.tmod 9000 = (a : Int) := ⟨(x.tmod 9000).toNat, by rw [Int.tmod_eq_emod_of_nonneg (by omega)]; omega, by rw [Int.tmod_eq_emod_of_nonneg (by omega)]; omega⟩
  have HB := Lib.hid hB
  have hcap := hB.cap
  have hlim := hB.lim
  unfold maxLen at hlim
  clear hB
  have hn0 : ((n : Int) == 0) = false := by rw [beq_eq_false_iff_ne]; omega
  go_enter Tryz.func7, Tryz.ntmps7
  go_wp2_with fail
  refine (begin_any 200 w (by omega) (by omega)).mono ?_
  rintro e w1 ⟨d, p, q, O, s, rfl, h1⟩
  have H1 := Lib.hid h1
  have HS := Lib.hid (Xb_std (N := 200) (by omega) (by omega))
  clear h1
  go_wp2_with fail
  refine (awake_any w1).mono ?_
  rintro e w2 ⟨rfl, hb⟩
  have H2 := Lib.hid (H1.out.below hb)
  clear hb H1
  go_wp2_with fail
  refine (new_std (k := 1) H2.out HS.out xb_u (by omega) (.inl rfl)).mono ?_
  rintro e w3 ⟨rfl, h3, _⟩
  have H3 := Lib.hid h3
  clear h3 H2 hx hy hk hea hn0
  go_wp2_with fail
  refine (new_std3 H3.out HS.out xb_u (by omega)).mono ?_
  rintro e w4 ⟨rfl, h4, _⟩
  have H4 := Lib.hid h4
  have HT4 := Lib.hid (two_new (N := 200) (ep := 1) (g := 0) (by omega) HS.out (by omega))
  clear h4 H3 HS
  go_wp2_with fail
  refine (commit_view H4.out).mono ?_
  rintro e w5 ⟨rfl, O5, s5, X5, h5, hv5, _, _⟩
  have H5 := Lib.hid h5
  have HT5 : Hid (Two 2 3 200 (view X5 []) (YtijbgdihnjnllaaGreat.nn 1 1) (fun _ => 0) (fun _ => 0) (YtijbgdihnjnllaaGreat.nn 1 2) (fun _ => 0) (fun _ => 0)) := by rw [hv5]; exact HT4.out
  clear h5 hv5 H4 HT4
  have HW5 := Lib.hid (write_fresh (a := a) H5.out HT5.out (.inl ⟨rfl, rfl⟩) h0 (by omega) (by omega) (arg_bts H5.out HB.out) (arg_out H5.out) (by rw [nzn_zero]; omega))
  rw [show ((2 : Nat) : Int) = 2 from rfl] at HW5
  go_wp2_with fail
  refine HW5.out.mono ?_
  rintro e w6 ⟨rfl, m6, y6, f6, h6, ht6, hs6, hz6, _, _⟩
  have hs6 : y6.s = a + n := by rw [hs6]; show max 0 (a + n) = _; omega
  have HZ6 := Lib.hid hz6
  have HT6 := Lib.hid ht6
  have H6 := Lib.hid h6
  clear h6 ht6 hz6 HW5 HT5 H5
  go_wp2_with fail
  refine (commit_view H6.out).mono ?_
  rintro e w7 ⟨rfl, O7, s7, X7, h7, hv7, _, _⟩
  have H7 := Lib.hid h7
  have HT7 : Hid (Two 2 3 200 (view X7 []) y6 f6 (ovr (fun _ => 0) a l n) (YtijbgdihnjnllaaGreat.nn 1 2) (fun _ => 0) (fun _ => 0)) := by rw [hv7]; exact HT6.out
  clear h7 hv7 H6 HT6
  obtain ⟨fr, hfr⟩ : ∃ fr, 200 - 43 - (nzn f6 + nzn (fun _ => 0)) = fr := ⟨_, rfl⟩
  have HF7 := Lib.hid (HT7.out.free H7.out)
  rw [hfr] at HF7
  have HFR := Lib.hid hfr
  clear hfr
  go_wp2_with fail
  refine HF7.out.mono ?_
  rintro e w8 ⟨rfl, hb⟩
  have H8 := Lib.hid (H7.out.below hb)
  have hz6 : nzn f6 ≤ 9 := by have := nz_tx (k := 2) (a := a) (n := n) (by omega) h0 HZ6.out (by omega); rw [nzn_zero] at this; omega
  clear hb H7 HF7
  have HW8 := Lib.hid (write_fresh (a := a) H8.out HT7.out (.inl ⟨rfl, rfl⟩) h0 (by omega) (by omega) (arg_bts H8.out HB.out) (arg_out H8.out) (by rw [nzn_zero]; omega))
  rw [show ((2 : Nat) : Int) = 2 from rfl] at HW8
  clear HT7
  go_wp2_with fail
  refine HW8.out.mono ?_
  rintro e w9 ⟨rfl, m9, y9, f9, h9, ht9, hs9, hz9, _, _⟩
  rw [ovr_twice] at ht9
  have hs9 : y9.s = a + n := by rw [hs9, hs6]; omega
  have hz9 : ∀ i, f9 i ≠ 0 ↔ ∃ b, Tch a n b ∧ i ∈ path b := fun i => by rw [hz9 i, HZ6.out i]; exact ⟨fun h => h.elim (fun h => h.elim (fun h => absurd rfl h) id) id, .inr⟩
  have hzz : nzn f6 = nzn f9 := nzn_congr fun i _ => by rw [HZ6.out i, hz9 i]; exact ⟨fun h => h.elim (fun h => absurd rfl h) id, .inr⟩
  have HZ9 := Lib.hid hz9
  have HT9 := Lib.hid ht9
  have H9 := Lib.hid h9
  have HF9 := Lib.hid (ht9.free h9)
  rw [← hzz, HFR.out] at HF9
  have HZZ := Lib.hid hzz
  clear h9 ht9 hz9 HW8 H8 hs6 HZ6 hzz
  go_wp2_with fail
  refine HF9.out.mono ?_
  rintro e w10 ⟨rfl, hb⟩
  have H10 := Lib.hid (H9.out.below hb)
  clear hb H9 HF9
  have hfe : ((fr : Int) != (fr : Int)) = false := by simp
  go_wp2_with fail
  refine (commit_view H10.out).mono ?_
  rintro e w11 ⟨rfl, O11, s11, X11, h11, hv11, _, _⟩
  have H11 := Lib.hid h11
  have HT11 : Hid (Two 2 3 200 (view X11 []) y9 f9 (ovr (fun _ => 0) a l n) (YtijbgdihnjnllaaGreat.nn 1 2) (fun _ => 0) (fun _ => 0)) := by rw [hv11]; exact HT9.out
  clear h11 hv11 H10 HT9
  have hz9 : nzn f9 ≤ 9 := by rw [← HZZ.out]; exact hz6
  clear hz6
  have HW11 := Lib.hid (write_fresh (a := a) H11.out HT11.out.symm (.inr ⟨rfl, rfl⟩) hk0 (by omega) (by omega) (arg_bts H11.out (HB.out.head (s := k) (by omega))) (arg_out H11.out) (by rw [nzn_zero]; omega))
  rw [show ((3 : Nat) : Int) = 3 from rfl] at HW11
  clear HT11
  go_wp2_with fail
  refine HW11.out.mono ?_
  rintro e w12 ⟨rfl, m12, y12, f12, h12, ht12, hs12, hz12, _, _⟩
  have hs12 : y12.s = a + k := by rw [hs12]; show max 0 (a + k) = _; omega
  have HZ12 := Lib.hid hz12
  have HT12 := Lib.hid ht12
  have H12 := Lib.hid h12
  clear h12 ht12 hz12 HW11 H11
  go_wp2_with fail
  refine (commit_view H12.out).mono ?_
  rintro e w13 ⟨rfl, O13, s13, X13, h13, hv13, _, _⟩
  have H13 := Lib.hid h13
  have HT13 : Hid (Two 3 2 200 (view X13 []) y12 f12 (ovr (fun _ => 0) a (l.take k) k) y9 f9 (ovr (fun _ => 0) a l n)) := by rw [hv13]; exact HT12.out
  clear h13 hv13 H12 HT12
  have hz12 : nzn f12 ≤ 9 := by have := nz_tx (k := 2) (a := a) (n := k) (by omega) hk0 HZ12.out (by omega); rw [nzn_zero] at this; omega
  have HW13 := Lib.hid (write_fresh (a := a + k) H13.out HT13.out (.inr ⟨rfl, rfl⟩) (n := n - k) (by omega) (by omega) (by omega) (arg_bts H13.out (HB.out.tail (s := k) (by omega))) (arg_out H13.out) (by omega))
  rw [show ((3 : Nat) : Int) = 3 from rfl, if_neg (show ¬ c = k by omega)] at HW13
  clear HT13
  have hak : ((a + k : Nat) : Int) = (a : Int) + (k : Int) := by omega
  rw [hak] at HW13
  clear hak
  have hnk : ((n : Int) - (k : Int)).toNat = n - k := by omega
  go_wp2_with fail
  refine HW13.out.mono ?_
  rintro e w14 ⟨rfl, m14, y14, f14, h14, ht14, hs14, hz14, _, _⟩
  rw [ovr_parts _ _ _ (by omega)] at ht14
  have hs14 : y14.s = a + n := by rw [hs14, hs12]; omega
  have hzz : nzn f14 = nzn f9 := nzn_congr fun i _ => by
    rw [hz14 i, HZ12.out i, HZ9.out i]
    constructor
    · rintro ((h | ⟨b, hb, hi⟩) | ⟨b, hb, hi⟩)
      · exact absurd rfl h
      · exact ⟨b, (tch_parts hk0 hkn).2 (.inl hb), hi⟩
      · exact ⟨b, (tch_parts hk0 hkn).2 (.inr hb), hi⟩
    · rintro ⟨b, hb, hi⟩
      rcases (tch_parts hk0 hkn).1 hb with hb | hb
      · exact .inl (.inr ⟨b, hb, hi⟩)
      · exact .inr ⟨b, hb, hi⟩
  have HT14 := Lib.hid ht14
  have H14 := Lib.hid h14
  have HZ14 := Lib.hid hzz
  clear h14 ht14 hz14 HW13 H13 hs12 HZ12 HZ9 hzz
  go_wp2_with fail
  refine (commit_view H14.out).mono ?_
  rintro e w15 ⟨rfl, O15, s15, X15, h15, hv15, _, _⟩
  have H15 := Lib.hid h15
  have HT15 : Hid (Two 3 2 200 (view X15 []) y14 f14 (ovr (fun _ => 0) a l n) y9 f9 (ovr (fun _ => 0) a l n)) := by rw [hv15]; exact HT14.out
  clear h15 hv15 H14 HT14
  obtain ⟨t, ht⟩ : ∃ t, a + n = t := ⟨_, rfl⟩
  have HR15 := Lib.hid (read_fl (a := 0) (z := 9728) (s' := t) H15.out HT15.out.b (by omega) (by omega) (by omega))
  rw [show ((2 : Nat) : Int) = 2 from rfl, show ((0 : Nat) : Int) = 0 from rfl, show ((9728 : Nat) : Int) = 9728 from rfl] at HR15
  go_wp2_with fail
  refine HR15.out.mono ?_
  rintro e w16 ⟨A1, n1, c1, rfl, hb1, hbl⟩
  obtain rfl : n1 = t := by rw [← hb1.len, byt_len]
  have H16 := Lib.hid (H15.out.below hbl)
  have HB1 := Lib.hid hb1
  clear hb1 hbl HR15 H15
  have HR16 := Lib.hid (read_fl (a := 0) (z := 9728) (s' := n1) H16.out HT15.out.a (by omega) (by omega) (by omega))
  rw [show ((3 : Nat) : Int) = 3 from rfl, show ((0 : Nat) : Int) = 0 from rfl, show ((9728 : Nat) : Int) = 9728 from rfl] at HR16
  go_wp2_with fail
  refine HR16.out.mono ?_
  rintro e w17 ⟨A2, n2, c2, rfl, hb2, hbl⟩
  obtain rfl : n2 = n1 := by rw [← hb2.len, byt_len]
  have H17 := Lib.hid (H16.out.below hbl)
  have HB1' := Lib.hid (HB1.out.below hbl)
  have HB2 := Lib.hid hb2
  have hle := hbl.size
  clear hb2 hbl HR16 H16
  have HSE := Lib.hid (sectors_yes (HT15.out.b.open_ H17.out (by omega)) H17.out HT15.out.b.mid HT15.out.b.con)
  rw [show ((2 : Nat) : Int) = 2 from rfl] at HSE
  go_wp2_with fail
  refine HSE.out.mono ?_
  rintro e w18 ⟨A3, c3, L3, rfl, _, _, hpm, hbl⟩
  have hll : L3.length = nzn f9 := by rw [hpm.length_eq]; unfold nzl nzn; rw [List.length_map]
  rw [hll]
  have H18 := Lib.hid (H17.out.below hbl)
  have HB3 := Lib.hid (HB1'.out.below (hbl.mono hle))
  have HB4 := Lib.hid (HB2.out.below hbl)
  have HL := Lib.hid hbl
  clear hpm hbl hll HSE H17 HB1 HB1' HB2
  have HSE := Lib.hid (sectors_yes (HT15.out.a.open_ H18.out (by omega)) H18.out HT15.out.a.mid HT15.out.a.con)
  rw [show ((3 : Nat) : Int) = 3 from rfl] at HSE
  go_wp2_with fail
  refine HSE.out.mono ?_
  rintro e w19 ⟨A4, c4, L4, rfl, _, _, hpm, hbl⟩
  have hll : L4.length = nzn f9 := by rw [hpm.length_eq, ← HZ14.out]; unfold nzl nzn; rw [List.length_map]
  rw [hll]
  have hle2 := HL.out.size
  have hc1 := HB3.out.str w19 (fun p hp => (hbl.mono (by omega)).cell hp)
  have hc2 := HB4.out.str w19 (fun p hp => (hbl.mono (by omega)).cell hp)
  have HF := Lib.hid (HT15.out.free (H18.out.below hbl))
  have H19 := Lib.hid (H18.out.below hbl)
  rw [HZ14.out] at HF
  clear hpm hbl hll HSE H18 HB3 HB4 HL HT15 HZ14 HZZ
  generalize nzn f9 = z at *
  obtain ⟨fq, hfq⟩ : ∃ fq, 200 - 43 - (z + z) = fq := ⟨_, rfl⟩
  rw [hfq] at HF
  have e1 : ((n2 : Int) == (a : Int) + (n : Int)) = true := by rw [beq_iff_eq]; omega
  have e2 : ((fq : Int) == 157 - (z : Int) - (z : Int)) = true := by rw [beq_iff_eq]; omega
  have e3 : ((z : Int) == (z : Int)) = true := by simp
  clear ht hfq
  go_wp2_with fail
  refine HF.out.mono ?_
  rintro e w20 ⟨rfl, hb⟩
  have HB := Lib.hid (H19.out.below hb)
  clear hb
  go_wp2_with fail
  go_ret
  exact ⟨rfl, HB.out.ons.sit.bel⟩
end Go.Proofs.YtijbgdihnjnllaaGreat.V
