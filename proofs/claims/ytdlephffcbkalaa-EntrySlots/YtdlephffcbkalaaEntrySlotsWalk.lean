/- EntrySlots, walked. -/
import Derived.Test.YtdlephffcbkalaaAwake
import Derived.Test.YtdlephffcbkalaaMathB
namespace Go.Proofs.Ytdlephffcbkalaa.entrySlots
open Go.RowKit
set_option linter.unusedVariables false

theorem slots_gen {w w' : World} {b : List UInt8} {e : Ending} (h : SlotsP w (slots b) e w') : ∃ A n c l er, e = .returned (.tuple #[.slice A n c, .int .i64 er]) ∧ Rws w' w'.heap.size A n c l ∧ Below w.heap.size w w' ∧ ((slots b = none ∧ er = 2 ∧ n = 0) ∨ (slots b = some l ∧ er = 0)) := by
  cases hs : slots b with
  | none =>
    rw [hs] at h
    exact ⟨none, 0, 0, [], 2, h.1, Rws.nil_ _ _, h.2, .inl ⟨rfl, rfl, rfl⟩⟩
  | some l =>
    rw [hs] at h
    obtain ⟨v, h1, h2, h3⟩ := h
    obtain ⟨A, c, rfl, hR⟩ := h2.rws
    exact ⟨A, l.length, c, l, 0, h1, hR, h3, .inr ⟨rfl, rfl⟩⟩
theorem walk_long (w : World) (A : Option Addr) (n c : Nat) (hn : 3000 < n) (hc : n ≤ 9223372036854775807) : Calls Try.prog 4 #[.slice A n c] w fun e w' => e = .returned (.bool true) ∧ Below w.heap.size w w' := by
  have hn' : (3000 : Int) < (n : Int) := by omega
  go_enter Try.func4, Try.ntmps4
  go_wp2_with fail
  refine (awake_any _).mono ?_
  rintro e w2 ⟨rfl, hb2⟩
  have W2 := Lib.hid hb2
  clear hb2
  go_wp2_with fail
  go_ret
  exact ⟨rfl, W2.out⟩
set_option maxRecDepth 20000 in
set_option maxHeartbeats 4000000 in
theorem walk_short (w : World) (A : Option Addr) (n c : Nat) (b : List UInt8) (hB : Bts w w.heap.size A n c b) (hn : n ≤ 3000) :
    Calls Try.prog 4 #[.slice A n c] w fun e w' => e = .returned (.bool true) ∧ Below w.heap.size w w' := by
  have HSL := Lib.hid (slots_any hB (Nat.le_refl _) (by omega))
  have HB := Lib.hid hB
  have HBL : Hid (b.length = n) := hB.len
  have hcap := hB.cap
  have hlim := hB.lim
  unfold maxLen at hlim
  have hn' : ¬ (3000 : Int) < (n : Int) := by omega
  obtain ⟨d, hd⟩ : ∃ d : Bool, decide (n % 32 = 0) = d := ⟨_, rfl⟩
  have HDD := Lib.hid hd
  have hrem : ((n : Int) % 32 == 0) = d := by
    rw [← hd, Bool.eq_iff_iff]
    simp
    omega
  clear hd hB
  go_enter Try.func4, Try.ntmps4
  go_wp2_with fail
  refine HSL.out.mono ?_
  intro e w1 h1
  obtain ⟨A1, n1, c1, l1, er, rfl, hR1, hb1, hcase⟩ := slots_gen h1
  have HR1 := Lib.hid hR1
  have W1 := Lib.hid hb1
  have HC := Lib.hid hcase
  have hlim1 := hR1.lim
  have hcap1 := hR1.cap
  unfold maxLen at hlim1
  clear h1 hR1 hb1 hcase HSL
  go_wp2_with fail
  go_loopw [5, 6, 7] (fun t u i wr => ∃ k : Nat, ∃ q : Bool, ∃ v : Value, 32 * k ≤ n ∧ i = .int .i64 ((32 * k : Nat) : Int) ∧ t = .bool q ∧ u = v ∧ Hid (q = (d && gd b k)) ∧ Hid (OwnR wr w1.heap.size v (rws b k)) ∧ Hid (Below w1.heap.size w1 wr)) (fun _ _ i _ => n + 32 - (intOf i).toNat)
  case atStart =>
    refine ⟨0, d, _, by omega, rfl, rfl, rfl, by simp [Hid, gd], ?_, box_below _ _⟩
    exact World.ownsRow_made (e := 23) (size := 2) (base := w1.heap.size) w1 #[] 0 (Nat.le_refl _) (by decide) (by rfl)
  case round =>
    obtain ⟨k, q, v, hkn, rfl, rfl, hu, HG, HO, HW⟩ := hrel
    obtain rfl := hu.symm
    clear hrem
    have HQ2 : Hid (((32 * (k + 1) : Nat) : Int) = ((32 * k : Nat) : Int) + 32) := by show _ = _; omega
    have hk93 : k ≤ 93 := by omega
    by_cases hle : 32 * k + 32 ≤ n
    · cases q with
      | true =>
        obtain ⟨bb, off, rfl, hbb, hcell⟩ := HB.out.at_ (by omega)
        have hBw := HB.out.below (W1.out.trans (HW.out.mono W1.out.size))
        have hsub := hBw.sub (s := 32 * k) (m := 32) hle
        have hDc := dec_any hsub (Nat.le_trans W1.out.size HW.out.size)
        have hDc : Calls Try.prog 12 #[.slice (some ⟨bb, off + 32 * k, none⟩) 32 (c - 32 * k)] wr (DecP wr (dec (prt b k))) := hDc
        have HM : Hid (n + 32 - (32 * k + 32) < n + 32 - 32 * k) := by show _ < _; omega
        clear hsub hBw hcell
        obtain ⟨Q, hQ⟩ : ∃ Q, 32 * k = Q := ⟨_, rfl⟩
        rw [hQ] at hle hkn HQ2 hDc HM
        rw [hQ]
        have fl1 : (Q : Int) + 32 ≤ (n : Int) := by omega
        have fl2 : (Q : Int) + 32 ≤ (c : Int) := by omega
        have fl3 : ((Q : Int) + 32).toNat - Q = 32 := by omega
        have fl4 : ¬ c = Q := by omega
        have fl5 : (Q : Int) ≤ (Q : Int) + 32 := by omega
        have HQK := Lib.hid hQ
        clear hQ
        cases hdec : dec (prt b k) with
        | none =>
          have HD := Lib.hid hDc
          rw [hdec] at HD
          go_wp2_with fail
          refine HD.out.mono ?_
          intro e w4 hd4
          obtain ⟨rfl, hb4⟩ := decP_none hd4
          obtain ⟨y1, y2, y3⟩ := box1 w4 (Obj.cells #[.string (bs []), .int .i64 0] 23)
          have hV := hb4.trans (y2.mono hb4.size)
          have d0 : (w4.alloc (Obj.cells #[.string (bs []), .int .i64 0] 23)).cell? ⟨w4.heap.size, 0, none⟩ = some (.string (bs [])) := cell_in y1 0
          have d1 : (w4.alloc (Obj.cells #[.string (bs []), .int .i64 0] 23)).cell? ⟨w4.heap.size, 1, none⟩ = some (.int .i64 0) := cell_in y1 1
          clear hd4 hb4 y2 y3 HD hDc
          go_upto_region 10 with fail
          have X1 := Lib.hid y1
          clear y1
          generalize w4.alloc (Obj.cells #[.string (bs []), .int .i64 0] 23) = V at *
          obtain ⟨v', w', hrun, ho4, hb4, _⟩ := appR_run ([], 0) (HO.out.below hV) (by rw [rws_len]; omega) (Nat.le_trans HW.out.size hV.size)
          have ho5 : OwnR w' w1.heap.size v' (rws b (k + 1)) := by rw [rws_succ, hdec]; exact ho4
          have HO5 := Lib.hid ho5
          have HW5 := Lib.hid ((HW.out.trans (hV.mono HW.out.size)).trans hb4)
          have HG5 : Hid (false = (d && gd b (k + 1))) := by show _ = _; rw [gd_succ, hdec]; simp
          dsimp only at hrun
          have HRUN := Lib.hid hrun
          clear hrun ho4 ho5 hb4 hV hdec
          go_wp2_with (first | (at_builtin; refine Lib.wpList_append_run _ rfl _ _ _ _ rfl _ _ rfl rfl _ _ HRUN.out ?_) | (refine wpList_load_row rfl 23 _ rfl w4.heap.size rfl _ _ _ X1.out _ Try.underlying23 rfl s23 ?_))
          go_roundw
          case rel => exact ⟨k + 1, false, v', by have := HQK.out; omega, by rw [HQ2.out], rfl, rfl, HG5, HO5, HW5⟩
          case measure => simp only [intOf]; omega
        | some rr =>
          obtain ⟨a, x⟩ := rr
          have HD := Lib.hid hDc
          rw [hdec] at HD
          go_wp2_with fail
          refine HD.out.mono ?_
          intro e w4 hd4
          obtain ⟨rfl, hb4⟩ := decP_some hd4
          obtain ⟨y1, y2, y3⟩ := box1 w4 (Obj.cells #[.string (bs a), .int .i64 x] 23)
          have hV := hb4.trans (y2.mono hb4.size)
          have d0 : (w4.alloc (Obj.cells #[.string (bs a), .int .i64 x] 23)).cell? ⟨w4.heap.size, 0, none⟩ = some (.string (bs a)) := cell_in y1 0
          have d1 : (w4.alloc (Obj.cells #[.string (bs a), .int .i64 x] 23)).cell? ⟨w4.heap.size, 1, none⟩ = some (.int .i64 x) := cell_in y1 1
          dsimp only
          clear hd4 hb4 y2 y3 HD hDc
          go_upto_region 10 with fail
          have X1 := Lib.hid y1
          clear y1
          generalize w4.alloc (Obj.cells #[.string (bs a), .int .i64 x] 23) = V at *
          obtain ⟨A3, c3, hv, hR3⟩ := (HO.out.below hV).rws
          subst hv
          cases hfd : find (rws b k) a with
          | none =>
            obtain ⟨v', w', hrun, ho4, hb4, _⟩ := appR_run (a, x) (HO.out.below hV) (by rw [rws_len]; omega) (Nat.le_trans HW.out.size hV.size)
            have ho5 : OwnR w' w1.heap.size v' (rws b (k + 1)) := by rw [rws_succ, hdec]; exact ho4
            have HO5 := Lib.hid ho5
            have HW5 := Lib.hid ((HW.out.trans (hV.mono HW.out.size)).trans hb4)
            have HG5 : Hid (true = (d && gd b (k + 1))) := by show _ = _; have hg := HG.out; rw [eq_comm, Bool.and_eq_true] at hg; rw [gd_succ, hdec, hg.1, hg.2]; simp [hfd]
            dsimp only at hrun
            have HRUN := Lib.hid hrun
            have HF : Hid (Calls Try.prog 15 #[.slice A3 (rws b k).length c3, .string (bs a)] V fun e w' => e = .returned (.int .i64 (-1)) ∧ V = w') := by
              have h := refFind_any a hR3
              rw [hfd] at h
              exact h
            clear hrun ho4 ho5 hb4 hV hdec hfd hR3
            go_wp2_with fail
            refine HF.out.mono ?_
            rintro e w5 ⟨rfl, rfl⟩
            go_wp2_with (first | (at_builtin; refine Lib.wpList_append_run _ rfl _ _ _ _ rfl _ _ rfl rfl _ _ HRUN.out ?_) | (refine wpList_load_row rfl 23 _ rfl w4.heap.size rfl _ _ _ X1.out _ Try.underlying23 rfl s23 ?_))
            go_roundw
            case rel => exact ⟨k + 1, true, v', by have := HQK.out; omega, by rw [HQ2.out], rfl, rfl, HG5, HO5, HW5⟩
            case measure => simp only [intOf]; omega
          | some jj =>
            obtain ⟨v', w', hrun, ho4, hb4, _⟩ := appR_run (a, x) (HO.out.below hV) (by rw [rws_len]; omega) (Nat.le_trans HW.out.size hV.size)
            have ho5 : OwnR w' w1.heap.size v' (rws b (k + 1)) := by rw [rws_succ, hdec]; exact ho4
            have HO5 := Lib.hid ho5
            have HW5 := Lib.hid ((HW.out.trans (hV.mono HW.out.size)).trans hb4)
            have HG5 : Hid (false = (d && gd b (k + 1))) := by show _ = _; rw [gd_succ, hdec]; simp [hfd]
            dsimp only at hrun
            have HRUN := Lib.hid hrun
            have HF : Hid (Calls Try.prog 15 #[.slice A3 (rws b k).length c3, .string (bs a)] V fun e w' => e = .returned (.int .i64 (jj : Nat)) ∧ V = w') := by
              have h := refFind_any a hR3
              rw [hfd] at h
              exact h
            have hjj : ¬ ((jj : Nat) : Int) < 0 := by omega
            clear hrun ho4 ho5 hb4 hV hdec hfd hR3
            go_wp2_with fail
            refine HF.out.mono ?_
            rintro e w5 ⟨rfl, rfl⟩
            go_wp2_with (first | (at_builtin; refine Lib.wpList_append_run _ rfl _ _ _ _ rfl _ _ rfl rfl _ _ HRUN.out ?_) | (refine wpList_load_row rfl 23 _ rfl w4.heap.size rfl _ _ _ X1.out _ Try.underlying23 rfl s23 ?_))
            go_roundw
            case rel => exact ⟨k + 1, false, v', by have := HQK.out; omega, by rw [HQ2.out], rfl, rfl, HG5, HO5, HW5⟩
            case measure => simp only [intOf]; omega
      | false =>
        have fl1 : ((32 * k : Nat) : Int) + 32 ≤ (n : Int) := by omega
        rcases HC.out with ⟨_, he2, hn0⟩ | ⟨hsome, _⟩
        · subst he2 hn0
          have W2 := Lib.hid (W1.out.trans (HW.out.mono W1.out.size))
          go_wp2_with fail
          refine (awake_any _).mono ?_
          rintro e w8 ⟨rfl, hb8⟩
          have W8 := Lib.hid (W2.out.trans (hb8.mono W2.out.size))
          clear hb8 W2
          go_wp2_with fail
          go_ret
          exact ⟨rfl, W8.out⟩
        · exfalso
          obtain ⟨g1, _, g2, g3⟩ := slots_gd hsome
          have h1 := HG.out
          rw [gd_mono g1 (k := k) (by have := HBL.out; omega), ← HDD.out, decide_eq_true (by rw [← HBL.out]; exact g2)] at h1
          cases h1
    · have fl1 : ¬ (((32 * k : Nat) : Int) + 32 ≤ (n : Int)) := by omega
      cases q with
      | false =>
        rcases HC.out with ⟨_, he2, hn0⟩ | ⟨hsome, _⟩
        · subst he2 hn0
          have W2 := Lib.hid (W1.out.trans (HW.out.mono W1.out.size))
          go_wp2_with fail
          refine (awake_any _).mono ?_
          rintro e w8 ⟨rfl, hb8⟩
          have W8 := Lib.hid (W2.out.trans (hb8.mono W2.out.size))
          clear hb8 W2
          go_wp2_with fail
          go_ret
          exact ⟨rfl, W8.out⟩
        · exfalso
          obtain ⟨g1, _, g2, g3⟩ := slots_gd hsome
          have h1 := HG.out
          rw [gd_mono g1 (k := k) (by have := HBL.out; omega), ← HDD.out, decide_eq_true (by rw [← HBL.out]; exact g2)] at h1
          cases h1
      | true =>
        have hg := HG.out
        rw [eq_comm, Bool.and_eq_true] at hg
        have hd0 : n % 32 = 0 := by
          have := HDD.out
          rw [hg.1] at this
          simpa using this
        have hnk : b.length = 32 * k := by rw [HBL.out]; omega
        have hsl := gd_slots hg.2 hnk
        rcases HC.out with ⟨hnone, _⟩ | ⟨hsome, he0⟩
        · exfalso
          rw [hsl] at hnone
          cases hnone
        · subst he0
          rw [hsl] at hsome
          obtain ⟨A2, c2, hv, hR2⟩ := HO.out.rws
          subst hv
          have hlim2 := hR2.lim
          have hcap2 := hR2.cap
          unfold maxLen at hlim2
          have HR2 := Lib.hid hR2
          have HEQ : Hid (l1 = rws b k) := by cases hsome; rfl
          have HR3 := Lib.hid (HR1.out.below HW.out)
          have W2 := Lib.hid (W1.out.trans (HW.out.mono W1.out.size))
          have hz3 := HW.out.size
          clear hsome hsl hnk hd0 hg hR2
          generalize (rws b k).length = m2 at *
          go_wp2_with fail
          refine (awake_any _).mono ?_
          rintro e w8 ⟨rfl, hb8⟩
          have HR4 := Lib.hid (HR3.out.below (hb8.mono hz3))
          have HR5 := Lib.hid (HR2.out.below hb8)
          have W8 := Lib.hid (W2.out.trans (hb8.mono W2.out.size))
          have hz8 := hb8.size
          clear hb8 W2 HR2 HR3
          go_wp2_with fail
          refine (rows_any HR4.out HR5.out (by omega) (by omega)).mono ?_
          rw [decide_eq_true HEQ.out]
          rintro e w9 ⟨rfl, hb9⟩
          have W9 := Lib.hid (W8.out.trans (hb9.mono W8.out.size))
          clear hb9 W8
          go_wp2_with fail
          go_ret
          exact ⟨rfl, W9.out⟩
theorem walk (w : World) (A : Option Addr) (n c : Nat) (b : List UInt8) (hB : Bts w w.heap.size A n c b) :
    Calls Try.prog 4 #[.slice A n c] w fun e w' => e = .returned (.bool true) ∧ Below w.heap.size w w' := by
  by_cases h : n ≤ 3000
  · exact walk_short w A n c b hB h
  · exact walk_long w A n c (by omega) (by have := hB.cap; have h2 := hB.lim; unfold maxLen at h2; omega)
end Go.Proofs.Ytdlephffcbkalaa.entrySlots
