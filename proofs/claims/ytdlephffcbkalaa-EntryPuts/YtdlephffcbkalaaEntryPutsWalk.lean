/- EntryPuts, walked. -/
import Derived.Test.YtdlephffcbkalaaPuts
namespace Go.Proofs.Ytdlephffcbkalaa.entryPuts
open Go.RowKit
set_option linter.unusedVariables false

theorem own_nil {w : World} {base m c : Nat} {A : Option Addr} {l : List Rw} (h : OwnR w base (.slice A m c) l) : A = none → c = 0 := by
  intro hA
  rcases h.2 with ⟨e, hz⟩ | ⟨g', cap', cur, e, _⟩
  · injection e
  · injection e with e1
    rw [hA] at e1
    cases e1
theorem slots_gen {w w' : World} {b : List UInt8} {e : Ending} (h : SlotsP w (slots b) e w') : ∃ A n c l er, e = .returned (.tuple #[.slice A n c, .int .i64 er]) ∧ Rws w' w'.heap.size A n c l ∧ (A = none → c = 0) ∧ Below w.heap.size w w' ∧ (er = 2 ∨ (slots b = some l ∧ er = 0)) := by
  cases hs : slots b with
  | none =>
    rw [hs] at h
    exact ⟨none, 0, 0, [], 2, h.1, Rws.nil_ _ _, fun _ => rfl, h.2, .inl rfl⟩
  | some l =>
    rw [hs] at h
    obtain ⟨v, h1, h2, h3⟩ := h
    obtain ⟨A, c, rfl, hR⟩ := h2.rws
    exact ⟨A, l.length, c, l, 0, h1, hR, own_nil h2, h3, .inr ⟨rfl, rfl⟩⟩
set_option maxRecDepth 20000 in
set_option maxHeartbeats 4000000 in
theorem walk (w : World) (A : Option Addr) (n c : Nat) (b : List UInt8) (hB : Bts w w.heap.size A n c b) (hn : n ≤ 140737488355328) (s : List UInt8) (y : UInt8) :
    Calls Try.prog 7 #[.slice A n c, .string (bs s), .int .u8 (y.toNat : Int)] w fun e w' => e = .returned (.bool true) ∧ Below w.heap.size w w' := by
  have HSL := Lib.hid (slots_any hB (Nat.le_refl _) hn)
  have HBL : Hid (b.length = n) := hB.len
  clear hB
  have hy := y.toNat_lt
  go_enter Try.func7, Try.ntmps7
  go_wp2_with fail
  refine HSL.out.mono ?_
  intro e w1 h1
  obtain ⟨A1, n1, c1, l, er, rfl, hR1, hA1, hb1, hcase⟩ := slots_gen h1
  have HR1 := Lib.hid hR1
  have HA1 := Lib.hid hA1
  have W1 := Lib.hid hb1
  have HC := Lib.hid hcase
  have hlim1 := hR1.lim
  have hcap1 := hR1.cap
  unfold maxLen at hlim1
  clear h1 hR1 hA1 hb1 hcase HSL
  go_wp2_with fail
  generalize (1 + (y.toNat : Int) % 31) = x at *
  obtain ⟨x1, x2, x3⟩ := box1 w1 (Obj.cells #[.string (bs s), .int .i64 x] 23)
  have X1 := Lib.hid x1
  have HR2 := Lib.hid (HR1.out.below x2)
  have W2 := Lib.hid (W1.out.trans (x2.mono W1.out.size))
  have W7w : Hid (w.heap.size ≤ w1.heap.size) := W1.out.size
  have hlt2 : w1.heap.size < (w1.alloc (Obj.cells #[.string (bs s), .int .i64 x] 23)).heap.size := by rw [x3]; omega
  clear x1 x2 x3 HR1 W1
  generalize w1.alloc (Obj.cells #[.string (bs s), .int .i64 x] 23) = V at *
  have HFI := Lib.hid (find_any s HR2.out (Nat.le_of_lt hlt2))
  obtain ⟨o, ho⟩ : ∃ o, find l s = o := ⟨_, rfl⟩
  rw [ho] at HFI
  have HFO := Lib.hid ho
  clear ho
  refine HFI.out.mono ?_
  rintro e w3 ⟨rfl, hb3⟩
  have HR3 := Lib.hid (HR2.out.below (hb3.mono (Nat.le_of_lt hlt2)))
  have X3 := Lib.hid ((hb3.block _ hlt2).trans X1.out)
  have W3 := Lib.hid (W2.out.trans (hb3.mono W2.out.size))
  have hlt3 := Nat.lt_of_lt_of_le hlt2 hb3.size
  clear hb3 HR2 X1 W2 HFI hlt2
  generalize (o.getD 0 : Nat) = oi at *
  obtain ⟨ob, hob⟩ : ∃ ob, o.isSome = ob := ⟨_, rfl⟩
  rw [hob]
  have HOB := Lib.hid hob
  clear hob
  go_wp2_with fail
  refine (awake_any _).mono ?_
  rintro e w4 ⟨rfl, hb4⟩
  have HR4 := Lib.hid (HR3.out.below (hb4.mono (Nat.le_of_lt hlt3)))
  have X4 := Lib.hid ((hb4.block _ hlt3).trans X3.out)
  have W4 := Lib.hid (W3.out.trans (hb4.mono W3.out.size))
  have hlt4 := Nat.lt_of_lt_of_le hlt3 hb4.size
  have hz4 := Nat.le_of_lt hlt4
  clear hb4 HR3 X3 W3 hlt3
  rcases HC.out with rfl | ⟨hss, rfl⟩
  · go_wp2_with fail
    refine (awake_any _).mono ?_
    rintro e w9 ⟨rfl, hb9⟩
    have W9 := Lib.hid (W4.out.trans (hb9.mono W4.out.size))
    clear hb9
    go_wp2_with fail
    go_ret
    exact ⟨rfl, W9.out⟩
  · have HSS := Lib.hid hss
    clear hss HC
    cases ob with
    | true =>
      go_wp2_with fail
      refine (awake_any _).mono ?_
      rintro e w9 ⟨rfl, hb9⟩
      have W9 := Lib.hid (W4.out.trans (hb9.mono W4.out.size))
      clear hb9
      go_wp2_with fail
      go_ret
      exact ⟨rfl, W9.out⟩
    | false =>
      have HFN : Hid (find l s = none) := by
        show _ = _
        rw [HFO.out]
        have := HOB.out
        cases o with
        | none => rfl
        | some k => cases this
      clear HFO HOB
      have k0 : w4.cell? ⟨w1.heap.size, 0, none⟩ = some (.string (bs s)) := cell_in X4.out 0
      have k1 : w4.cell? ⟨w1.heap.size, 1, none⟩ = some (.int .i64 x) := cell_in X4.out 1
      cases hsd : sound (s, x) with
      | false =>
        have HSD := Lib.hid hsd
        clear hsd
        go_wp2_with fail
        refine (sound_any s x _).mono ?_
        rw [HSD.out]
        rintro e w5 ⟨rfl, hb5⟩
        have W5 := Lib.hid (W4.out.trans (hb5.mono W4.out.size))
        clear hb5
        go_wp2_with fail
        refine (awake_any _).mono ?_
        rintro e w9 ⟨rfl, hb9⟩
        have W9 := Lib.hid (W5.out.trans (hb9.mono W5.out.size))
        clear hb9
        go_wp2_with fail
        go_ret
        exact ⟨rfl, W9.out⟩
      | true =>
        have HSD := Lib.hid hsd
        clear hsd
        go_wp2_with fail
        have HSOM := HSS.out
        obtain ⟨hgd, hlr, hmod, hlen⟩ := slots_gd HSOM
        have hnd : (nms l).Nodup := (slots_some HSOM).2.1
        have hll : l.length ≤ 4398046511104 := by
          rw [hlr, rws_len]
          have := HBL.out
          omega
        have HNE : Hid (s ≠ []) := name_ne (sound_iff.1 HSD.out).1
        have HNI : Hid (s ∉ nms l) := find_none.1 HFN.out
        have HPF : Hid (find (puts l (s, x)) s = some (place l)) := find_puts (r := (s, x)) HNE.out HNI.out
        have HND : Hid ((nms (puts l (s, x))).Nodup) := by
          show List.Nodup _
          rw [(perm_puts (r := (s, x)) HNE.out).nodup_iff, List.nodup_append]
          refine ⟨hnd, by simp, fun a ha c hc => ?_⟩
          rw [List.mem_singleton] at hc
          subst hc
          exact fun e => HNI.out (e ▸ ha)
        have HPL : Hid (place l ≤ l.length) := place_le l
        have HL1 : Hid (l.length = n1) := HR4.out.len
        have HPU : Hid (puts l (s, x) = if place l < l.length then l.set (place l) (s, x) else l ++ [(s, x)]) := rfl
        have hn1 : n1 ≤ 4398046511104 := by rw [← HL1.out]; exact hll
        clear hgd hlr hmod hlen hnd hll HSOM
        refine (sound_any s x _).mono ?_
        rw [HSD.out]
        rintro e w5 ⟨rfl, hb5⟩
        have HR5 := Lib.hid (HR4.out.below (hb5.mono hz4))
        have X5 := Lib.hid ((hb5.block _ hlt4).trans X4.out)
        have W5 := Lib.hid (W4.out.trans (hb5.mono W4.out.size))
        have hz5 := Nat.le_trans hz4 hb5.size
        have hlt5 := Nat.lt_of_lt_of_le hlt4 hb5.size
        clear hb5 HR4 X4 W4
        go_wp2_with fail
        refine (place_any HR5.out hz5).mono ?_
        obtain ⟨p, hp⟩ : ∃ p, place l = p := ⟨_, rfl⟩
        rw [hp] at HPF HPL HPU
        rw [hp]
        clear hp
        rintro e w6 ⟨rfl, hb6⟩
        have HR6 := Lib.hid (HR5.out.below (hb6.mono hz5))
        have X6 := Lib.hid ((hb6.block _ hlt5).trans X5.out)
        have W6 := Lib.hid (W5.out.trans (hb6.mono W5.out.size))
        have hz6 := Nat.le_trans hz5 hb6.size
        have hlt6 := Nat.lt_of_lt_of_le hlt5 hb6.size
        clear hb6 HR5 X5 W5
        obtain ⟨z1, z2, z3⟩ := box1 w6 (Obj.cells #[] 23)
        obtain ⟨v7, w7, hr7, ho7, hg7⟩ := appR2_run z1 (Nat.le_refl _) (HR6.out.below (z2.mono hz6)) HA1.out (by rw [HL1.out]; omega) z2.size
        have hb7 : Below w6.heap.size w6 w7 := z2.grown hg7 (by rw [z3]; omega) fun j hj => by cases hj; exact Nat.le_refl _
        obtain ⟨A7, c7, hv7, hR7⟩ := ho7.rws
        rw [HL1.out] at hv7 hR7
        subst hv7
        have hlim7 := hR7.lim
        have hcap7 := hR7.cap
        unfold maxLen at hlim7
        have HRUN7 := Lib.hid hr7
        have HO7 := Lib.hid ho7
        have HR7 := Lib.hid (HR6.out.below (hb7.mono hz6))
        have X7 := Lib.hid ((hb7.block _ hlt6).trans X6.out)
        have W7 := Lib.hid (W6.out.trans (hb7.mono W6.out.size))
        have hz7 := Nat.le_trans hz6 hb7.size
        have hlt7 := Nat.lt_of_lt_of_le hlt6 hb7.size
        have hz67 := hb7.size
        have hpn1 : p ≤ n1 := by have := HPL.out; rw [HL1.out] at this; exact this
        clear hr7 ho7 hg7 hb7 hR7 z1 z2 z3 HR6 X6 W6
        go_upto_region 8 with (at_builtin; refine Lib.wpList_append_run _ rfl _ _ _ _ rfl _ _ rfl rfl _ _ HRUN7.out ?_)
        clear HRUN7
        by_cases hpl : p < n1
        · have hpl' : (p : Int) < (n1 : Int) := by omega
          obtain ⟨g, hA7, hg6, hg7⟩ := own_slice HO7.out (by rw [HL1.out]; omega)
          subst hA7
          obtain ⟨hth, hset⟩ := own_setR HO7.out (j := p) (by rw [HL1.out]; exact hpl) (s, x)
          have HTH := Lib.hid hth
          have hq : puts l (s, x) = l.set p (s, x) := by rw [HPU.out, if_pos (by rw [HL1.out]; exact hpl)]
          rw [← hq] at hset
          have hbs : Below w6.heap.size w7 (w7.setCells g (p * 2) (rc (s, x))) := below_mid hg6 _ _ (Below.refl _ _)
          obtain ⟨Am', cm', ev, hRm⟩ := hset.rws
          have hlm : (puts l (s, x)).length = n1 := by rw [hq, List.length_set, HL1.out]
          rw [hlm] at ev hRm
          injection ev with ev1 ev2 ev3
          subst ev1 ev3
          have HM := Lib.hid hRm
          have HRK := Lib.hid (HR7.out.below (hbs.mono hz6))
          have WK := Lib.hid (W7.out.trans (hbs.mono (Nat.le_trans W7w.out hz6)))
          have hzK : w1.heap.size ≤ (w7.setCells g (p * 2) (rc (s, x))).heap.size := Nat.le_trans hz7 hbs.size
          clear hth hset hq hbs hRm hlm HO7 HR7
          go_upto_region 11 with (first | (refine wpList_load_row rfl 23 _ rfl w1.heap.size rfl _ _ _ X7.out _ Try.underlying23 rfl s23 ?_) | (refine wpList_store_mid rfl 23 _ _ rfl g (p * 2) #[.string (bs s), .int .i64 x] rfl rfl HTH.out s23 (all_oneCell_toArray (rc_one (s, x))) ?_) | fail)
          have hrc : rc (s, x) = [Value.string (bs s), Value.int .i64 x] := rfl
          rw [hrc] at HM HRK WK hzK
          generalize w7.setCells g (p * 2) [Value.string (bs s), Value.int .i64 x] = wK at *
          generalize hAm : (some ⟨g, 0, none⟩ : Option Addr) = Am at *
          clear hAm hrc
          have HFM : Hid (Calls Try.prog 17 #[.slice Am n1 c7, .string (bs s)] wK (FindP wK (some p))) := by
            show Calls _ _ _ _ _
            rw [← HPF.out]
            exact find_any s HM.out (Nat.le_refl _)
          go_wp2_with fail
          refine HFM.out.mono ?_
          rintro e wA ⟨rfl, hbA⟩
          have HMA := Lib.hid (HM.out.below hbA)
          have HRA := Lib.hid (HRK.out.below (hbA.mono hzK))
          have WA := Lib.hid (WK.out.trans (hbA.mono WK.out.size))
          have hzA := hbA.size
          clear hbA HM HRK WK HFM
          go_wp2_with fail
          refine (names_any HMA.out hzA (by omega)).mono ?_
          rintro e wB ⟨vB, rfl, hoB, hbB⟩
          obtain ⟨AB, cB, rfl, hSB⟩ := hoB.strs
          have hlimB := hSB.lim
          have hcapB := hSB.cap
          unfold maxLen at hlimB
          have HSB := Lib.hid hSB
          have HRB := Lib.hid (HRA.out.below (hbB.mono (Nat.le_trans hzK hzA)))
          have WB := Lib.hid (WA.out.trans (hbB.mono WA.out.size))
          have hzB := hbB.size
          have HNL : Hid ((srt (nms (puts l (s, x)))).length = (srt (nms l)).length + 1) := by
            show _ = _
            rw [srt_len, srt_len, (perm_puts HNE.out).length_eq, List.length_append]
            rfl
          have HPR : ∀ t : Nat, t + 1 < (srt (nms (puts l (s, x)))).length → Hid (¬ ((srt (nms (puts l (s, x))))[t + 1]?.getD []) ≤ ((srt (nms (puts l (s, x))))[t]?.getD [])) := fun t ht => srt_pair HND.out (k := t + 1) (by omega) ht
          clear hoB hbB hSB HMA HRA WA
          generalize hL : srt (nms (puts l (s, x))) = L at *
          have HSLEN := Lib.hid HSB.out.len
          generalize hN : L.length = N at *
          clear hL
          go_wp2_with fail
          go_loopw [17] (fun i wr => ∃ k : Nat, (k ≤ N ∨ k = 1) ∧ 1 ≤ k ∧ i = .int .i64 k ∧ Hid (Below wB.heap.size wB wr)) (fun i _ => N + 1 - (intOf i).toNat)
          case atStart => exact ⟨1, .inr rfl, Nat.le_refl _, rfl, Below.refl _ _⟩
          case round =>
            obtain ⟨k, hk, hk1', rfl, HW⟩ := hrel
            by_cases hlt : k < N
            · have hlt' : (k : Int) < (N : Int) := by omega
              obtain ⟨t, hkt⟩ : ∃ t, k = t + 1 := ⟨k - 1, by omega⟩
              have HKT := Lib.hid hkt
              obtain ⟨g1, o1, hA1', _, hk1⟩ := (HSB.out.below HW.out).cell (k := k) hlt
              obtain ⟨g2, o2, hA2', _, hk2⟩ := (HSB.out.below HW.out).cell (k := t) (by omega)
              subst hA1'
              cases hA2'
              have HNLE := HPR t (by omega)
              rw [← hkt] at HNLE
              generalize L[k]?.getD [] = u1 at *
              generalize L[t]?.getD [] = u2 at *
              have q1 := less_no (a := u1) (b := u2) (fun h => HNLE.out (Std.le_of_lt h))
              have q2 : ((bs u1).toList == (bs u2).toList) = false := by rw [bs_two]; simp; intro e; exact HNLE.out (by rw [e]; exact List.le_refl _)
              have q2' : ¬ (bs u1).toList = (bs u2).toList := by rw [bs_list, bs_list]; intro e; exact HNLE.out (by rw [e]; exact List.le_refl _)
              have q3 : (0 : Int) ≤ (k : Int) := by omega
              have q5 : IntKind.i64.wrap ((k : Int) - 1) = (t : Int) := by rw [IntKind.wrap_i64]; omega
              have q6 : (t : Int) < (N : Int) := by omega
              have q7 : (0 : Int) ≤ (t : Int) := by omega
              clear hkt
              go_wp2_with fail
              go_region_held3 (fun V => V.cell? ⟨g1, o1 + k, none⟩ = some (.string (bs u1)) ∧ V.cell? ⟨g1, o1 + t, none⟩ = some (.string (bs u2))) (exact ⟨hk1, hk2⟩) (fail)
              go_wp2_with fail
              go_roundw
              case rel => exact ⟨k + 1, .inl (by omega), by omega, by go_num, HW.out.drew⟩
              case measure => simp [intOf]; omega
            · have hlt' : ¬ (k : Int) < (N : Int) := by omega
              have HRC := Lib.hid (HRB.out.below (HW.out.mono (Nat.le_trans (Nat.le_trans hzK hzA) hzB)))
              have WC := Lib.hid (WB.out.trans (HW.out.mono WB.out.size))
              have hzC := HW.out.size
              have hpp : ((p : Int) == (p : Int)) = true := by simp
              have hpn : (p : Int) ≤ (n1 : Int) := by omega
              clear HW HSB HRB WB
              go_wp2_with fail
              refine (names_any HRC.out (by omega) (by omega)).mono ?_
              rintro e wD ⟨vD, rfl, hoD, hbD⟩
              obtain ⟨AD, cD, rfl, hSD⟩ := hoD.strs
              have WD := Lib.hid (WC.out.trans (hbD.mono WC.out.size))
              have hlimD := hSD.lim
              have hcapD := hSD.cap
              unfold maxLen at hlimD
              have hND := HNL.out
              clear hoD hSD hbD WC
              generalize (srt (nms l)).length = M at *
              subst hND
              have hNN : (((M + 1 : Nat) : Int) == (M : Int) + 1) = true := by simp
              have hM : (M : Int) + 1 ≤ 9223372036854775807 := by omega
              go_wp2_with fail
              go_ret
              exact ⟨rfl, WD.out⟩
        · have hpl' : ¬ (p : Int) < (n1 : Int) := by omega
          obtain ⟨v8, w8, hr8, ho8, hb8, _⟩ := appR_run (s, x) HO7.out (by rw [HL1.out]; omega) hz67
          have hq : puts l (s, x) = l ++ [(s, x)] := by rw [HPU.out, if_neg (by rw [HL1.out]; exact hpl)]
          rw [← hq] at ho8
          obtain ⟨Am, cm, hv8, hRm⟩ := ho8.rws
          have hlm : (puts l (s, x)).length = n1 + 1 := by rw [hq, List.length_append, HL1.out]; rfl
          rw [hlm] at hv8 hRm
          subst hv8
          have hlimm := hRm.lim
          have hcapm := hRm.cap
          unfold maxLen at hlimm
          have HRUN8 := Lib.hid hr8
          have HM := Lib.hid hRm
          have HRK := Lib.hid (HR7.out.below (hb8.mono hz6))
          have WK := Lib.hid (W7.out.trans (hb8.mono (Nat.le_trans W7w.out hz6)))
          have hzK : w1.heap.size ≤ w8.heap.size := Nat.le_trans hz6 (Nat.le_trans hz67 hb8.size)
          clear hr8 ho8 hb8 hq hRm hlm HO7 HR7
          generalize hnm : n1 + 1 = nm at *
          have hnm' : nm ≤ 5000000000000 := by omega
          go_wp2_with (first | (at_builtin; refine Lib.wpList_append_run _ rfl _ _ _ _ rfl _ _ rfl rfl _ _ HRUN8.out ?_) | (refine wpList_load_row rfl 23 _ rfl w1.heap.size rfl _ _ _ X7.out _ Try.underlying23 rfl s23 ?_))
          have HFM : Hid (Calls Try.prog 17 #[.slice Am nm cm, .string (bs s)] w8 (FindP w8 (some p))) := by
            show Calls _ _ _ _ _
            rw [← HPF.out]
            exact find_any s HM.out (Nat.le_refl _)
          refine HFM.out.mono ?_
          rintro e wA ⟨rfl, hbA⟩
          have HMA := Lib.hid (HM.out.below hbA)
          have HRA := Lib.hid (HRK.out.below (hbA.mono hzK))
          have WA := Lib.hid (WK.out.trans (hbA.mono WK.out.size))
          have hzA := hbA.size
          clear hbA HM HRK WK HFM
          go_wp2_with fail
          refine (names_any HMA.out hzA (by omega)).mono ?_
          rintro e wB ⟨vB, rfl, hoB, hbB⟩
          obtain ⟨AB, cB, rfl, hSB⟩ := hoB.strs
          have hlimB := hSB.lim
          have hcapB := hSB.cap
          unfold maxLen at hlimB
          have HSB := Lib.hid hSB
          have HRB := Lib.hid (HRA.out.below (hbB.mono (Nat.le_trans hzK hzA)))
          have WB := Lib.hid (WA.out.trans (hbB.mono WA.out.size))
          have hzB := hbB.size
          have HNL : Hid ((srt (nms (puts l (s, x)))).length = (srt (nms l)).length + 1) := by
            show _ = _
            rw [srt_len, srt_len, (perm_puts HNE.out).length_eq, List.length_append]
            rfl
          have HPR : ∀ t : Nat, t + 1 < (srt (nms (puts l (s, x)))).length → Hid (¬ ((srt (nms (puts l (s, x))))[t + 1]?.getD []) ≤ ((srt (nms (puts l (s, x))))[t]?.getD [])) := fun t ht => srt_pair HND.out (k := t + 1) (by omega) ht
          clear hoB hbB hSB HMA HRA WA
          generalize hL : srt (nms (puts l (s, x))) = L at *
          have HSLEN := Lib.hid HSB.out.len
          generalize hN : L.length = N at *
          clear hL
          go_wp2_with fail
          go_loopw [17] (fun i wr => ∃ k : Nat, (k ≤ N ∨ k = 1) ∧ 1 ≤ k ∧ i = .int .i64 k ∧ Hid (Below wB.heap.size wB wr)) (fun i _ => N + 1 - (intOf i).toNat)
          case atStart => exact ⟨1, .inr rfl, Nat.le_refl _, rfl, Below.refl _ _⟩
          case round =>
            obtain ⟨k, hk, hk1', rfl, HW⟩ := hrel
            by_cases hlt : k < N
            · have hlt' : (k : Int) < (N : Int) := by omega
              obtain ⟨t, hkt⟩ : ∃ t, k = t + 1 := ⟨k - 1, by omega⟩
              have HKT := Lib.hid hkt
              obtain ⟨g1, o1, hA1', _, hk1⟩ := (HSB.out.below HW.out).cell (k := k) hlt
              obtain ⟨g2, o2, hA2', _, hk2⟩ := (HSB.out.below HW.out).cell (k := t) (by omega)
              subst hA1'
              cases hA2'
              have HNLE := HPR t (by omega)
              rw [← hkt] at HNLE
              generalize L[k]?.getD [] = u1 at *
              generalize L[t]?.getD [] = u2 at *
              have q1 := less_no (a := u1) (b := u2) (fun h => HNLE.out (Std.le_of_lt h))
              have q2 : ((bs u1).toList == (bs u2).toList) = false := by rw [bs_two]; simp; intro e; exact HNLE.out (by rw [e]; exact List.le_refl _)
              have q2' : ¬ (bs u1).toList = (bs u2).toList := by rw [bs_list, bs_list]; intro e; exact HNLE.out (by rw [e]; exact List.le_refl _)
              have q3 : (0 : Int) ≤ (k : Int) := by omega
              have q5 : IntKind.i64.wrap ((k : Int) - 1) = (t : Int) := by rw [IntKind.wrap_i64]; omega
              have q6 : (t : Int) < (N : Int) := by omega
              have q7 : (0 : Int) ≤ (t : Int) := by omega
              clear hkt
              go_wp2_with fail
              go_region_held3 (fun V => V.cell? ⟨g1, o1 + k, none⟩ = some (.string (bs u1)) ∧ V.cell? ⟨g1, o1 + t, none⟩ = some (.string (bs u2))) (exact ⟨hk1, hk2⟩) (fail)
              go_wp2_with fail
              go_roundw
              case rel => exact ⟨k + 1, .inl (by omega), by omega, by go_num, HW.out.drew⟩
              case measure => simp [intOf]; omega
            · have hlt' : ¬ (k : Int) < (N : Int) := by omega
              have HRC := Lib.hid (HRB.out.below (HW.out.mono (Nat.le_trans (Nat.le_trans hzK hzA) hzB)))
              have WC := Lib.hid (WB.out.trans (HW.out.mono WB.out.size))
              have hzC := HW.out.size
              have hpp : ((p : Int) == (p : Int)) = true := by simp
              have hpn : (p : Int) ≤ (n1 : Int) := by omega
              clear HW HSB HRB WB
              go_wp2_with fail
              refine (names_any HRC.out (by omega) (by omega)).mono ?_
              rintro e wD ⟨vD, rfl, hoD, hbD⟩
              obtain ⟨AD, cD, rfl, hSD⟩ := hoD.strs
              have WD := Lib.hid (WC.out.trans (hbD.mono WC.out.size))
              have hlimD := hSD.lim
              have hcapD := hSD.cap
              unfold maxLen at hlimD
              have hND := HNL.out
              clear hoD hSD hbD WC
              generalize (srt (nms l)).length = M at *
              subst hND
              have hNN : (((M + 1 : Nat) : Int) == (M : Int) + 1) = true := by simp
              have hM : (M : Int) + 1 ≤ 9223372036854775807 := by omega
              go_wp2_with fail
              go_ret
              exact ⟨rfl, WD.out⟩
end Go.Proofs.Ytdlephffcbkalaa.entryPuts
