/- DriveTwo, walked. -/
import Derived.Test.YticbfjflhojolaaTri
import Derived.Test.YticbfjflhojolaaSteps
import Derived.BigQuiet
import Derived.Deep.QuietTactic
namespace Go.Proofs.Yticbfjflhojolaa.driveTwo
open Go.RowKit
set_option linter.unusedVariables false

/-- The first loop, in round k. -/
def R (W : World) (dx dy dz : Nat) (a b : List SStep) (k : Nat) (w : World) : Prop := ∃ Ox Oy Oz s t, Tri W w dx dy dz Ox Oy Oz s s t ∧ s.since.length ≤ total (a.take k) ∧ t.since.length ≤ total (b.take k)
theorem total_take {l : List SStep} {k : Nat} {x : SStep} (h : l[k]? = some x) : total (l.take (k + 1)) = total (l.take k) + x.list.length := by
  obtain ⟨hk, rfl⟩ := List.getElem?_eq_some_iff.1 h
  unfold total
  rw [List.take_succ_eq_append_getElem hk, List.map_append, List.sum_append]
  simp
theorem total_le (l : List SStep) (k : Nat) : total (l.take k) ≤ total l := by
  conv => rhs; rw [← List.take_append_drop k l]
  unfold total
  rw [List.map_append, List.sum_append]
  omega
theorem total_past {l : List SStep} {k : Nat} (h : l.length ≤ k) : total (l.take (k + 1)) = total (l.take k) := by
  rw [List.take_of_length_le h, List.take_of_length_le (by omega)]
def Four (w : World) (b o : Nat) (x : SStep) (A1 : Option Addr) (n1 c1 : Nat) (A2 : Option Addr) (n2 c2 : Nat) : Prop :=
  w.cell? ⟨b, o, none⟩ = some (.int .i64 x.what) ∧ w.cell? ⟨b, o + 1, none⟩ = some (.int .i64 x.n) ∧ w.cell? ⟨b, o + 2, none⟩ = some (.slice A1 n1 c1) ∧ w.cell? ⟨b, o + 3, none⟩ = some (.slice A2 n2 c2)
theorem Four.at {W w : World} {b o : Nat} {x : SStep} {A1 A2 : Option Addr} {n1 c1 n2 c2 : Nat} (h : Four W b o x A1 n1 c1 A2 n2 c2) (hb : b < W.heap.size) (hw : Below W.heap.size W w) :
    w.cell? ⟨b, o, none⟩ = some (.int .i64 x.what) ∧ w.cell? ⟨b, o + 1, none⟩ = some (.int .i64 x.n) ∧ w.cell? ⟨b, o + 2, none⟩ = some (.slice A1 n1 c1) ∧ w.cell? ⟨b, o + 3, none⟩ = some (.slice A2 n2 c2) :=
  ⟨(hw.cell (p := ⟨b, o, none⟩) hb).trans h.1, (hw.cell (p := ⟨b, o + 1, none⟩) hb).trans h.2.1, (hw.cell (p := ⟨b, o + 2, none⟩) hb).trans h.2.2.1, (hw.cell (p := ⟨b, o + 3, none⟩) hb).trans h.2.2.2⟩
theorem keepRows {w w' : World} {b n lo k : Nat} {l : List (List UInt8)} (h : Rows1 w b n lo l k) (hb : Below w.heap.size w w') : Rows1 w' b n lo l k := by
  obtain ⟨C, hC, hCs, hrow⟩ := h
  refine ⟨C, (hb.block b (Array.getElem?_eq_some_iff.1 hC).1).trans hC, hCs, fun j x hj hx => ?_⟩
  obtain ⟨bj, g1, g2, g3, g4⟩ := hrow j x hj hx
  exact ⟨bj, g1, g2, g3, (hb.block bj (Array.getElem?_eq_some_iff.1 g4).1).trans g4⟩
/-- Both images. -/
def IR (W : World) (l : List (List UInt8)) (bi bj : Nat) (w : World) : Prop := ∃ lo lo', Rows1 w bi 64 lo l 64 ∧ Rows1 w bj 64 lo' l 64 ∧ Below W.heap.size W w
theorem IR.row {W w : World} {l : List (List UInt8)} {bi bj j : Nat} {x : List UInt8} (h : IR W l bi bj w) (hx : l[j]? = some x) (hj : j < 64) :
    ∃ u v, w.cell? ⟨bi, j, none⟩ = some (.slice (some ⟨u, 0, none⟩) 128 128) ∧ w.cell? ⟨bj, j, none⟩ = some (.slice (some ⟨v, 0, none⟩) 128 128) ∧ Own w u x ∧ Own w v x := by
  obtain ⟨lo, lo', ⟨C, hC, _, h1⟩, ⟨C', hC', _, h2⟩, _⟩ := h
  obtain ⟨u, a1, _, _, a4⟩ := h1 j x hj hx
  obtain ⟨v, b1, _, _, b4⟩ := h2 j x hj hx
  exact ⟨u, v, by rw [cell_of hC]; exact a1, by rw [cell_of hC']; exact b1, ⟨67, a4⟩, ⟨67, b4⟩⟩
theorem IR.bel {W w : World} {l : List (List UInt8)} {bi bj : Nat} (h : IR W l bi bj w) : Below W.heap.size W w := by
  obtain ⟨_, _, _, _, h⟩ := h
  exact h
theorem IR.drew {W w : World} {l : List (List UInt8)} {bi bj : Nat} (h : IR W l bi bj w) : IR W l bi bj w.drew := by
  obtain ⟨lo, lo', h1, h2, h3⟩ := h
  exact ⟨lo, lo', keepRows h1 (Below.refl _ _).drew, keepRows h2 (Below.refl _ _).drew, h3.drew⟩
set_option maxRecDepth 100000 in
set_option maxHeartbeats 8000000 in
theorem walk (W : World) (A : Option Addr) (n c : Nat) (a : List SStep) (hA : Stps W (fun q => q < W.heap.size) A n c a) (ha : total a ≤ 1048576) (B : Option Addr) (m e : Nat) (b : List SStep) (hB : Stps W (fun q => q < W.heap.size) B m e b) (hb : total b ≤ 1048576) :
    Calls Try.prog 8 #[.slice A n c, .slice B m e] W fun e w' => e = .returned (.bool true) ∧ Below W.heap.size W w' := by
  have HA := Lib.hid hA
  have HB := Lib.hid hB
  obtain ⟨hlim, hcap⟩ := And.intro hA.lim hA.cap
  obtain ⟨hlim2, hcap2⟩ := And.intro hB.lim hB.cap
  unfold maxLen at hlim hlim2
  clear hA hB
  go_enter Try.func8, Try.ntmps8
  go_wp2_with fail
  refine (new_any 64 _ (by omega) (by omega)).mono ?_
  rintro e w1 ⟨dx, Ox, rfl, hx, hOx, hb1⟩
  have HX := Lib.hid hx
  have HOX := Lib.hid hOx
  have HB1 := Lib.hid hb1
  clear hx hOx hb1
  go_wp2_with fail
  refine (new_any 64 _ (by omega) (by omega)).mono ?_
  rintro e w2 ⟨dy, Oy, rfl, hy, hOy, hb2⟩
  have HY := Lib.hid hy
  have HOY := Lib.hid hOy
  have HB2 := Lib.hid hb2
  clear hy hOy hb2
  go_wp2_with fail
  refine (new_any 64 _ (by omega) (by omega)).mono ?_
  rintro e w3 ⟨dz, Oz, rfl, hz, hOz, hb3⟩
  have T3 : Hid (Tri W w3 dx dy dz Ox Oy Oz (newS 64) (newS 64) (newS 64)) := by
    have s1 := HB1.out.size
    have s2 := HB2.out.size
    have hx2 := HX.out.keep fun q hq => HB2.out.block q (HX.out.lt q hq)
    refine ⟨hx2.keep fun q hq => hb3.block q (hx2.lt q hq), HY.out.keep fun q hq => hb3.block q (HY.out.lt q hq), hz, fun q h1 h2 => ?_, fun q h1 h2 => ?_, fun q h1 h2 => ?_, HOX.out, fun q hq => ?_, fun q hq => ?_, (HB1.out.trans (HB2.out.mono s1)).trans (hb3.mono (by omega))⟩
    · have := HX.out.lt q h1; have := HOY.out q h2; omega
    · have := hx2.lt q h1; have := hOz q h2; omega
    · have := HY.out.lt q h1; have := hOz q h2; omega
    · have := HOY.out q hq; omega
    · have := hOz q hq; omega
  clear hz hOz hb3 HX HOX HB1 HY HOY HB2
  go_wp2_with fail
  refine (awake_any _).mono ?_
  rintro e w4 ⟨rfl, hb4⟩
  have T4 := Lib.hid (T3.out.below hb4)
  clear hb4 T3
  go_wp2_with fail
  go_loopw [11] (fun i wr => ∃ k : Nat, k ≤ n ∧ k ≤ 20 ∧ i = .int .i64 (k : Int) ∧ Hid (R W dx dy dz a b k wr)) (fun i _ => n - (intOf i).toNat)
  case atStart => exact ⟨0, Nat.zero_le _, by omega, rfl, Ox, Oy, Oz, _, _, T4.out, by simp [newS], by simp [newS]⟩
  case round =>
    obtain ⟨k, hk, hk20, rfl, HR⟩ := hrel
    by_cases hlt : k < n ∧ k < 20
    · obtain ⟨hkn, hk20'⟩ := hlt
      have t1 : decide ((k : Int) < (n : Int)) = true := by simp; omega
      obtain ⟨x, hx⟩ : ∃ x, a[k]? = some x := ⟨_, List.getElem?_eq_getElem (by rw [HA.out.len]; exact hkn)⟩
      obtain ⟨ba, oa, hAe, hba, hat⟩ := HA.out.get hx
      subst hAe
      have HXA := Lib.hid hx
      have HAT := Lib.hid hat
      clear hx hat
      obtain ⟨Or, Op, Oq, s, t, hT, hs, ht⟩ := HR.out
      have HS := Lib.hid hs
      have HTL := Lib.hid ht
      have HT := Lib.hid hT
      clear hT hs ht HR
      rcases Nat.lt_or_ge k m with hkm | hkm
      obtain ⟨y, hy⟩ : ∃ y, b[k]? = some y := ⟨_, List.getElem?_eq_getElem (by rw [HB.out.len]; exact hkm)⟩
      obtain ⟨bb, ob, hBe, hbb, hbt⟩ := HB.out.get hy
      subst hBe
      obtain ⟨B1, p1, q1, B2, p2, q2, g0, g1, g2, g3, gv⟩ := hbt
      have k0 := (HT.out.bel.cell (p := ⟨bb, ob + k * 4, none⟩) hbb).trans g0
      have k1 := (HT.out.bel.cell (p := ⟨bb, ob + k * 4 + 1, none⟩) hbb).trans g1
      have k2 := (HT.out.bel.cell (p := ⟨bb, ob + k * 4 + 2, none⟩) hbb).trans g2
      have k3 := (HT.out.bel.cell (p := ⟨bb, ob + k * 4 + 3, none⟩) hbb).trans g3
      have t2 : decide ((k : Int) < (m : Int)) = true := by simp; omega
      have hlb : t.since.length + y.list.length ≤ total (b.take (k + 1)) := by rw [total_take hy]; have := HTL.out; omega
      have hlb2 := total_le b (k + 1)
      have HGV := Lib.hid gv
      have HLB := Lib.hid hlb
      clear g0 g1 g2 g3 gv hy
      go_wp2_with fail
      refine (playT HT.out.rotz HGV.out (by omega)).mono ?_
      rintro e w5 ⟨rfl, Oz', ht5⟩
      have HT5 := Lib.hid ht5.back
      have HTL5 : Hid ((t.step 64 y).2.since.length ≤ total (b.take (k + 1))) := Nat.le_trans (step_since t 64 y) HLB.out
      clear ht5 k0 k1 k2 k3 hlb hlb2 HGV HLB HT HTL
      generalize (t.step 64 y).2 = t5 at *
      go_wp2_with fail
      rotate_left
      have t2 : decide ((k : Int) < (m : Int)) = false := by simp; omega
      have t2' : decide (k < m) = false := by simpa using hkm
      have HTL5 : Hid (t.since.length ≤ total (b.take (k + 1))) := by
        show _ ≤ _
        rw [total_past (by rw [HB.out.len]; exact hkm)]
        exact HTL.out
      have HT5 := HT
      clear HT HTL
      go_wp2_with fail
      all_goals
        obtain ⟨A1, n1, c1, A2, n2, c2, g0, g1, g2, g3, gv⟩ := HAT.out
        have HG : Hid (Four W ba (oa + k * 4) x A1 n1 c1 A2 n2 c2) := ⟨g0, g1, g2, g3⟩
        have HAV := Lib.hid gv
        have hla : s.since.length + x.list.length ≤ total (a.take (k + 1)) := by rw [total_take HXA.out]; have := HS.out; omega
        have hla2 := total_le a (k + 1)
        have HLA := Lib.hid hla
        have i0 : (0 : Int) ≤ (k : Int) := Int.natCast_nonneg _
        have i1 : (k : Int) < (n : Int) := by omega
        clear g0 g1 g2 g3 gv
        go_region_held3 (fun w' => w'.cell? ⟨ba, oa + k * 4, none⟩ = some (.int .i64 x.what) ∧ w'.cell? ⟨ba, oa + k * 4 + 1, none⟩ = some (.int .i64 x.n) ∧ w'.cell? ⟨ba, oa + k * 4 + 2, none⟩ = some (.slice A1 n1 c1) ∧ w'.cell? ⟨ba, oa + k * 4 + 3, none⟩ = some (.slice A2 n2 c2)) ((first | (with_reducible exact HG.out.at hba HT5.out.drew.bel) | (with_reducible exact HG.out.at hba HT6.out.bel) | (with_reducible exact HG.out.at hba HT7.out.bel))) (first | (go_at_call 25; (with_reducible refine (playT HT5.out.drew HAV.out (by omega)).mono ?_); rintro e w6 ⟨rfl, Ox6, ht6⟩; have HT6 := Lib.hid ht6; clear ht6) | (go_at_call 25; (with_reducible refine (playT HT6.out.rot HAV.out (by omega)).mono ?_); rintro e w7 ⟨rfl, Oy7, ht7⟩; have HT7 := Lib.hid ht7.rot; clear ht7))
        have HRN : Hid (R W dx dy dz a b (k + 1) w7) := ⟨Ox6, Oy7, _, _, _, HT7.out, Nat.le_trans (step_since s 64 x) HLA.out, HTL5.out⟩
        clear HT5 HT6 HT7 HG HAV HLA hla hla2 HTL5 HS HAT
        go_wp2_with fail
        go_roundw
        case rel => exact ⟨k + 1, by omega, by omega, by go_num, HRN⟩
        case measure => simp [intOf]; omega
    · obtain ⟨Or, Op, Oq, s, t, hT, hs, ht⟩ := HR.out
      have HT := Lib.hid hT
      clear hT hs ht HR
      rcases Nat.lt_or_ge k n with hkn | hkn
      have hk' : k = 20 := by omega
      subst hk'
      have t1 : decide (((20 : Nat) : Int) < (n : Int)) = true := by simp; omega
      go_wp2_with fail
      rotate_left
      have hk' : k = n := by omega
      subst hk'
      have t1 : decide ((k : Int) < (k : Int)) = false := by simp
      go_wp2_with fail
      all_goals
        refine (image_any HT.out.x).mono ?_
        rintro e w8 ⟨bi, rfl, hz8, hr8, hb8⟩
        have HT8 := Lib.hid (HT.out.below hb8)
        have HX8 := Lib.hid hr8
        clear hz8 hr8 hb8
        go_wp2_with fail
        refine (image_any HT8.out.y).mono ?_
        rintro e w9 ⟨bj, rfl, hz9, hr9, hb9⟩
        have HI : Hid (IR W s.lasting bi bj w9) := ⟨_, _, keepRows HX8.out hb9, hr9, (HT8.out.below hb9).bel⟩
        have HLEN : Hid (s.lasting.length = 64) := HT.out.x.down_.lasting
        have HLS : Hid (∀ (j : Nat) (l : List UInt8), s.lasting[j]? = some l → l.length = 128) := fun j l h => HT.out.x.secs j l h
        clear hz9 hr9 hb9 HX8 HT8 HT
        go_wp2_with fail
        go_loopw [14] (fun i wr => ∃ j : Nat, j ≤ 64 ∧ i = .int .i64 (j : Int) ∧ Hid (IR W s.lasting bi bj wr)) (fun i _ => 64 - (intOf i).toNat)
        case atStart => exact ⟨0, by omega, rfl, HI⟩
        case round =>
          clear HI
          obtain ⟨j, hj, rfl, HI⟩ := hrel
          by_cases hj64 : j < 64
          · obtain ⟨l, hl⟩ : ∃ l, s.lasting[j]? = some l := ⟨_, List.getElem?_eq_getElem (by rw [HLEN.out]; exact hj64)⟩
            obtain ⟨u, v, hcu, hcv, ou, ov⟩ := HI.out.row hl hj64
            have HU := Lib.hid ou
            have HV := Lib.hid ov
            have hll : l.length = 128 := HLS.out j l hl
            have HLL := Lib.hid hll
            clear ou ov hl hll
            have i0 : (0 : Int) ≤ (j : Int) := Int.natCast_nonneg _
            have i1 : (j : Int) < 64 := by omega
            go_wp2_with fail
            have hsu0 : Own wr.drew u l := HU.out.keep rfl
            have hsv0 : Own wr.drew v l := HV.out.keep rfl
            have hsu := hsu0.str HLL.out
            have hsv := hsv0.str HLL.out
            have HCS := Lib.hid (And.intro hcu (And.intro hcv (And.intro hsu hsv)))
            clear hsu0 hsv0 hsu hsv
            have HI2 : Hid (IR W s.lasting bi bj wr.drew) := HI.out.drew
            clear HI HU HV HLL
            go_region_held3 (fun w' => w'.cell? ⟨bi, j, none⟩ = some (.slice (some ⟨u, 0, none⟩) 128 128) ∧ w'.cell? ⟨bj, j, none⟩ = some (.slice (some ⟨v, 0, none⟩) 128 128) ∧ (convert 41 9 (.slice (some ⟨u, 0, none⟩) 128 128)).run Try.prog w' = .ok (.string ⟨l.toArray⟩) w' ∧ (convert 41 9 (.slice (some ⟨v, 0, none⟩) 128 128)).run Try.prog w' = .ok (.string ⟨l.toArray⟩) w') ((exact HCS.out)) (fail)
            clear hcu hcv HCS
            go_wp2_with fail
            go_roundw
            case rel => exact ⟨j + 1, by omega, by go_num, HI2⟩
            case measure => simp [intOf]; omega
          · obtain rfl : j = 64 := by omega
            have HEND := Lib.hid HI.out.bel
            go_wp2_with fail
            go_ret
            exact ⟨rfl, HEND.out⟩
end Go.Proofs.Yticbfjflhojolaa.driveTwo
