/- EntryFinds, walked. -/
import Derived.Test.YtdlephffcbkalaaAwake
import Derived.Test.YtdlephffcbkalaaMathB
import Derived.Test.YtdlephffcbkalaaRefNames
namespace Go.Proofs.Ytdlephffcbkalaa.entryFinds
open Go.RowKit
set_option linter.unusedVariables false

/-- Where the first empty one is, from j on. -/
def plc (L : List Rw) (j : Nat) : Nat := ((L.drop j).findIdx? fun r => decide (r = emp)).elim L.length (· + j)
theorem plc_end (L : List Rw) : plc L L.length = L.length := by simp [plc]
theorem plc_zero (L : List Rw) : plc L 0 = place L := by
  unfold plc place
  rw [List.drop_zero]
  cases L.findIdx? fun r => decide (r = emp) <;> rfl
theorem plc_step {L : List Rw} {j : Nat} {r : Rw} (h : L[j]? = some r) : plc L j = if r = emp then j else plc L (j + 1) := by
  obtain ⟨hj, rfl⟩ := List.getElem?_eq_some_iff.1 h
  unfold plc
  rw [List.drop_eq_getElem_cons hj, List.findIdx?_cons]
  by_cases he : L[j] = emp
  · simp [he]
  · simp only [he, decide_false, if_false, Bool.false_eq_true]
    cases (L.drop (j + 1)).findIdx? fun r => decide (r = emp) with
    | none => rfl
    | some i => simp; omega
theorem plc_le (L : List Rw) (j : Nat) (hj : j ≤ L.length) : plc L j ≤ L.length := by
  unfold plc
  cases h : (L.drop j).findIdx? fun r => decide (r = emp) with
  | none => exact Nat.le_refl _
  | some i =>
    rw [List.findIdx?_eq_some_iff_getElem] at h
    obtain ⟨hi, _⟩ := h
    rw [List.length_drop] at hi
    show i + j ≤ L.length
    omega
set_option maxRecDepth 20000 in
set_option maxHeartbeats 4000000 in
theorem walk_short (w : World) (A : Option Addr) (m c : Nat) (L : List Rw) (hR : Rws w w.heap.size A m c L) (s : List UInt8) (hm : m ≤ 300) :
    Calls Try.prog 5 #[.slice A m c, .string (bs s)] w fun e w' => e = .returned (.bool true) ∧ Below w.heap.size w w' := by
  have HR := Lib.hid hR
  clear hR
  have hm' : ¬ (300 : Int) < (m : Int) := by omega
  go_enter Try.func5, Try.ntmps5
  have HFI := Lib.hid (find_any s HR.out (Nat.le_refl _))
  have hlim := HR.out.lim
  have hcap := HR.out.cap
  unfold maxLen at hlim
  have HLL : Hid (L.length = m) := HR.out.len
  have HPS : ∀ j r, L[j]? = some r → Hid (plc L j = if r = emp then j else plc L (j + 1)) := fun j r h => plc_step h
  have HPE : Hid (plc L m = m) := by show _ = _; rw [← HLL.out]; exact plc_end L
  have HP0 : Hid (plc L 0 = place L) := plc_zero L
  obtain ⟨o, ho⟩ : ∃ o, find L s = o := ⟨_, rfl⟩
  rw [ho] at HFI
  go_wp2_with fail
  refine HFI.out.mono ?_
  rintro e w1 ⟨rfl, hb1⟩
  have HR1 := Lib.hid (HR.out.below hb1)
  have W1 := Lib.hid hb1
  have hz1 := hb1.size
  have HRF := Lib.hid (refFind_any s HR1.out)
  rw [ho] at HRF
  clear hb1 ho HFI
  obtain ⟨oi, ob, on, h1, h2, h3⟩ : ∃ oi : Nat, ∃ ob : Bool, ∃ on : Int, o.getD 0 = oi ∧ o.isSome = ob ∧ fnum o = on := ⟨_, _, _, rfl, rfl, rfl⟩
  have HCS : Hid ((ob = false ∧ oi = 0 ∧ on = -1) ∨ (ob = true ∧ on = (oi : Int) ∧ (0 : Int) ≤ (oi : Int))) := by
    show _ ∨ _
    subst h1 h2 h3
    cases o with
    | none => exact .inl ⟨rfl, rfl, rfl⟩
    | some k => exact .inr ⟨rfl, rfl, by omega⟩
  rw [h1, h2]
  rw [h3] at HRF
  clear h1 h2 h3
  go_wp2_with fail
  refine HRF.out.mono ?_
  rintro e w2 ⟨rfl, rfl⟩
  clear HRF
  rcases HCS.out with ⟨rfl, rfl, rfl⟩ | ⟨rfl, rfl, hoi⟩
  · go_wp2_with fail
    go_loopw [8, 9] (fun u i wr => ∃ j p : Nat, j ≤ m ∧ p ≤ m ∧ i = .int .i64 ((j : Int) - 1) ∧ u = .int .i64 p ∧ Hid (p = plc L j) ∧ wr = w1) (fun _ i _ => (intOf i + 1).toNat)
    case atStart => exact ⟨m, m, Nat.le_refl _, Nat.le_refl _, rfl, rfl, HPE.out.symm, rfl⟩
    case round =>
      obtain ⟨j, p, hj, hp, rfl, rfl, HP, rfl⟩ := hrel
      rcases j with _ | t
      · have HPP : Hid (p = place L) := by show _ = _; rw [HP.out]; exact HP0.out
        clear HP
        go_wp2_with fail
        refine (awake_any _).mono ?_
        rintro e w3 ⟨rfl, hb3⟩
        have HR3 := Lib.hid (HR1.out.below (hb3.mono hz1))
        have W3 := Lib.hid (W1.out.trans (hb3.mono W1.out.size))
        have hz3 := Nat.le_trans hz1 hb3.size
        clear hb3 HR1 W1
        go_wp2_with fail
        refine (place_any HR3.out hz3).mono ?_
        rw [← HPP.out]
        rintro e w4 ⟨rfl, hb4⟩
        have HR4 := Lib.hid (HR3.out.below (hb4.mono hz3))
        have W4 := Lib.hid (W3.out.trans (hb4.mono W3.out.size))
        have hz4 := Nat.le_trans hz3 hb4.size
        clear hb4 HR3 W3
        have hpp : ((p : Int) == (p : Int)) = true := by simp
        go_wp2_with fail
        refine (names_any HR4.out hz4 (by omega)).mono ?_
        rintro e w5 ⟨v5, rfl, ho5, hb5⟩
        obtain ⟨A5, c5, rfl, hS5⟩ := ho5.strs
        have HR5 := Lib.hid (HR4.out.below (hb5.mono hz4))
        have W5 := Lib.hid (W4.out.trans (hb5.mono W4.out.size))
        have hz5 := Nat.le_trans hz4 hb5.size
        have HS5 := Lib.hid hS5
        clear hb5 HR4 W4 ho5 hS5
        generalize (srt (nms L)).length = m5 at *
        go_wp2_with fail
        refine (refNames_any HR5.out hz5 (by omega)).mono ?_
        rintro e w6 ⟨g6, n6, c6, out, rfl, hout, hS6, hb6⟩
        subst hout
        have W6 := Lib.hid (W5.out.trans (hb6.mono W5.out.size))
        have HS5' := Lib.hid (HS5.out.below hb6)
        have HS6 := Lib.hid hS6
        have hz6 := hb6.size
        clear hb6 W5 HS5 hS6 HR5
        go_wp2_with fail
        refine (same_any HS5'.out HS6.out hz6 (Nat.le_refl _)).mono ?_
        rw [decide_eq_true (rfl : srt (nms L) = srt (nms L))]
        rintro e w7 ⟨rfl, hb7⟩
        have W7 := Lib.hid (W6.out.trans (hb7.mono W6.out.size))
        clear hb7 W6
        go_wp2_with fail
        go_ret
        exact ⟨rfl, W7.out⟩
      · obtain ⟨b, off, r, hAe, hb, hr, hc0, hc1⟩ := HR1.out.get (k := t) (by omega)
        cases hAe
        obtain ⟨a, x⟩ := r
        have HST := HPS t _ hr
        dsimp only at hc0 hc1
        clear hr
        have ej : ((t + 1 : Nat) : Int) - 1 = (t : Int) := by omega
        rw [ej]
        clear ej
        have ht0 : (0 : Int) ≤ (t : Int) := by omega
        by_cases ha : a = []
        · subst ha
          have n0 := nil_yes
          have n0' := nil_yes'
          by_cases hx : x = 0
          · subst hx
            have HP2 : Hid (t = plc L t) := by show _ = _; rw [HST.out, if_pos (show (([], 0) : Rw) = emp from rfl)]
            go_wp2_with fail
            go_roundw
            case rel => exact ⟨t, t, by omega, by omega, rfl, rfl, HP2, by first | rfl | trivial⟩
            case measure => simp [intOf]
          · have hx' : (x == 0) = false := by simpa using hx
            have HP2 : Hid (p = plc L t) := by show _ = _; rw [HST.out, if_neg (by simpa [emp] using hx)]; exact HP.out
            go_wp2_with fail
            go_roundw
            case rel => exact ⟨t, p, by omega, by omega, rfl, rfl, HP2, by first | rfl | trivial⟩
            case measure => simp [intOf]
        · have n0 := nil_no ha
          have n0' := nil_no' ha
          have HP2 : Hid (p = plc L t) := by show _ = _; rw [HST.out, if_neg (by simp [emp, ha])]; exact HP.out
          clear ha
          go_wp2_with fail
          go_roundw
          case rel => exact ⟨t, p, by omega, by omega, rfl, rfl, HP2, by first | rfl | trivial⟩
          case measure => simp [intOf]
  · have hoo : ((oi : Int) == (oi : Int)) = true := by simp
    go_wp2_with fail
    go_loopw [8, 9] (fun u i wr => ∃ j p : Nat, j ≤ m ∧ p ≤ m ∧ i = .int .i64 ((j : Int) - 1) ∧ u = .int .i64 p ∧ Hid (p = plc L j) ∧ wr = w1) (fun _ i _ => (intOf i + 1).toNat)
    case atStart => exact ⟨m, m, Nat.le_refl _, Nat.le_refl _, rfl, rfl, HPE.out.symm, rfl⟩
    case round =>
      obtain ⟨j, p, hj, hp, rfl, rfl, HP, rfl⟩ := hrel
      rcases j with _ | t
      · have HPP : Hid (p = place L) := by show _ = _; rw [HP.out]; exact HP0.out
        clear HP
        go_wp2_with fail
        refine (awake_any _).mono ?_
        rintro e w3 ⟨rfl, hb3⟩
        have HR3 := Lib.hid (HR1.out.below (hb3.mono hz1))
        have W3 := Lib.hid (W1.out.trans (hb3.mono W1.out.size))
        have hz3 := Nat.le_trans hz1 hb3.size
        clear hb3 HR1 W1
        go_wp2_with fail
        refine (place_any HR3.out hz3).mono ?_
        rw [← HPP.out]
        rintro e w4 ⟨rfl, hb4⟩
        have HR4 := Lib.hid (HR3.out.below (hb4.mono hz3))
        have W4 := Lib.hid (W3.out.trans (hb4.mono W3.out.size))
        have hz4 := Nat.le_trans hz3 hb4.size
        clear hb4 HR3 W3
        have hpp : ((p : Int) == (p : Int)) = true := by simp
        go_wp2_with fail
        refine (names_any HR4.out hz4 (by omega)).mono ?_
        rintro e w5 ⟨v5, rfl, ho5, hb5⟩
        obtain ⟨A5, c5, rfl, hS5⟩ := ho5.strs
        have HR5 := Lib.hid (HR4.out.below (hb5.mono hz4))
        have W5 := Lib.hid (W4.out.trans (hb5.mono W4.out.size))
        have hz5 := Nat.le_trans hz4 hb5.size
        have HS5 := Lib.hid hS5
        clear hb5 HR4 W4 ho5 hS5
        generalize (srt (nms L)).length = m5 at *
        go_wp2_with fail
        refine (refNames_any HR5.out hz5 (by omega)).mono ?_
        rintro e w6 ⟨g6, n6, c6, out, rfl, hout, hS6, hb6⟩
        subst hout
        have W6 := Lib.hid (W5.out.trans (hb6.mono W5.out.size))
        have HS5' := Lib.hid (HS5.out.below hb6)
        have HS6 := Lib.hid hS6
        have hz6 := hb6.size
        clear hb6 W5 HS5 hS6 HR5
        go_wp2_with fail
        refine (same_any HS5'.out HS6.out hz6 (Nat.le_refl _)).mono ?_
        rw [decide_eq_true (rfl : srt (nms L) = srt (nms L))]
        rintro e w7 ⟨rfl, hb7⟩
        have W7 := Lib.hid (W6.out.trans (hb7.mono W6.out.size))
        clear hb7 W6
        go_wp2_with fail
        go_ret
        exact ⟨rfl, W7.out⟩
      · obtain ⟨b, off, r, hAe, hb, hr, hc0, hc1⟩ := HR1.out.get (k := t) (by omega)
        cases hAe
        obtain ⟨a, x⟩ := r
        have HST := HPS t _ hr
        dsimp only at hc0 hc1
        clear hr
        have ej : ((t + 1 : Nat) : Int) - 1 = (t : Int) := by omega
        rw [ej]
        clear ej
        have ht0 : (0 : Int) ≤ (t : Int) := by omega
        by_cases ha : a = []
        · subst ha
          have n0 := nil_yes
          have n0' := nil_yes'
          by_cases hx : x = 0
          · subst hx
            have HP2 : Hid (t = plc L t) := by show _ = _; rw [HST.out, if_pos (show (([], 0) : Rw) = emp from rfl)]
            go_wp2_with fail
            go_roundw
            case rel => exact ⟨t, t, by omega, by omega, rfl, rfl, HP2, by first | rfl | trivial⟩
            case measure => simp [intOf]
          · have hx' : (x == 0) = false := by simpa using hx
            have HP2 : Hid (p = plc L t) := by show _ = _; rw [HST.out, if_neg (by simpa [emp] using hx)]; exact HP.out
            go_wp2_with fail
            go_roundw
            case rel => exact ⟨t, p, by omega, by omega, rfl, rfl, HP2, by first | rfl | trivial⟩
            case measure => simp [intOf]
        · have n0 := nil_no ha
          have n0' := nil_no' ha
          have HP2 : Hid (p = plc L t) := by show _ = _; rw [HST.out, if_neg (by simp [emp, ha])]; exact HP.out
          clear ha
          go_wp2_with fail
          go_roundw
          case rel => exact ⟨t, p, by omega, by omega, rfl, rfl, HP2, by first | rfl | trivial⟩
          case measure => simp [intOf]
set_option maxRecDepth 20000 in
set_option maxHeartbeats 4000000 in
theorem walk_long (w : World) (A : Option Addr) (n c : Nat) (l : List Rw) (hR : Rws w w.heap.size A n c l) (s : List UInt8) (hn : 300 < n) :
    Calls Try.prog 5 #[.slice A n c, .string (bs s)] w fun e w' => e = .returned (.bool true) ∧ Below w.heap.size w w' := by
  have HR := Lib.hid (hR.head (s := 300) (by omega))
  have hn' : (300 : Int) < (n : Int) := by omega
  have hcn := hR.cap
  have hln := hR.lim
  unfold maxLen at hln
  have hc3 : (300 : Int) ≤ (c : Int) := by omega
  obtain ⟨b0, off0, hA0, _⟩ := hR.at_ (by omega)
  subst hA0
  generalize l.take 300 = L at *
  clear hR
  go_enter Try.func5, Try.ntmps5
  have HFI := Lib.hid (find_any s HR.out (Nat.le_refl _))
  have hlim := HR.out.lim
  have hcap := HR.out.cap
  unfold maxLen at hlim
  have HLL : Hid (L.length = 300) := HR.out.len
  have HPS : ∀ j r, L[j]? = some r → Hid (plc L j = if r = emp then j else plc L (j + 1)) := fun j r h => plc_step h
  have HPE : Hid (plc L 300 = 300) := by show _ = _; rw [← HLL.out]; exact plc_end L
  have HP0 : Hid (plc L 0 = place L) := plc_zero L
  obtain ⟨o, ho⟩ : ∃ o, find L s = o := ⟨_, rfl⟩
  rw [ho] at HFI
  go_wp2_with fail
  refine HFI.out.mono ?_
  rintro e w1 ⟨rfl, hb1⟩
  have HR1 := Lib.hid (HR.out.below hb1)
  have W1 := Lib.hid hb1
  have hz1 := hb1.size
  have HRF := Lib.hid (refFind_any s HR1.out)
  rw [ho] at HRF
  clear hb1 ho HFI
  obtain ⟨oi, ob, on, h1, h2, h3⟩ : ∃ oi : Nat, ∃ ob : Bool, ∃ on : Int, o.getD 0 = oi ∧ o.isSome = ob ∧ fnum o = on := ⟨_, _, _, rfl, rfl, rfl⟩
  have HCS : Hid ((ob = false ∧ oi = 0 ∧ on = -1) ∨ (ob = true ∧ on = (oi : Int) ∧ (0 : Int) ≤ (oi : Int))) := by
    show _ ∨ _
    subst h1 h2 h3
    cases o with
    | none => exact .inl ⟨rfl, rfl, rfl⟩
    | some k => exact .inr ⟨rfl, rfl, by omega⟩
  rw [h1, h2]
  rw [h3] at HRF
  clear h1 h2 h3
  go_wp2_with fail
  refine HRF.out.mono ?_
  rintro e w2 ⟨rfl, rfl⟩
  clear HRF
  rcases HCS.out with ⟨rfl, rfl, rfl⟩ | ⟨rfl, rfl, hoi⟩
  · go_wp2_with fail
    go_loopw [8, 9] (fun u i wr => ∃ j p : Nat, j ≤ 300 ∧ p ≤ 300 ∧ i = .int .i64 ((j : Int) - 1) ∧ u = .int .i64 p ∧ Hid (p = plc L j) ∧ wr = w1) (fun _ i _ => (intOf i + 1).toNat)
    case atStart => exact ⟨300, 300, Nat.le_refl _, Nat.le_refl _, rfl, rfl, HPE.out.symm, rfl⟩
    case round =>
      obtain ⟨j, p, hj, hp, rfl, rfl, HP, rfl⟩ := hrel
      rcases j with _ | t
      · have HPP : Hid (p = place L) := by show _ = _; rw [HP.out]; exact HP0.out
        clear HP
        go_wp2_with fail
        refine (awake_any _).mono ?_
        rintro e w3 ⟨rfl, hb3⟩
        have HR3 := Lib.hid (HR1.out.below (hb3.mono hz1))
        have W3 := Lib.hid (W1.out.trans (hb3.mono W1.out.size))
        have hz3 := Nat.le_trans hz1 hb3.size
        clear hb3 HR1 W1
        go_wp2_with fail
        refine (place_any HR3.out hz3).mono ?_
        rw [← HPP.out]
        rintro e w4 ⟨rfl, hb4⟩
        have HR4 := Lib.hid (HR3.out.below (hb4.mono hz3))
        have W4 := Lib.hid (W3.out.trans (hb4.mono W3.out.size))
        have hz4 := Nat.le_trans hz3 hb4.size
        clear hb4 HR3 W3
        have hpp : ((p : Int) == (p : Int)) = true := by simp
        go_wp2_with fail
        refine (names_any HR4.out hz4 (by omega)).mono ?_
        rintro e w5 ⟨v5, rfl, ho5, hb5⟩
        obtain ⟨A5, c5, rfl, hS5⟩ := ho5.strs
        have HR5 := Lib.hid (HR4.out.below (hb5.mono hz4))
        have W5 := Lib.hid (W4.out.trans (hb5.mono W4.out.size))
        have hz5 := Nat.le_trans hz4 hb5.size
        have HS5 := Lib.hid hS5
        clear hb5 HR4 W4 ho5 hS5
        generalize (srt (nms L)).length = m5 at *
        go_wp2_with fail
        refine (refNames_any HR5.out hz5 (by omega)).mono ?_
        rintro e w6 ⟨g6, n6, c6, out, rfl, hout, hS6, hb6⟩
        subst hout
        have W6 := Lib.hid (W5.out.trans (hb6.mono W5.out.size))
        have HS5' := Lib.hid (HS5.out.below hb6)
        have HS6 := Lib.hid hS6
        have hz6 := hb6.size
        clear hb6 W5 HS5 hS6 HR5
        go_wp2_with fail
        refine (same_any HS5'.out HS6.out hz6 (Nat.le_refl _)).mono ?_
        rw [decide_eq_true (rfl : srt (nms L) = srt (nms L))]
        rintro e w7 ⟨rfl, hb7⟩
        have W7 := Lib.hid (W6.out.trans (hb7.mono W6.out.size))
        clear hb7 W6
        go_wp2_with fail
        go_ret
        exact ⟨rfl, W7.out⟩
      · obtain ⟨b, off, r, hAe, hb, hr, hc0, hc1⟩ := HR1.out.get (k := t) (by omega)
        cases hAe
        obtain ⟨a, x⟩ := r
        have HST := HPS t _ hr
        dsimp only at hc0 hc1
        clear hr
        have ej : ((t + 1 : Nat) : Int) - 1 = (t : Int) := by omega
        rw [ej]
        clear ej
        have ht0 : (0 : Int) ≤ (t : Int) := by omega
        by_cases ha : a = []
        · subst ha
          have n0 := nil_yes
          have n0' := nil_yes'
          by_cases hx : x = 0
          · subst hx
            have HP2 : Hid (t = plc L t) := by show _ = _; rw [HST.out, if_pos (show (([], 0) : Rw) = emp from rfl)]
            go_wp2_with fail
            go_roundw
            case rel => exact ⟨t, t, by omega, by omega, rfl, rfl, HP2, by first | rfl | trivial⟩
            case measure => simp [intOf]
          · have hx' : (x == 0) = false := by simpa using hx
            have HP2 : Hid (p = plc L t) := by show _ = _; rw [HST.out, if_neg (by simpa [emp] using hx)]; exact HP.out
            go_wp2_with fail
            go_roundw
            case rel => exact ⟨t, p, by omega, by omega, rfl, rfl, HP2, by first | rfl | trivial⟩
            case measure => simp [intOf]
        · have n0 := nil_no ha
          have n0' := nil_no' ha
          have HP2 : Hid (p = plc L t) := by show _ = _; rw [HST.out, if_neg (by simp [emp, ha])]; exact HP.out
          clear ha
          go_wp2_with fail
          go_roundw
          case rel => exact ⟨t, p, by omega, by omega, rfl, rfl, HP2, by first | rfl | trivial⟩
          case measure => simp [intOf]
  · have hoo : ((oi : Int) == (oi : Int)) = true := by simp
    go_wp2_with fail
    go_loopw [8, 9] (fun u i wr => ∃ j p : Nat, j ≤ 300 ∧ p ≤ 300 ∧ i = .int .i64 ((j : Int) - 1) ∧ u = .int .i64 p ∧ Hid (p = plc L j) ∧ wr = w1) (fun _ i _ => (intOf i + 1).toNat)
    case atStart => exact ⟨300, 300, Nat.le_refl _, Nat.le_refl _, rfl, rfl, HPE.out.symm, rfl⟩
    case round =>
      obtain ⟨j, p, hj, hp, rfl, rfl, HP, rfl⟩ := hrel
      rcases j with _ | t
      · have HPP : Hid (p = place L) := by show _ = _; rw [HP.out]; exact HP0.out
        clear HP
        go_wp2_with fail
        refine (awake_any _).mono ?_
        rintro e w3 ⟨rfl, hb3⟩
        have HR3 := Lib.hid (HR1.out.below (hb3.mono hz1))
        have W3 := Lib.hid (W1.out.trans (hb3.mono W1.out.size))
        have hz3 := Nat.le_trans hz1 hb3.size
        clear hb3 HR1 W1
        go_wp2_with fail
        refine (place_any HR3.out hz3).mono ?_
        rw [← HPP.out]
        rintro e w4 ⟨rfl, hb4⟩
        have HR4 := Lib.hid (HR3.out.below (hb4.mono hz3))
        have W4 := Lib.hid (W3.out.trans (hb4.mono W3.out.size))
        have hz4 := Nat.le_trans hz3 hb4.size
        clear hb4 HR3 W3
        have hpp : ((p : Int) == (p : Int)) = true := by simp
        go_wp2_with fail
        refine (names_any HR4.out hz4 (by omega)).mono ?_
        rintro e w5 ⟨v5, rfl, ho5, hb5⟩
        obtain ⟨A5, c5, rfl, hS5⟩ := ho5.strs
        have HR5 := Lib.hid (HR4.out.below (hb5.mono hz4))
        have W5 := Lib.hid (W4.out.trans (hb5.mono W4.out.size))
        have hz5 := Nat.le_trans hz4 hb5.size
        have HS5 := Lib.hid hS5
        clear hb5 HR4 W4 ho5 hS5
        generalize (srt (nms L)).length = m5 at *
        go_wp2_with fail
        refine (refNames_any HR5.out hz5 (by omega)).mono ?_
        rintro e w6 ⟨g6, n6, c6, out, rfl, hout, hS6, hb6⟩
        subst hout
        have W6 := Lib.hid (W5.out.trans (hb6.mono W5.out.size))
        have HS5' := Lib.hid (HS5.out.below hb6)
        have HS6 := Lib.hid hS6
        have hz6 := hb6.size
        clear hb6 W5 HS5 hS6 HR5
        go_wp2_with fail
        refine (same_any HS5'.out HS6.out hz6 (Nat.le_refl _)).mono ?_
        rw [decide_eq_true (rfl : srt (nms L) = srt (nms L))]
        rintro e w7 ⟨rfl, hb7⟩
        have W7 := Lib.hid (W6.out.trans (hb7.mono W6.out.size))
        clear hb7 W6
        go_wp2_with fail
        go_ret
        exact ⟨rfl, W7.out⟩
      · obtain ⟨b, off, r, hAe, hb, hr, hc0, hc1⟩ := HR1.out.get (k := t) (by omega)
        cases hAe
        obtain ⟨a, x⟩ := r
        have HST := HPS t _ hr
        dsimp only at hc0 hc1
        clear hr
        have ej : ((t + 1 : Nat) : Int) - 1 = (t : Int) := by omega
        rw [ej]
        clear ej
        have ht0 : (0 : Int) ≤ (t : Int) := by omega
        by_cases ha : a = []
        · subst ha
          have n0 := nil_yes
          have n0' := nil_yes'
          by_cases hx : x = 0
          · subst hx
            have HP2 : Hid (t = plc L t) := by show _ = _; rw [HST.out, if_pos (show (([], 0) : Rw) = emp from rfl)]
            go_wp2_with fail
            go_roundw
            case rel => exact ⟨t, t, by omega, by omega, rfl, rfl, HP2, by first | rfl | trivial⟩
            case measure => simp [intOf]
          · have hx' : (x == 0) = false := by simpa using hx
            have HP2 : Hid (p = plc L t) := by show _ = _; rw [HST.out, if_neg (by simpa [emp] using hx)]; exact HP.out
            go_wp2_with fail
            go_roundw
            case rel => exact ⟨t, p, by omega, by omega, rfl, rfl, HP2, by first | rfl | trivial⟩
            case measure => simp [intOf]
        · have n0 := nil_no ha
          have n0' := nil_no' ha
          have HP2 : Hid (p = plc L t) := by show _ = _; rw [HST.out, if_neg (by simp [emp, ha])]; exact HP.out
          clear ha
          go_wp2_with fail
          go_roundw
          case rel => exact ⟨t, p, by omega, by omega, rfl, rfl, HP2, by first | rfl | trivial⟩
          case measure => simp [intOf]
theorem walk (w : World) (A : Option Addr) (n c : Nat) (l : List Rw) (hR : Rws w w.heap.size A n c l) (s : List UInt8) :
    Calls Try.prog 5 #[.slice A n c, .string (bs s)] w fun e w' => e = .returned (.bool true) ∧ Below w.heap.size w w' := by
  by_cases h : n ≤ 300
  · exact walk_short w A n c l hR s h
  · exact walk_long w A n c l hR s (by omega)
end Go.Proofs.Ytdlephffcbkalaa.entryFinds
