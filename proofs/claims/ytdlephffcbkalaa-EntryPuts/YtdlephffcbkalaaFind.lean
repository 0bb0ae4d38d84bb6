/- Find, Place, ref.Find, ref.Rows, ref.Same, walked. -/
import Derived.Test.YtdlephffcbkalaaRow
import Derived.Test.YtdlephffcbkalaaEnc
namespace Go.Proofs.Ytdlephffcbkalaa
open Go.RowKit
set_option linter.unusedVariables false

def find (l : List Rw) (s : List UInt8) : Option Nat := if s = [] then none else l.findIdx? fun r => decide (r.1 = s)
def place (l : List Rw) : Nat := (l.findIdx? fun r => decide (r = emp)).getD l.length
theorem fst_hit {p : Rw → Bool} {l : List Rw} {k : Nat} {r : Rw} (h : l[k]? = some r) (hp : p r = true) (ht : (l.take k).all (fun r => !p r) = true) : l.findIdx? p = some k := by
  obtain ⟨hk, rfl⟩ := List.getElem?_eq_some_iff.1 h
  rw [List.findIdx?_eq_some_iff_getElem]
  refine ⟨hk, hp, fun j hj => ?_⟩
  have := List.all_eq_true.1 ht l[j] (List.mem_take_iff_getElem.2 ⟨j, by omega, rfl⟩)
  simpa using this
theorem fst_none {p : Rw → Bool} {l : List Rw} (ht : l.all (fun r => !p r) = true) : l.findIdx? p = none := by
  rw [List.findIdx?_eq_none_iff]
  intro x hx
  have := List.all_eq_true.1 ht x hx
  simpa using this
def FindP (w : World) (o : Option Nat) (e : Ending) (w' : World) : Prop := e = .returned (.tuple #[.int .i64 (o.getD 0 : Nat), .bool o.isSome]) ∧ Below w.heap.size w w'
set_option maxRecDepth 20000 in
set_option maxHeartbeats 1000000 in
theorem find_any {w : World} {B n c : Nat} {A : Option Addr} {l : List Rw} (s : List UInt8) (h : Rws w B A n c l) (hB : B ≤ w.heap.size) : Calls Try.prog 17 #[.slice A n c, .string (bs s)] w (FindP w (find l s)) := by
  obtain ⟨o, ho⟩ : ∃ o, find l s = o := ⟨_, rfl⟩
  rw [ho]
  have HO := Lib.hid ho
  clear ho
  have H := Lib.hid h
  have HL := Lib.hid h.len
  have hlim := h.lim
  have hcap := h.cap
  unfold maxLen at hlim
  clear h
  by_cases hs : s = []
  · obtain rfl : o = none := by rw [← HO.out]; unfold find; rw [if_pos hs]
    subst hs
    have h0 := nil_yes
    have h0' := nil_yes'
    go_enter Try.func17, Try.ntmps17
    go_wp2_with fail
    go_ret2
    exact ⟨rfl, Below.refl _ _⟩
  · have HF : Hid (find l s = l.findIdx? fun r => decide (r.1 = s)) := by show _ = _; unfold find; rw [if_neg hs]
    have h0 := nil_no hs
    have h0' := nil_no' hs
    clear hs
    go_enter Try.func17, Try.ntmps17
    go_wp2_with fail
    go_loopw [12] (fun i wr => ∃ k : Nat, k ≤ n ∧ i = .int .i64 k ∧ Hid ((l.take k).all (fun r => !decide (r.1 = s)) = true) ∧ Hid (Below w.heap.size w wr)) (fun i _ => n - (intOf i).toNat)
    case atStart => exact ⟨0, Nat.zero_le _, rfl, by simp [Hid], Below.refl _ _⟩
    case round =>
      obtain ⟨k, hk, rfl, HA, HB⟩ := hrel
      by_cases hlt : k < n
      · obtain ⟨b, off, r, rfl, hb, hr, hc0, hc1⟩ := (H.out.below (HB.out.mono hB)).get hlt
        obtain ⟨a, x⟩ := r
        have HR := Lib.hid hr
        have HB2 := fun v => Lib.hid (HB.out.alloc HB.out.size (Obj.cells v 23))
        dsimp only at hc0 hc1
        clear hr
        by_cases he : a = s
        · subst he
          have HX : Hid (o = some k) := by show _ = _; rw [← HO.out, HF.out]; exact fst_hit HR.out (by simp) HA.out
          have h1 : ((bs a).toList == (bs a).toList) = true := by simp
          go_wp2_with fail
          go_ret2
          rw [HX.out]
          exact ⟨rfl, (HB2 _).out⟩
        · have h1 : ((bs a).toList == (bs s).toList) = false := by rw [bs_two]; simpa using he
          have h1' : ¬ (bs a).toList = (bs s).toList := by rw [bs_list, bs_list]; exact he
          have HA2 := Lib.hid (all_take HR.out HA.out (by simpa using he))
          clear he
          go_wp2_with fail
          go_roundw
          case rel => exact ⟨k + 1, by omega, by go_num, HA2, (HB2 _).out⟩
          case measure => simp [intOf]; omega
      · obtain rfl : k = n := by omega
        have HX : Hid (o = none) := by
          show _ = _
          rw [← HO.out, HF.out]
          have := HA.out
          rw [List.take_of_length_le (by rw [HL.out]; omega)] at this
          exact fst_none this
        go_wp2_with fail
        go_ret2
        rw [HX.out]
        exact ⟨rfl, HB.out⟩
set_option maxRecDepth 20000 in
set_option maxHeartbeats 1000000 in
theorem place_any {w : World} {B n c : Nat} {A : Option Addr} {l : List Rw} (h : Rws w B A n c l) (hB : B ≤ w.heap.size) : Calls Try.prog 18 #[.slice A n c] w fun e w' => e = .returned (.int .i64 (place l : Nat)) ∧ Below w.heap.size w w' := by
  obtain ⟨o, ho⟩ : ∃ o, place l = o := ⟨_, rfl⟩
  rw [ho]
  have HO := Lib.hid ho
  clear ho
  have H := Lib.hid h
  have HL := Lib.hid h.len
  have hlim := h.lim
  have hcap := h.cap
  unfold maxLen at hlim
  clear h
  go_enter Try.func18, Try.ntmps18
  go_wp2_with fail
  go_loopw [7] (fun i wr => ∃ k : Nat, k ≤ n ∧ i = .int .i64 k ∧ Hid ((l.take k).all (fun r => !decide (r = emp)) = true) ∧ Hid (Below w.heap.size w wr)) (fun i _ => n - (intOf i).toNat)
  case atStart => exact ⟨0, Nat.zero_le _, rfl, by simp [Hid], Below.refl _ _⟩
  case round =>
    obtain ⟨k, hk, rfl, HA, HB⟩ := hrel
    by_cases hlt : k < n
    · obtain ⟨b, off, r, rfl, hb, hr, hc0, hc1⟩ := (H.out.below (HB.out.mono hB)).get hlt
      obtain ⟨a, x⟩ := r
      have HR := Lib.hid hr
      have HB2 := fun v => Lib.hid (HB.out.alloc HB.out.size (Obj.cells v 23))
      dsimp only at hc0 hc1
      clear hr
      by_cases ha : a = []
      · subst ha
        have h0 := nil_yes
        have h0' := nil_yes'
        by_cases hx : x = 0
        · subst hx
          have HX : Hid (o = k) := by show _ = _; rw [← HO.out]; unfold place; rw [fst_hit HR.out (by rfl) HA.out]; rfl
          go_wp2_with fail
          go_ret
          rw [HX.out]
          exact ⟨rfl, (HB2 _).out⟩
        · have hx' : (x == 0) = false := by simpa using hx
          have HA2 := Lib.hid (all_take HR.out HA.out (by simpa [emp] using hx))
          go_wp2_with fail
          go_roundw
          case rel => exact ⟨k + 1, by omega, by go_num, HA2, (HB2 _).out⟩
          case measure => simp [intOf]; omega
      · have h0 := nil_no ha
        have h0' := nil_no' ha
        have HA2 := Lib.hid (all_take HR.out HA.out (by simp [emp, ha]))
        clear ha
        go_wp2_with fail
        go_roundw
        case rel => exact ⟨k + 1, by omega, by go_num, HA2, (HB2 _).out⟩
        case measure => simp [intOf]; omega
    · obtain rfl : k = n := by omega
      have HX : Hid (o = k) := by
        show _ = _
        have := HA.out
        rw [List.take_of_length_le (by rw [HL.out]; omega)] at this
        rw [← HO.out]
        unfold place
        rw [fst_none this]
        exact HL.out
      go_wp2_with fail
      go_ret
      rw [HX.out]
      exact ⟨rfl, HB.out⟩
def fnum : Option Nat → Int
  | none => -1
  | some k => k
theorem find_not {l : List Rw} {s : List UInt8} (h : l.all (fun r => !(decide (r.1 = s) && decide (s ≠ []))) = true) : find l s = none := by
  unfold find
  split
  · rfl
  · rename_i hs
    refine fst_none ?_
    rw [List.all_eq_true] at *
    intro x hx
    have := h x hx
    simp only [hs, ne_eq, not_false_eq_true, decide_true, Bool.and_true] at this
    exact this
set_option maxRecDepth 20000 in
set_option maxHeartbeats 1000000 in
theorem refFind_any {w : World} {B n c : Nat} {A : Option Addr} {l : List Rw} (s : List UInt8) (h : Rws w B A n c l) : Calls Try.prog 15 #[.slice A n c, .string (bs s)] w fun e w' => e = .returned (.int .i64 (fnum (find l s))) ∧ w = w' := by
  obtain ⟨o, ho⟩ : ∃ o, find l s = o := ⟨_, rfl⟩
  rw [ho]
  have HO := Lib.hid ho
  clear ho
  have H := Lib.hid h
  have HL := Lib.hid h.len
  have hlim := h.lim
  have hcap := h.cap
  unfold maxLen at hlim
  clear h
  go_enter Try.func15, Try.ntmps15
  go_wp2_with fail
  go_loop [5] (fun i => ∃ k : Nat, k ≤ n ∧ i = .int .i64 k ∧ Hid ((l.take k).all (fun r => !(decide (r.1 = s) && decide (s ≠ []))) = true)) (fun i => n - (intOf i).toNat)
  case atStart => exact ⟨0, Nat.zero_le _, rfl, by simp [Hid]⟩
  case round =>
    obtain ⟨k, hk, rfl, HA⟩ := hrel
    by_cases hlt : k < n
    · obtain ⟨b, off, r, rfl, hb, hr, hc0, hc1⟩ := H.out.get hlt
      obtain ⟨a, x⟩ := r
      have HR := Lib.hid hr
      dsimp only at hc0 hc1
      clear hr
      by_cases he : a = s
      · subst he
        by_cases hs : a = []
        · subst hs
          have HA2 := Lib.hid (all_take HR.out HA.out (by simp))
          have h0 := nil_yes
          have h0' := nil_yes'
          go_wp2_with fail
          go_round
          case rel => exact ⟨k + 1, by omega, by go_num, HA2⟩
          case measure => simp [intOf]; omega
        · have HX : Hid (o = some k) := by
            show _ = _
            rw [← HO.out]
            unfold find
            rw [if_neg hs]
            refine fst_hit HR.out (by simp) ?_
            have := HA.out
            rw [List.all_eq_true] at *
            intro x hx
            have := this x hx
            simp only [hs, ne_eq, not_false_eq_true, decide_true, Bool.and_true] at this
            exact this
          have h0 := nil_no hs
          have h0' := nil_no' hs
          have h1 : ((bs a).toList == (bs a).toList) = true := by simp
          go_wp2_with fail
          go_ret
          rw [HX.out]
          exact ⟨rfl, rfl⟩
      · have h1 : ((bs a).toList == (bs s).toList) = false := by rw [bs_two]; simpa using he
        have h1' : ¬ (bs a).toList = (bs s).toList := by rw [bs_list, bs_list]; exact he
        have HA2 := Lib.hid (all_take HR.out HA.out (by simp [he]))
        clear he
        go_wp2_with fail
        go_round
        case rel => exact ⟨k + 1, by omega, by go_num, HA2⟩
        case measure => simp [intOf]; omega
    · obtain rfl : k = n := by omega
      have HX : Hid (o = none) := by
        show _ = _
        have := HA.out
        rw [List.take_of_length_le (by rw [HL.out]; omega)] at this
        rw [← HO.out]
        exact find_not this
      go_wp2_with fail
      go_ret
      rw [HX.out]
      exact ⟨rfl, rfl⟩
theorem take_eq {α : Type} {l l' : List α} {k : Nat} {x y : α} (h1 : l[k]? = some x) (h2 : l'[k]? = some y) (h : l.take k = l'.take k) : l.take (k + 1) = l'.take (k + 1) ↔ x = y := by
  obtain ⟨hk, rfl⟩ := List.getElem?_eq_some_iff.1 h1
  obtain ⟨hk', rfl⟩ := List.getElem?_eq_some_iff.1 h2
  rw [List.take_succ_eq_append_getElem hk, List.take_succ_eq_append_getElem hk', h, List.append_right_inj]
  simp only [List.cons.injEq, and_true]
set_option maxRecDepth 20000 in
set_option maxHeartbeats 1000000 in
theorem rows_any {w : World} {B n c B' n' c' : Nat} {A A' : Option Addr} {l l' : List Rw} (h : Rws w B A n c l) (h' : Rws w B' A' n' c' l') (hB : B ≤ w.heap.size) (hB' : B' ≤ w.heap.size) : Calls Try.prog 16 #[.slice A n c, .slice A' n' c'] w fun e w' => e = .returned (.bool (decide (l = l'))) ∧ Below w.heap.size w w' := by
  have H := Lib.hid h
  have H' := Lib.hid h'
  have HL := Lib.hid h.len
  have HL' := Lib.hid h'.len
  have hlim := h.lim
  have hcap := h.cap
  have hlim' := h'.lim
  have hcap' := h'.cap
  unfold maxLen at hlim hlim'
  clear h h'
  by_cases hn : n = n'
  · subst hn
    go_enter Try.func16, Try.ntmps16
    go_wp2_with fail
    go_loopw [5] (fun i wr => ∃ k : Nat, k ≤ n ∧ i = .int .i64 k ∧ Hid (l.take k = l'.take k) ∧ Hid (Below w.heap.size w wr)) (fun i _ => n - (intOf i).toNat)
    case atStart => exact ⟨0, Nat.zero_le _, rfl, by simp [Hid], Below.refl _ _⟩
    case round =>
      obtain ⟨k, hk, rfl, HE, HB⟩ := hrel
      by_cases hlt : k < n
      · obtain ⟨b, off, r, rfl, hb, hr, hc0, hc1⟩ := (H.out.below (HB.out.mono hB)).get hlt
        obtain ⟨b', off', r', rfl, hb', hr', hd0, hd1⟩ := (H'.out.below (HB.out.mono hB')).get hlt
        have HT := Lib.hid (take_eq hr hr' HE.out)
        have HNE : r ≠ r' → Hid (decide (l = l') = false) := fun hne => by
          show _ = _
          rw [decide_eq_false_iff_not]
          intro e
          rw [e, hr'] at hr
          cases hr
          exact hne rfl
        obtain ⟨a, x⟩ := r
        obtain ⟨a', x'⟩ := r'
        dsimp only at hc0 hc1 hd0 hd1
        clear hr hr'
        by_cases ha : a = a'
        · subst ha
          have h1 : ((bs a).toList == (bs a).toList) = true := by simp
          by_cases hx : x = x'
          · subst hx
            have HT2 := Lib.hid (HT.out.2 rfl)
            have hx1 : (x == x) = true := by simp
            clear HNE
            go_wp2_with fail
            go_quiet (fail)
            go_wp2_with fail
            go_roundw
            case rel => exact ⟨k + 1, by omega, by go_num, HT2, below_drewN HB.out _⟩
            case measure => simp [intOf]; omega
          · have HN := HNE (by simpa using hx)
            have hx1 : (x == x') = false := by simpa using hx
            clear HNE
            go_wp2_with fail
            go_quiet (fail)
            go_wp2_with fail
            go_ret
            exact ⟨retb HN.out.symm, below_drewN HB.out _⟩
        · have HN := HNE (by simp [ha])
          have h1 : ((bs a).toList == (bs a').toList) = false := by rw [bs_two]; simpa using ha
          have h1' : ¬ (bs a).toList = (bs a').toList := by rw [bs_list, bs_list]; exact ha
          clear HNE ha
          go_wp2_with fail
          go_quiet (fail)
          go_wp2_with fail
          go_ret
          exact ⟨retb HN.out.symm, below_drewN HB.out _⟩
      · obtain rfl : k = n := by omega
        have HN : Hid (decide (l = l') = true) := by
          show _ = _
          have := HE.out
          rw [List.take_of_length_le (by rw [HL.out]; omega), List.take_of_length_le (by rw [HL'.out]; omega)] at this
          simp [this]
        go_wp2_with fail
        go_ret
        exact ⟨retb HN.out.symm, HB.out⟩
  · have hn' : ((n : Int) != (n' : Int)) = true := by rw [bne_iff_ne]; omega
    have HN : Hid (decide (l = l') = false) := by
      show _ = _
      simp only [decide_eq_false_iff_not]
      intro e
      apply hn
      rw [← HL.out, ← HL'.out, e]
    go_enter Try.func16, Try.ntmps16
    go_wp2_with fail
    go_ret
    exact ⟨retb HN.out.symm, Below.refl _ _⟩
set_option maxRecDepth 20000 in
set_option maxHeartbeats 1000000 in
theorem same_any {w : World} {B n c B' n' c' : Nat} {A A' : Option Addr} {l l' : List (List UInt8)} (h : Strs w B A n c l) (h' : Strs w B' A' n' c' l') (hB : B ≤ w.heap.size) (hB' : B' ≤ w.heap.size) :
    Calls Try.prog 19 #[.slice A n c, .slice A' n' c'] w fun e w' => e = .returned (.bool (decide (l = l'))) ∧ Below w.heap.size w w' := by
  have H := Lib.hid h
  have H' := Lib.hid h'
  have HL := Lib.hid h.len
  have HL' := Lib.hid h'.len
  have hlim := h.lim
  have hcap := h.cap
  have hlim' := h'.lim
  have hcap' := h'.cap
  unfold maxLen at hlim hlim'
  clear h h'
  by_cases hn : n = n'
  · subst hn
    go_enter Try.func19, Try.ntmps19
    go_wp2
    go_loopw [5] (fun i wr => ∃ k : Nat, k ≤ n ∧ i = .int .i64 k ∧ Hid (l.take k = l'.take k) ∧ Hid (Below w.heap.size w wr)) (fun i _ => n - (intOf i).toNat)
    case atStart => exact ⟨0, Nat.zero_le _, rfl, by simp [Hid], Below.refl _ _⟩
    case round =>
      obtain ⟨k, hk, rfl, HE, HB⟩ := hrel
      by_cases hlt : k < n
      · obtain ⟨b, off, rfl, hb, hcell⟩ := (H.out.below (HB.out.mono hB)).cell hlt
        obtain ⟨b', off', rfl, hb', hcell'⟩ := (H'.out.below (HB.out.mono hB')).cell hlt
        have HT := Lib.hid (take_eq (get_of (d := []) HL.out hlt) (get_of (d := []) HL'.out hlt) HE.out)
        by_cases he : l[k]?.getD [] = l'[k]?.getD []
        · have HT2 := Lib.hid (HT.out.2 he)
          rw [← he] at hcell'
          clear he HT
          generalize bs (l[k]?.getD []) = x at *
          go_wp2
          go_quiet (fail)
          go_wp2
          go_roundw
          case rel => exact ⟨k + 1, by omega, by go_num, HT2, below_drewN HB.out _⟩
          case measure => simp [intOf]; omega
        · have HN : Hid (decide (l = l') = false) := by
            show _ = _
            simp only [decide_eq_false_iff_not]
            exact fun e => he (by rw [e])
          have hne : ((bs (l[k]?.getD [])).toList == (bs (l'[k]?.getD [])).toList) = false := by rw [bs_list, bs_list]; simpa using he
          have hne' : ¬ (bs (l[k]?.getD [])).toList = (bs (l'[k]?.getD [])).toList := by rw [bs_list, bs_list]; simpa using he
          clear he HT
          generalize bs (l[k]?.getD []) = x at *
          generalize bs (l'[k]?.getD []) = y at *
          go_wp2
          go_quiet (fail)
          go_wp2
          go_ret
          exact ⟨retb HN.out.symm, below_drewN HB.out _⟩
      · obtain rfl : k = n := by omega
        have HN : Hid (decide (l = l') = true) := by
          show _ = _
          have := HE.out
          rw [List.take_of_length_le (by rw [HL.out]; omega), List.take_of_length_le (by rw [HL'.out]; omega)] at this
          simp [this]
        go_wp2
        go_ret
        exact ⟨retb HN.out.symm, HB.out⟩
  · have hn' : ((n : Int) != (n' : Int)) = true := by rw [bne_iff_ne]; omega
    have HN : Hid (decide (l = l') = false) := by
      show _ = _
      simp only [decide_eq_false_iff_not]
      intro e
      apply hn
      rw [← HL.out, ← HL'.out, e]
    go_enter Try.func19, Try.ntmps19
    go_wp2
    go_ret
    exact ⟨retb HN.out.symm, Below.refl _ _⟩
end Go.Proofs.Ytdlephffcbkalaa
