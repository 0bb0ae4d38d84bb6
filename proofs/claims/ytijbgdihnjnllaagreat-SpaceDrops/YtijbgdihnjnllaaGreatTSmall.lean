/- tree.Route, tree.allowed, tree.Blocks, bytes.Equal, copyholdref06.Ints, walked. -/
import Derived.Test.YtijbgdihnjnllaaGreatTWords
namespace Go.Proofs.YtijbgdihnjnllaaGreat.T
open Go.RowKit
set_option linter.unusedVariables false

/-- Numbers in a row of the call's own, and OK. -/
def GivesInts (w : World) (l : List Int) (e : Ending) (w' : World) : Prop :=
  ∃ g, e = .returned (.tuple #[.slice (some ⟨g, 0, none⟩) l.length l.length, .int .i64 0]) ∧ Ints w' w'.heap.size (some ⟨g, 0, none⟩) l.length l.length l ∧ Below w.heap.size w w' ∧ w.heap.size ≤ g
def Refuses (w : World) (x : Int) (e : Ending) (w' : World) : Prop := e = .returned (.tuple #[.slice none 0 0, .int .i64 x]) ∧ w = w'
theorem gives_new (w : World) (l : List Int) (hl : l.length ≤ 1000000) : GivesInts w l (.returned (.tuple #[.slice (some ⟨w.heap.size, 0, none⟩) l.length l.length, .int .i64 0])) (w.alloc (.cells (l.map iv).toArray 3)) :=
  ⟨_, rfl, (ints_new w l 3 (0, 0) hl).more (by simp), box_below _ _, Nat.le_refl _⟩
theorem route_no (n : Int) (w : World) (h : n < 0 ∨ 76 ≤ n) (hb : -9223372036854775808 ≤ n ∧ n ≤ 9223372036854775807) : Calls Tryz.prog 127 #[.int .i64 n] w (Refuses w 4) := by
  rcases h with h | h
  · go_enter Tryz.func127, Tryz.ntmps127
    go_wp2_with fail
    go_ret2
    exact ⟨rfl, rfl⟩
  · go_enter Tryz.func127, Tryz.ntmps127
    go_wp2_with fail
    go_ret2
    exact ⟨rfl, rfl⟩
theorem route_yes (k : Nat) (w : World) (hk : k < 76) : Calls Tryz.prog 127 #[.int .i64 k] w (GivesInts w (route k)) := by
  by_cases h1 : k < 4
  · have HR : Hid (route k = [(k : Int)]) := route_one h1
    go_enter Tryz.func127, Tryz.ntmps127
    go_wp2_with fail
    go_ret2
    rw [HR.out]
    exact gives_new w [(k : Int)] (by simp)
  · by_cases h2 : k < 12
    · have HR : Hid (route k = [4, (k : Int) - 4]) := by show _ = _; unfold route; rw [if_neg h1, if_pos h2]
      go_enter Tryz.func127, Tryz.ntmps127
      go_wp2_with fail
      go_ret2
      rw [HR.out]
      exact gives_new w [4, (k : Int) - 4] (by simp)
    · have HR : Hid (route k = [5, ((k : Int) - 4 - 8) / 8, ((k : Int) - 4) % 8]) := by
        show _ = _
        unfold route
        rw [if_neg h1, if_neg h2, show (k : Int) - 12 = (k : Int) - 4 - 8 by omega, show ((k : Int) - 4 - 8) % 8 = ((k : Int) - 4) % 8 by omega]
      go_enter Tryz.func127, Tryz.ntmps127
      go_wp2_with fail
      go_ret2
      rw [HR.out]
      exact gives_new w [5, ((k : Int) - 4 - 8) / 8, ((k : Int) - 4) % 8] (by simp)
theorem allowed_any (n : Int) (w : World) : Calls Tryz.prog 182 #[.int .i64 n] w fun e w' => e = .returned (.bool (okp n)) ∧ w = w' := by
  by_cases h0 : n = 0
  · subst h0
    go_enter Tryz.func182, Tryz.ntmps182
    go_wp2_with fail
    go_ret
    exact ⟨rfl, rfl⟩
  · have h0' : (n == 0) = false := by simpa using h0
    by_cases h1 : 43 ≤ n
    · by_cases h2 : n < 1024
      · have HO : Hid (okp n = true) := okp_iff.2 (.inr ⟨h1, h2⟩)
        go_enter Tryz.func182, Tryz.ntmps182
        go_wp2_with fail
        go_ret
        exact ⟨retb HO.out.symm, rfl⟩
      · have HO : Hid (okp n = false) := by show _ = _; rw [Bool.eq_false_iff, Ne, okp_iff]; omega
        go_enter Tryz.func182, Tryz.ntmps182
        go_wp2_with fail
        go_ret
        exact ⟨retb HO.out.symm, rfl⟩
    · have HO : Hid (okp n = false) := by show _ = _; rw [Bool.eq_false_iff, Ne, okp_iff]; omega
      go_enter Tryz.func182, Tryz.ntmps182
      go_wp2_with fail
      go_ret
      exact ⟨retb HO.out.symm, rfl⟩
theorem blocks_any (n : Int) (w : World) (hb : -9223372036854775808 ≤ n ∧ n ≤ 9223372036854775807) : Calls Tryz.prog 58 #[.int .i64 n] w fun e w' => e = .returned (.int .i64 (blocks n)) ∧ w = w' := by
  by_cases h : n < 1
  · have HO : Hid (blocks n = 0) := if_pos h
    go_enter Tryz.func58, Tryz.ntmps58
    go_wp2_with fail
    go_ret
    exact ⟨ret1 HO.out.symm, rfl⟩
  · have HO : Hid (blocks n = (n - 1) / 128 + 1) := if_neg h
    go_enter Tryz.func58, Tryz.ntmps58
    go_wp2_with fail
    go_ret
    exact ⟨ret1 HO.out.symm, rfl⟩
theorem equal_any {w : World} {B B' n c n' c' : Nat} {A A' : Option Addr} {l l' : List UInt8} (h : Bts w B A n c l) (h' : Bts w B' A' n' c' l') :
    Calls Tryz.prog 163 #[.slice A n c, .slice A' n' c'] w fun e w' => e = .returned (.bool (decide (l = l'))) ∧ w = w' := by
  have h1 := fstr h w (Below.refl _ _)
  have h2 := fstr h' w (Below.refl _ _)
  have HE := Lib.hid (sb_list l l')
  clear h h'
  go_enter Tryz.func163, Tryz.ntmps163
  go_wp2_with fail
  go_ret
  exact ⟨retb HE.out, rfl⟩
theorem take_eq {l l' : List Int} {k : Nat} {x y : Int} (h1 : l[k]? = some x) (h2 : l'[k]? = some y) (h : l.take k = l'.take k) : l.take (k + 1) = l'.take (k + 1) ↔ x = y := by
  obtain ⟨hk, rfl⟩ := List.getElem?_eq_some_iff.1 h1
  obtain ⟨hk', rfl⟩ := List.getElem?_eq_some_iff.1 h2
  rw [List.take_succ_eq_append_getElem hk, List.take_succ_eq_append_getElem hk', h, List.append_right_inj]
  simp only [List.cons.injEq, and_true]
set_option maxRecDepth 20000 in
set_option maxHeartbeats 1000000 in
theorem ints_any {w : World} {B B' n c n' c' : Nat} {A A' : Option Addr} {l l' : List Int} (h : Ints w B A n c l) (h' : Ints w B' A' n' c' l') :
    Calls Tryz.prog 25 #[.slice A n c, .slice A' n' c'] w fun e w' => e = .returned (.bool (decide (l = l'))) ∧ Below w.heap.size w w' := by
  have HI := Lib.hid h
  have HI' := Lib.hid h'
  have HL := Lib.hid h.len
  have HL' := Lib.hid h'.len
  have hlim := h.lim
  have hlim' := h'.lim
  have hcap := h.cap
  have hcap' := h'.cap
  unfold maxLen at hlim hlim'
  clear h h'
  by_cases hn : n = n'
  · subst hn
    go_enter Tryz.func25, Tryz.ntmps25
    go_wp2_with fail
    go_loopw [5] (fun i wr => ∃ k : Nat, k ≤ n ∧ i = .int .i64 k ∧ Hid (l.take k = l'.take k) ∧ Hid (Below w.heap.size w wr ∧ ∀ p, wr.cell? p = w.cell? p)) (fun i _ => n - (intOf i).toNat)
    case atStart => exact ⟨0, Nat.zero_le _, rfl, by simp [Hid], ⟨Below.refl _ _, fun _ => rfl⟩⟩
    case round =>
      obtain ⟨k, hk, rfl, HN, HB⟩ := hrel
      by_cases hlt : k < n
      · obtain ⟨b, off, rfl, hb, hc⟩ := (HI.out.keep (w' := wr) fun p _ => HB.out.2 p).cell hlt
        obtain ⟨b', off', rfl, hb', hc'⟩ := (HI'.out.keep (w' := wr) fun p _ => HB.out.2 p).cell hlt
        have HX : Hid (l[k]? = some (l[k]?.getD 0)) := get_of HL.out hlt
        have HX' : Hid (l'[k]? = some (l'[k]?.getD 0)) := get_of HL'.out hlt
        generalize l[k]?.getD 0 = x at *
        generalize l'[k]?.getD 0 = x' at *
        have HT := Lib.hid (take_eq HX.out HX'.out HN.out)
        by_cases hxy : x = x'
        · subst hxy
          go_wp2_with fail
          go_quiet (fail)
          go_wp2_with fail
          go_roundw
          case rel => exact ⟨k + 1, by omega, by go_num, HT.out.2 trivial, ⟨below_drewN HB.out.1 _, HB.out.2⟩⟩
          case measure => simp [intOf]; omega
        · have hxy' : (x == x') = false := by simpa using hxy
          have HD : Hid (decide (l = l') = false) := by
            show _ = _
            rw [decide_eq_false_iff_not]
            intro e
            exact hxy (HT.out.1 (by rw [e]))
          clear hxy
          go_wp2_with fail
          go_quiet (fail)
          go_wp2_with fail
          go_ret
          exact ⟨retb HD.out.symm, below_drewN HB.out.1 _⟩
      · obtain rfl : k = n := by omega
        have HD : Hid (decide (l = l') = true) := by
          show _ = _
          have := HN.out
          rw [List.take_of_length_le (by rw [HL.out]; omega), List.take_of_length_le (by rw [HL'.out]; omega)] at this
          simpa using this
        go_wp2_with fail
        go_ret
        exact ⟨retb HD.out.symm, HB.out.1⟩
  · have hn1 : ((n : Int) != n') = true := by simp; omega
    have HD : Hid (decide (l = l') = false) := by
      show _ = _
      rw [decide_eq_false_iff_not]
      intro e
      exact hn (by rw [← HL.out, ← HL'.out, e])
    go_enter Tryz.func25, Tryz.ntmps25
    go_wp2_with fail
    go_ret
    exact ⟨retb HD.out.symm, Below.refl _ _⟩
end Go.Proofs.YtijbgdihnjnllaaGreat.T
