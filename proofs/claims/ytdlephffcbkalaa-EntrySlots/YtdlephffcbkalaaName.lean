/- sign, barred, ref.Name and path.Name, walked. -/
import Derived.Test.YtdlephffcbkalaaWords
import Derived.Lib.Strings
namespace Go.Proofs.Ytdlephffcbkalaa
open Go.RowKit
set_option linter.unusedVariables false

set_option maxHeartbeats 1000000 in
theorem sign_any (c : UInt8) (w : World) : Calls Try.prog 32 #[.int .u8 (c.toNat : Int)] w fun e w' => e = .returned (.bool (signB c)) ∧ w = w' := by
  have e : signB c = (decide ((97 : Int) ≤ (c.toNat : Int)) && decide ((c.toNat : Int) ≤ 122) || decide ((65 : Int) ≤ (c.toNat : Int)) && decide ((c.toNat : Int) ≤ 90) || decide ((48 : Int) ≤ (c.toNat : Int)) && decide ((c.toNat : Int) ≤ 57) || decide ((c.toNat : Int) = 46) || decide ((c.toNat : Int) = 95) || decide ((c.toNat : Int) = 45)) := by
    unfold signB
    rw [Bool.eq_iff_iff]
    simp [u8le, u8eq]
  have E := Lib.hid e
  clear e
  generalize (c.toNat : Int) = z at *
  go_enter Try.func32, Try.ntmps32
  go_wp2
  all_goals
    go_ret
    rw [E.out]
    exact ⟨retb (by rw [Bool.eq_iff_iff]; simp <;> omega), rfl⟩
set_option maxHeartbeats 1000000 in
theorem barred_any (c : UInt8) (w : World) : Calls Try.prog 31 #[.int .u8 (c.toNat : Int)] w fun e w' => e = .returned (.bool (!signB c)) ∧ w = w' := by
  have e : signB c = (decide ((97 : Int) ≤ (c.toNat : Int)) && decide ((c.toNat : Int) ≤ 122) || decide ((65 : Int) ≤ (c.toNat : Int)) && decide ((c.toNat : Int) ≤ 90) || decide ((48 : Int) ≤ (c.toNat : Int)) && decide ((c.toNat : Int) ≤ 57) || decide ((c.toNat : Int) = 46) || decide ((c.toNat : Int) = 95) || decide ((c.toNat : Int) = 45)) := by
    unfold signB
    rw [Bool.eq_iff_iff]
    simp [u8le, u8eq]
  have E := Lib.hid e
  clear e
  generalize (c.toNat : Int) = z at *
  go_enter Try.func31, Try.ntmps31
  go_wp2
  all_goals
    go_ret
    rw [E.out]
    exact ⟨retb (by rw [Bool.eq_iff_iff]; simp <;> omega), rfl⟩
theorem name_short {s : ByteArray} (h : ¬ 1 ≤ s.size) : nameB s.data.toList = false := by
  rw [Lib.size_eq] at h
  generalize s.data.toList = l at *
  simp [nameB]
  omega
theorem name_long {s : ByteArray} (h : ¬ s.size ≤ 24) : nameB s.data.toList = false := by
  rw [Lib.size_eq] at h
  generalize s.data.toList = l at *
  simp [nameB]
  omega
theorem name_dot {s : ByteArray} (h : s.toList = [46]) : nameB s.data.toList = false := by
  rw [← Lib.toList_data, h]
  decide
theorem name_dots {s : ByteArray} (h : s.toList = [46, 46]) : nameB s.data.toList = false := by
  rw [← Lib.toList_data, h]
  decide
theorem name_rest {s : ByteArray} (h1 : 1 ≤ s.size) (h2 : s.size ≤ 24) (h3 : ¬ s.toList = [46]) (h4 : ¬ s.toList = [46, 46]) : nameB s.data.toList = s.data.toList.all signB := by
  rw [Lib.size_eq] at h1 h2
  rw [Lib.toList_data] at h3 h4
  generalize s.data.toList = l at *
  simp [nameB, h1, h2, h3, h4]
theorem all_takeS {s : ByteArray} {k : Nat} (h : k < s.size) : (s.data.toList.take (k + 1)).all signB = ((s.data.toList.take k).all signB && signB s[k]) := by
  rw [List.take_succ_eq_append_getElem (by simpa using h), List.all_append]
  simp
  rfl
theorem all_notS {s : ByteArray} {k : Nat} (h : k < s.size) (hk : signB s[k] = false) : s.data.toList.all signB = false := by
  rw [List.all_eq_false]
  refine ⟨s[k], ?_, by simp [hk]⟩
  exact List.getElem_mem (by simpa using h)
theorem all_done {s : ByteArray} {k : Nat} (h : ¬ k < s.size) (hk : (s.data.toList.take k).all signB = true) : s.data.toList.all signB = true := by
  rwa [List.take_of_length_le (by rw [← Lib.size_eq]; omega)] at hk
set_option maxHeartbeats 1000000 in
theorem refName_any (s : ByteArray) (w : World) : Calls Try.prog 25 #[.string s] w fun e w' => e = .returned (.bool (nameB s.data.toList)) ∧ w = w' := by
  by_cases h1 : 1 ≤ s.size
  · by_cases h2 : s.size ≤ 24
    · by_cases h3 : s.toList = [46]
      · have h3' := Lib.hid h3
        go_enter Try.func25, Try.ntmps25
        go_wp2
        go_ret
        exact ⟨retb (name_dot h3'.out).symm, rfl⟩
      by_cases h4 : s.toList = [46, 46]
      · have h4' := Lib.hid h4
        go_enter Try.func25, Try.ntmps25
        go_wp2
        go_ret
        exact ⟨retb (name_dots h4'.out).symm, rfl⟩
      have HR := Lib.hid (name_rest h1 h2 h3 h4)
      have h3' : (s.toList == [46]) = false := by simpa using h3
      have h4' : (s.toList == [46, 46]) = false := by simpa using h4
      go_enter Try.func25, Try.ntmps25
      go_wp2
      go_loop [3] (fun i => ∃ k : Nat, k ≤ s.size ∧ i = .int .i64 k ∧ Hid ((s.data.toList.take k).all signB = true)) (fun i => s.size - (intOf i).toNat)
      case atStart => exact ⟨0, Nat.zero_le _, rfl, rfl⟩
      case round =>
        obtain ⟨k, hk, rfl, HA⟩ := hrel
        by_cases hlt : k < s.size
        · have HT := Lib.hid (all_takeS hlt)
          by_cases hs : signB s[k] = true
          · go_wp2_with (go_at_call 32; refine (sign_any _ _).mono ?_; rintro e w' ⟨rfl, rfl⟩)
            go_round
            case rel => exact ⟨k + 1, by omega, by go_num, show _ = _ by rw [HT.out, HA.out, hs]; rfl⟩
            case measure => simp [intOf]; omega
          · have hs' : signB s[k] = false := by simpa using hs
            have HN := Lib.hid (all_notS hlt hs')
            go_wp2_with (go_at_call 32; refine (sign_any _ _).mono ?_; rintro e w' ⟨rfl, rfl⟩)
            go_ret
            exact ⟨retb (by rw [HR.out, HN.out]), rfl⟩
        · have HD := Lib.hid (all_done hlt HA.out)
          go_wp2
          go_ret
          exact ⟨retb (by rw [HR.out, HD.out]), rfl⟩
    · have h2' : decide ((24 : Int) < s.size) = true := by simp; omega
      go_enter Try.func25, Try.ntmps25
      go_wp2
      go_ret
      exact ⟨retb (name_long h2).symm, rfl⟩
  · go_enter Try.func25, Try.ntmps25
    go_wp2
    go_ret
    exact ⟨retb (name_short h1).symm, rfl⟩
/-- The slice holds the bytes of s, and lies in the block g. -/
def Byt (w : World) (g : Nat) (s : ByteArray) : Prop := ∀ k (h : k < s.size), w.cell? ⟨g, k, none⟩ = some (.int .u8 ((s[k]'h).toNat : Int))
def allB (s : ByteArray) : Bool := s.data.toList.all signB
def IndexPost (s : ByteArray) (w : World) (e : Ending) (w' : World) : Prop := ∃ z : Int, e = .returned (.int .i64 z) ∧ -1 ≤ z ∧ z ≤ 24 ∧ (0 ≤ z ↔ allB s = false) ∧ w = w'
set_option maxHeartbeats 1000000 in
theorem indexFunc_any (s : ByteArray) (g c : Nat) (w : World) (hs : s.size ≤ 24) (hc : Byt w g s) : Calls Try.prog 36 #[.slice (some ⟨g, 0, none⟩) s.size c, .func (.func 31) #[] #[]] w (IndexPost s w) := by
  have HC := Lib.hid hc
  clear hc
  go_enter Try.func36, Try.ntmps36
  go_wp2
  go_loop [8] (fun i => ∃ k : Nat, k ≤ s.size ∧ i = .int .i64 k ∧ Hid ((s.data.toList.take k).all signB = true)) (fun i => s.size - (intOf i).toNat)
  case atStart => exact ⟨0, Nat.zero_le _, rfl, rfl⟩
  case round =>
    obtain ⟨k, hk, rfl, HA⟩ := hrel
    by_cases hlt : k < s.size
    · have HT := Lib.hid (all_takeS hlt)
      have hcell := HC.out k hlt
      by_cases hs : signB s[k] = true
      · go_wp2_with (go_at_call 31; refine (barred_any _ _).mono ?_; rintro e w' ⟨rfl, rfl⟩)
        go_round
        case rel => exact ⟨k + 1, by omega, by go_num, show _ = _ by rw [HT.out, HA.out, hs]; rfl⟩
        case measure => simp [intOf]; omega
      · have hs' : signB s[k] = false := by simpa using hs
        have HN := Lib.hid (all_notS hlt hs')
        go_wp2_with (go_at_call 31; refine (barred_any _ _).mono ?_; rintro e w' ⟨rfl, rfl⟩)
        go_ret
        exact ⟨_, rfl, by omega, by omega, by unfold allB; rw [HN.out]; simp, rfl⟩
    · have HD := Lib.hid (all_done hlt HA.out)
      go_wp2
      go_ret
      exact ⟨_, rfl, by omega, by omega, by unfold allB; rw [HD.out]; simp, rfl⟩
set_option maxHeartbeats 1000000 in
theorem containsFunc_any (s : ByteArray) (g c : Nat) (w : World) (hs : s.size ≤ 24) (hc : Byt w g s) : Calls Try.prog 30 #[.slice (some ⟨g, 0, none⟩) s.size c, .func (.func 31) #[] #[]] w fun e w' => e = .returned (.bool (!allB s)) ∧ w = w' := by
  have HC := Lib.hid hc
  clear hc
  go_enter Try.func30, Try.ntmps30
  go_wp2_with fail
  refine (indexFunc_any s g c w hs HC.out).mono ?_
  rintro e w' ⟨z, rfl, h1, h2, h3, rfl⟩
  have H3 := Lib.hid h3
  clear h3
  go_wp2
  go_ret
  refine ⟨retb ?_, rfl⟩
  cases h : allB s <;> simp [h, H3.out]
theorem conv_run (s : ByteArray) (w : World) : ∃ c w1, (convert 9 24 (.string s)).run Try.prog w = .ok (.slice (some ⟨w.heap.size, 0, none⟩) s.size c) w1 ∧ Byt w1 w.heap.size s ∧ Below w.heap.size w w1 := by
  refine ⟨_, _, run_bytes_of_string w 9 24 5 s Try.underlying9 Try.underlying24 Try.underlying5, fun k h => ?_, ((Below.refl _ w).drew).alloc (Nat.le_refl _) _⟩
  have := World.cell?_alloc_mark w.drew (bytesRow s (grownCap w s.size 0 5)) 5 ((bytesRow s (grownCap w s.size 0 5)).size, (bytesRow s (grownCap w s.size 0 5)).size + 1) k
  exact this.trans (bytesRow_at s _ k h)
set_option maxHeartbeats 1000000 in
theorem pathName_any (s : ByteArray) (w : World) : Calls Try.prog 24 #[.string s] w fun e w' => e = .returned (.bool (nameB s.data.toList)) ∧ Below w.heap.size w w' := by
  by_cases h1 : 1 ≤ s.size
  · by_cases h2 : s.size ≤ 24
    · by_cases h3 : s.toList = [46]
      · have h3' := Lib.hid h3
        go_enter Try.func24, Try.ntmps24
        go_wp2
        go_ret
        exact ⟨retb (name_dot h3'.out).symm, Below.refl _ _⟩
      by_cases h4 : s.toList = [46, 46]
      · have h4' := Lib.hid h4
        go_enter Try.func24, Try.ntmps24
        go_wp2
        go_ret
        exact ⟨retb (name_dots h4'.out).symm, Below.refl _ _⟩
      have HR := Lib.hid (name_rest h1 h2 h3 h4)
      have h3' : (s.toList == [46]) = false := by simpa using h3
      have h4' : (s.toList == [46, 46]) = false := by simpa using h4
      go_enter Try.func24, Try.ntmps24
      obtain ⟨c, w1, hr, hby, hb⟩ := conv_run s w
      have HY := Lib.hid hby
      have HB := Lib.hid hb
      clear hby hb
      go_wp2_with fail
      clear hr
      refine (containsFunc_any s _ c w1 h2 HY.out).mono ?_
      rintro e w' ⟨rfl, rfl⟩
      go_wp2
      go_ret
      exact ⟨retb (by rw [HR.out]; simp [allB]), HB.out⟩
    · have h2' : decide ((24 : Int) < s.size) = true := by simp; omega
      go_enter Try.func24, Try.ntmps24
      go_wp2
      go_ret
      exact ⟨retb (name_long h2).symm, Below.refl _ _⟩
  · go_enter Try.func24, Try.ntmps24
    go_wp2
    go_ret
    exact ⟨retb (name_short h1).symm, Below.refl _ _⟩
end Go.Proofs.Ytdlephffcbkalaa
