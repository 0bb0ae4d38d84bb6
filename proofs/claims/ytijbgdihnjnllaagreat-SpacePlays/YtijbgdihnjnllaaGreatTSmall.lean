/- tree.Route, tree.allowed, tree.Blocks, bytes.Equal, copyholdref06.Ints, walked. -/
import Derived.Test.YtijbgdihnjnllaaGreatTWords
namespace Go.Proofs.YtijbgdihnjnllaaGreat.T
open Go.RowKit
set_option linter.unusedVariables false

/-- Numbers in a row of the call's own, and OK. -/
def GivesInts (w : World) (l : List Int) (e : Ending) (w' : World) : Prop :=
  ∃ g, e = .returned (.tuple #[.slice (some ⟨g, 0, none⟩) l.length l.length, .int .i64 0]) ∧ Ints w' w'.heap.size (some ⟨g, 0, none⟩) l.length l.length l ∧ Below w.heap.size w w' ∧ w.heap.size ≤ g
def Refuses (w : World) (x : Int) (e : Ending) (w' : World) : Prop := e = .returned (.tuple #[.slice none 0 0, .int .i64 x]) ∧ w = w'
theorem gives_new (w : World) (l : List Int) (hl : l.length ≤ 1000000) : GivesInts w l (.returned (.tuple #[.slice (some ⟨w.heap.size, 0, none⟩) l.length l.length, .int .i64 0])) (w.alloc (.cells (l.map iv).toArray 3)) :=
  ⟨_, rfl, (ints_new w l 3 (0, 0) hl).more (by simp), box_below _ _, Nat.le_refl _⟩
theorem route_yes (k : Nat) (w : World) (hk : k < 76) : Calls Tryz.prog 127 #[.int .i64 k] w (GivesInts w (route k)) := by
  by_cases h1 : k < 4
  · have HR : Hid (route k = [(k : Int)]) := route_one h1
    go_enter Tryz.func127, Tryz.ntmps127
    go_wp2_with fail
    go_ret2
    rw [HR.out]
    exact gives_new w [(k : Int)] (by simp)
  · by_cases h2 : k < 12
    · have HR : Hid (route k = [4, (k : Int) - 4]) := by show _ = _; unfold route; rw [if_neg h1, if_pos h2]
      go_enter Tryz.func127, Tryz.ntmps127
      go_wp2_with fail
      go_ret2
      rw [HR.out]
      exact gives_new w [4, (k : Int) - 4] (by simp)
    · have HR : Hid (route k = [5, ((k : Int) - 4 - 8) / 8, ((k : Int) - 4) % 8]) := by
        show _ = _
        unfold route
        rw [if_neg h1, if_neg h2, show (k : Int) - 12 = (k : Int) - 4 - 8 by omega, show ((k : Int) - 4 - 8) % 8 = ((k : Int) - 4) % 8 by omega]
      go_enter Tryz.func127, Tryz.ntmps127
      go_wp2_with fail
      go_ret2
      rw [HR.out]
      exact gives_new w [5, ((k : Int) - 4 - 8) / 8, ((k : Int) - 4) % 8] (by simp)
theorem allowed_any (n : Int) (w : World) : Calls Tryz.prog 182 #[.int .i64 n] w fun e w' => e = .returned (.bool (okp n)) ∧ w = w' := by
  by_cases h0 : n = 0
  · subst h0
    go_enter Tryz.func182, Tryz.ntmps182
    go_wp2_with fail
    go_ret
    exact ⟨rfl, rfl⟩
  · have h0' : (n == 0) = false := by simpa using h0
    by_cases h1 : 43 ≤ n
    · by_cases h2 : n < 1024
      · have HO : Hid (okp n = true) := okp_iff.2 (.inr ⟨h1, h2⟩)
        go_enter Tryz.func182, Tryz.ntmps182
        go_wp2_with fail
        go_ret
        exact ⟨retb HO.out.symm, rfl⟩
      · have HO : Hid (okp n = false) := by show _ = _; rw [Bool.eq_false_iff, Ne, okp_iff]; omega
        go_enter Tryz.func182, Tryz.ntmps182
        go_wp2_with fail
        go_ret
        exact ⟨retb HO.out.symm, rfl⟩
    · have HO : Hid (okp n = false) := by show _ = _; rw [Bool.eq_false_iff, Ne, okp_iff]; omega
      go_enter Tryz.func182, Tryz.ntmps182
      go_wp2_with fail
      go_ret
      exact ⟨retb HO.out.symm, rfl⟩
theorem blocks_any (n : Int) (w : World) (hb : -9223372036854775808 ≤ n ∧ n ≤ 9223372036854775807) : Calls Tryz.prog 58 #[.int .i64 n] w fun e w' => e = .returned (.int .i64 (blocks n)) ∧ w = w' := by
  by_cases h : n < 1
  · have HO : Hid (blocks n = 0) := if_pos h
    go_enter Tryz.func58, Tryz.ntmps58
    go_wp2_with fail
    go_ret
    exact ⟨ret1 HO.out.symm, rfl⟩
  · have HO : Hid (blocks n = (n - 1) / 128 + 1) := if_neg h
    go_enter Tryz.func58, Tryz.ntmps58
    go_wp2_with fail
    go_ret
    exact ⟨ret1 HO.out.symm, rfl⟩
theorem equal_any {w : World} {B B' n c n' c' : Nat} {A A' : Option Addr} {l l' : List UInt8} (h : Bts w B A n c l) (h' : Bts w B' A' n' c' l') :
    Calls Tryz.prog 163 #[.slice A n c, .slice A' n' c'] w fun e w' => e = .returned (.bool (decide (l = l'))) ∧ w = w' := by
  have h1 := fstr h w (Below.refl _ _)
  have h2 := fstr h' w (Below.refl _ _)
  have HE := Lib.hid (sb_list l l')
  clear h h'
  go_enter Tryz.func163, Tryz.ntmps163
  go_wp2_with fail
  go_ret
  exact ⟨retb HE.out, rfl⟩
end Go.Proofs.YtijbgdihnjnllaaGreat.T
