/- awake, walked. -/
import Derived.Test.YtkkfndilgoamkaaClean
namespace Go.Proofs.Ytkkfndilgoamkaa
open Go.RowKit
set_option linter.unusedVariables false

theorem ex1 : split [47, 97, 47, 47, 98, 47, 46, 47, 46, 46, 47, 99, 46, 100] = ([[97], [99, 46, 100]], 0) := by decide
theorem ex2 : cleanS [47, 47, 120, 47, 46, 46, 47, 121, 47] = [47, 121] ∧ (split [47, 47, 120, 47, 46, 46, 47, 121, 47]).2 = 0 := by decide
theorem ex3 : withinR [47, 97, 47, 98] [47, 97] = true ∧ withinE [47, 97, 47, 98] [47, 97] = 0 := by decide
theorem ex4 : lastA [47, 97, 47, 98] = [47, 97] ∧ lastN [47, 97, 47, 98] = [98] ∧ lastE [47, 97, 47, 98] = 0 := by decide
theorem ex5 : nameB [120] = true := by decide
set_option maxHeartbeats 2000000 in
theorem awake_any (w : World) : Calls Try.prog 12 #[] w fun e w' => e = .returned (.bool true) ∧ Below w.heap.size w w' := by
  go_enter Try.func12, Try.ntmps12
  go_wp2_with fail
  refine (split_any [47, 97, 47, 47, 98, 47, 46, 47, 46, 46, 47, 99, 46, 100] w).mono ?_
  rw [ex1]
  rintro e w1 ⟨A, c, rfl, hs, hb1⟩
  obtain ⟨b, off, rfl, hbb, hcell⟩ := hs.cell (k := 1) (by decide)
  have HC : Hid (w1.cell? ⟨b, off + 1, none⟩ = some (.string (bs [99, 46, 100]))) := hcell
  have B1 := Lib.hid hb1
  have hcap := hs.cap
  have hz1 := hb1.size
  clear hcell hs hb1
  go_wp2_with fail
  refine (clean_any [47, 47, 120, 47, 46, 46, 47, 121, 47] w1).mono ?_
  rw [ex2.1, ex2.2]
  rintro e w2 ⟨rfl, hb2⟩
  have B2 := Lib.hid hb2
  have hz2 := hb2.size
  clear hb2
  go_wp2_with fail
  refine (within_any [47, 97, 47, 98] [47, 97] w2).mono ?_
  rw [ex3.1, ex3.2]
  rintro e w3 ⟨rfl, hb3⟩
  have B3 := Lib.hid hb3
  have hz3 := hb3.size
  clear hb3
  go_wp2_with fail
  refine (last_any [47, 97, 47, 98] w3).mono ?_
  rw [ex4.1, ex4.2.1, ex4.2.2]
  rintro e w4 ⟨rfl, hb4⟩
  have B4 := Lib.hid hb4
  have hz4 := hb4.size
  clear hb4
  have hc4 : w4.cell? ⟨b, off + 1, none⟩ = some (.string (bs [99, 46, 100])) := by
    rw [B4.out.cell (by show b < _; omega), B3.out.cell (by show b < _; omega), B2.out.cell (by show b < _; omega)]
    exact HC.out
  have q1 : (bs [99, 46, 100]).toList = [99, 46, 100] := bs_list _
  have q2 : (bs [47, 121]).toList = [47, 121] := bs_list _
  have q3 : (bs [47, 97]).toList = [47, 97] := bs_list _
  have q4 : (bs [98]).toList = [98] := bs_list _
  go_wp2_with (go_at_call 14; refine (pathName_any (bs [120]) _).mono ?_; rintro e w5 ⟨rfl, hb5⟩; rw [bs_data, ex5])
  go_ret
  exact ⟨rfl, B1.out.trans ((B2.out.trans ((B3.out.trans ((B4.out.trans (hb5.mono hz4)).mono hz3)).mono hz2)).mono hz1)⟩
end Go.Proofs.Ytkkfndilgoamkaa
