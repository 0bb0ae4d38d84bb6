/- FieldSums, walked. -/
import Derived.Test.YtffniconhpbbbaaAwake
import Derived.Test.YtffniconhpbbbaaRefs
namespace Go.Proofs.Ytffniconhpbbbaa.fieldSums
open Go.RowKit
set_option linter.unusedVariables false
attribute [local go_sem ↓] Go.wp_at_zero Go.wp_at_succ
set_option maxHeartbeats 1000000 in
theorem walk (w : World) (A : Option Addr) (n c : Nat) (l : List UInt8) (h : Bts w w.heap.size A n c l) (R : c ≤ 140737488351232) :
    Calls Try.prog 6 #[.slice A n c] w fun e w' => e = .returned (.bool true) ∧ Below w.heap.size w w' := by
  have H := Lib.hid h
  have hn : n ≤ 140737488351232 := Nat.le_trans h.cap R
  have hl : l.length ≤ 140737488351232 := by rw [h.len]; exact hn
  have hcr := crc_lt l
  have hw : IntKind.i64.wrap ((crc l : Nat) : Int) = ((crc l : Nat) : Int) := by rw [IntKind.wrap_i64]; omega
  clear h
  go_enter Try.func6, Try.ntmps6
  go_wp2
  go_region_held3 (fun W => (convert 22 9 (.slice A n c)).run Try.prog W = .ok (.string ⟨l.toArray⟩) W) (first | exact H.out.str _ (fun _ _ => rfl) | exact (H.out.below hb1).str _ (fun _ _ => rfl)) (first
    | (go_at_call 15; refine (awake_any _).mono ?_; rintro e w1 ⟨rfl, hb0⟩; have hb1 : Below w.heap.size w w1 := (Below.refl _ w).drew.trans hb0)
    | (go_at_call 26; refine (sum_any _ _ _ _ _ _ (H.out.below hb1) (by omega)).mono ?_; rintro e w2 ⟨rfl, rfl⟩)
    | (go_at_call 27; refine (refSum_any _ _ (by omega)).mono ?_; rintro e w3 ⟨rfl, rfl⟩))
  go_wp2
  go_ret
  exact ⟨rfl, hb1⟩
end Go.Proofs.Ytffniconhpbbbaa.fieldSums
