/- Words for memory, and the smallest callees: sign, barred. -/
import Derived.Test.YtkkfndilgoamkaaRows
import Derived.Test.YtkkfndilgoamkaaPlain
import Derived.WalkKit
import Derived.ProofKit
import Derived.Below
import Derived.Laws.OwnMore
import Derived.Laws.IdiomStrings
import Derived.Laws.BytesArg
import Derived.Maps.AppendAt
import Derived.Deep.AppendLies
import Derived.Lib.Hide
import Derived.BigQuiet
import Derived.Deep.QuietTactic
namespace Go.Proofs.Ytkkfndilgoamkaa
open Go.RowKit
set_option linter.unusedVariables false

theorem retb {a b : Bool} (h : a = b) : Ending.returned (.bool a) = .returned (.bool b) := by rw [h]
theorem u8le (a b : UInt8) : (a ≤ b) ↔ ((a.toNat : Int) ≤ (b.toNat : Int)) := by rw [UInt8.le_iff_toNat_le]; omega
theorem u8eq (a b : UInt8) : (a = b) ↔ ((a.toNat : Int) = (b.toNat : Int)) := by rw [← UInt8.toNat_inj]; omega
set_option maxHeartbeats 1000000 in
theorem sign_any (c : UInt8) (w : World) : Calls Try.prog 25 #[.int .u8 (c.toNat : Int)] w fun e w' => e = .returned (.bool (signB c)) ∧ w = w' := by
  have e : signB c = (decide ((97 : Int) ≤ (c.toNat : Int)) && decide ((c.toNat : Int) ≤ 122) || decide ((65 : Int) ≤ (c.toNat : Int)) && decide ((c.toNat : Int) ≤ 90) || decide ((48 : Int) ≤ (c.toNat : Int)) && decide ((c.toNat : Int) ≤ 57) || decide ((c.toNat : Int) = 46) || decide ((c.toNat : Int) = 95) || decide ((c.toNat : Int) = 45)) := by
    unfold signB
    rw [Bool.eq_iff_iff]
    simp [u8le, u8eq]
  have E := Lib.hid e
  clear e
  generalize (c.toNat : Int) = z at *
  go_enter Try.func25, Try.ntmps25
  go_wp2
  all_goals
    go_ret
    rw [E.out]
    exact ⟨retb (by rw [Bool.eq_iff_iff]; simp <;> omega), rfl⟩
set_option maxHeartbeats 1000000 in
theorem barred_any (c : UInt8) (w : World) : Calls Try.prog 24 #[.int .u8 (c.toNat : Int)] w fun e w' => e = .returned (.bool (!signB c)) ∧ w = w' := by
  have e : signB c = (decide ((97 : Int) ≤ (c.toNat : Int)) && decide ((c.toNat : Int) ≤ 122) || decide ((65 : Int) ≤ (c.toNat : Int)) && decide ((c.toNat : Int) ≤ 90) || decide ((48 : Int) ≤ (c.toNat : Int)) && decide ((c.toNat : Int) ≤ 57) || decide ((c.toNat : Int) = 46) || decide ((c.toNat : Int) = 95) || decide ((c.toNat : Int) = 45)) := by
    unfold signB
    rw [Bool.eq_iff_iff]
    simp [u8le, u8eq]
  have E := Lib.hid e
  clear e
  generalize (c.toNat : Int) = z at *
  go_enter Try.func24, Try.ntmps24
  go_wp2
  all_goals
    go_ret
    rw [E.out]
    exact ⟨retb (by rw [Bool.eq_iff_iff]; simp <;> omega), rfl⟩
end Go.Proofs.Ytkkfndilgoamkaa
