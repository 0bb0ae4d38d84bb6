/- The reference's functions, walked: Text, Big, Sealed, Frame. -/
import Derived.Test.YtheimdnjmhibjaaFRefs
import Derived.Test.YtheimdnjmhibjaaFWrite
import Derived.Deep.RegionHeld3
import Derived.Deep.RegionWith
import Derived.Deep.DrawnRows
import Derived.BigQuiet
import Derived.Deep.QuietTactic
namespace Go.Proofs.Ytheimdnjmhibjaa.F
open Go.RowKit
set_option linter.unusedVariables false
attribute [local go_sem ↓] Go.wp_at_zero Go.wp_at_succ

theorem gath_take {l : List UInt8} {m : Nat} (h : m < l.length) : big (l.drop m) = big (l.drop (m + 1)) * 256 + (l[m]?.getD 0).toNat := by
  rw [List.drop_eq_getElem_cons h]
  simp [big, h]
  omega
set_option maxRecDepth 20000 in
set_option maxHeartbeats 1000000 in
theorem refSealed_any (l : List UInt8) (w : World) (hl : l.length ≤ 281474976710656) : Calls Try.prog 19 #[.string ⟨l.toArray⟩] w fun e w' => e = .returned (.string ⟨(l ++ lit 4 (crc l)).toArray⟩) ∧ Below w.heap.size w w' := by
  have hsz : (ByteArray.mk l.toArray).size = l.length := rfl
  have e1 := str_app l (lit 4 (crc l))
  have z1 : ¬ 9223372036854775807 < l.length + (lit 4 (crc l)).length := by rw [lit_length]; omega
  have hcr := crc_lt l
  go_enter Try.func19, Try.ntmps19
  go_wp2_with fail
  refine (refSum_any l w (by omega)).mono ?_
  rintro e w1 ⟨rfl, rfl⟩
  go_wp2_with fail
  refine (little_any (crc l) 4 w (by omega) (by omega)).mono ?_
  rintro e w1 ⟨rfl, hb⟩
  go_wp2
  go_ret
  exact ⟨rfl, hb⟩
theorem one_str (w w1 : World) (t : UInt8) (hb : Below (w.heap.size + 1) (w.alloc (.cells #[.int .u8 (t.toNat : Int)] 5)).drew w1) : (convert 22 9 (.slice (some ⟨w.heap.size, 0, none⟩) 1 1)).run Try.prog w1 = .ok (.string ⟨#[t]⟩) w1 :=
  (((one_bts w t).below (Below.refl _ _).drew).below hb).str w1 (fun _ _ => rfl)
end Go.Proofs.Ytheimdnjmhibjaa.F
