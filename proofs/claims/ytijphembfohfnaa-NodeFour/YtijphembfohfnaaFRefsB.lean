/- The reference's functions, walked: Text, Big, Sealed, Frame. -/
import Derived.Test.YtijphembfohfnaaFRefs
import Derived.Test.YtijphembfohfnaaFWrite
import Derived.Deep.RegionHeld3
import Derived.Deep.RegionWith
import Derived.Deep.DrawnRows
import Derived.BigQuiet
import Derived.Deep.QuietTactic
namespace Go.Proofs.Ytijphembfohfnaa.F
open Go.RowKit
set_option linter.unusedVariables false
attribute [local go_sem ↓] Go.wp_at_zero Go.wp_at_succ

theorem gath_take {l : List UInt8} {m : Nat} (h : m < l.length) : big (l.drop m) = big (l.drop (m + 1)) * 256 + (l[m]?.getD 0).toNat := by
  rw [List.drop_eq_getElem_cons h]
  simp [big, h]
  omega
theorem one_str (w w1 : World) (t : UInt8) (hb : Below (w.heap.size + 1) (w.alloc (.cells #[.int .u8 (t.toNat : Int)] 5)).drew w1) : (convert 22 9 (.slice (some ⟨w.heap.size, 0, none⟩) 1 1)).run Try.prog w1 = .ok (.string ⟨#[t]⟩) w1 :=
  (((one_bts w t).below (Below.refl _ _).drew).below hb).str w1 (fun _ _ => rfl)
end Go.Proofs.Ytijphembfohfnaa.F
