/- The reference's functions, walked: Text, Big, Sealed, Frame. -/
import Derived.Test.YtfignanjelebaaaRefs
import Derived.Test.YtfignanjelebaaaWrite
import Derived.Deep.RegionHeld3
import Derived.Deep.RegionWith
import Derived.Deep.DrawnRows
import Derived.BigQuiet
import Derived.Deep.QuietTactic
namespace Go.Proofs.Ytfignanjelebaaa
open Go.RowKit
set_option linter.unusedVariables false
attribute [local go_sem ↓] Go.wp_at_zero Go.wp_at_succ

set_option maxHeartbeats 1000000 in
theorem refText_any (l : List UInt8) (w : World) (hl : l.length ≤ 65535) : Calls Try.prog 39 #[.string ⟨l.toArray⟩] w fun e w' => e = .returned (.string ⟨(lit 2 l.length ++ l).toArray⟩) ∧ Below w.heap.size w w' := by
  have hsz : (ByteArray.mk l.toArray).size = l.length := rfl
  have e1 := str_app (lit 2 l.length) l
  have z1 : ¬ 9223372036854775807 < (lit 2 l.length).length + l.length := by rw [lit_length]; omega
  go_enter Try.func39, Try.ntmps39
  go_wp2_with fail
  refine (little_any l.length 2 w (by omega) (by omega)).mono ?_
  rintro e w1 ⟨rfl, hb⟩
  go_wp2
  go_ret
  exact ⟨rfl, hb⟩
theorem gath_take {l : List UInt8} {m : Nat} (h : m < l.length) : big (l.drop m) = big (l.drop (m + 1)) * 256 + (l[m]?.getD 0).toNat := by
  rw [List.drop_eq_getElem_cons h]
  simp [big, h]
  omega
set_option maxHeartbeats 1000000 in
theorem refSealed_any (l : List UInt8) (w : World) (hl : l.length ≤ 281474976710656) : Calls Try.prog 65 #[.string ⟨l.toArray⟩] w fun e w' => e = .returned (.string ⟨(l ++ lit 4 (crc l)).toArray⟩) ∧ Below w.heap.size w w' := by
  have hsz : (ByteArray.mk l.toArray).size = l.length := rfl
  have e1 := str_app l (lit 4 (crc l))
  have z1 : ¬ 9223372036854775807 < l.length + (lit 4 (crc l)).length := by rw [lit_length]; omega
  have hcr := crc_lt l
  go_enter Try.func65, Try.ntmps65
  go_wp2_with fail
  refine (refSum_any l w (by omega)).mono ?_
  rintro e w1 ⟨rfl, rfl⟩
  go_wp2_with fail
  refine (little_any (crc l) 4 w (by omega) (by omega)).mono ?_
  rintro e w1 ⟨rfl, hb⟩
  go_wp2
  go_ret
  exact ⟨rfl, hb⟩
set_option maxHeartbeats 1000000 in
theorem refFrame_no (t : UInt8) (l : List UInt8) (w : World) (hl : 65535 < l.length) : Calls Try.prog 38 #[.int .u8 (t.toNat : Int), .string ⟨l.toArray⟩] w fun e w' => e = .returned (.tuple #[.string ⟨#[]⟩, .int .i64 17]) ∧ w = w' := by
  have hsz : (ByteArray.mk l.toArray).size = l.length := rfl
  go_enter Try.func38, Try.ntmps38
  go_wp2
  go_ret2
  exact ⟨rfl, rfl⟩
theorem one_str (w w1 : World) (t : UInt8) (hb : Below (w.heap.size + 1) (w.alloc (.cells #[.int .u8 (t.toNat : Int)] 5)).drew w1) : (convert 24 9 (.slice (some ⟨w.heap.size, 0, none⟩) 1 1)).run Try.prog w1 = .ok (.string ⟨#[t]⟩) w1 :=
  (((one_bts w t).below (Below.refl _ _).drew).below hb).str w1 (fun _ _ => rfl)
set_option maxHeartbeats 1000000 in
set_option maxRecDepth 100000 in
theorem refFrame_yes (t : UInt8) (l : List UInt8) (w : World) (hl : l.length ≤ 65535) : Calls Try.prog 38 #[.int .u8 (t.toNat : Int), .string ⟨l.toArray⟩] w fun e w' => e = .returned (.tuple #[.string ⟨(fram t l).toArray⟩, .int .i64 0]) ∧ Below w.heap.size w w' := by
  have hsz : (ByteArray.mk l.toArray).size = l.length := rfl
  have h1 : ¬ ((l.length : Int) > 65535) := by omega
  have e1 := str_app [t] (lit 2 l.length)
  have e2 : (ByteArray.mk (t :: lit 2 l.length).toArray) ++ (ByteArray.mk l.toArray) = ByteArray.mk (body t l).toArray := str_app (t :: lit 2 l.length) l
  have z1 : ¬ 9223372036854775807 < [t].length + (lit 2 l.length).length := by rw [lit_length]; simp
  have z2 : ¬ 9223372036854775807 < (lit 2 l.length).length + 1 + l.length := by rw [lit_length]; omega
  go_enter Try.func38, Try.ntmps38
  go_wp2
  have hcv := one_str w (w.alloc (.cells #[.int .u8 (t.toNat : Int)] 5)).drew t (Below.refl _ _)
  go_region_with (first
    | (go_at_call 57; refine (little_any l.length 2 _ (by omega) (by omega)).mono ?_; rintro e w1 ⟨rfl, hb⟩; (first | (have hcv1 := one_str w w1 t (by simpa using hb)) | (have hcv1 := str1 w1 (t.toNat : Int) t rfl)); have hbw : Below w.heap.size w w1 := (by first | exact (below_alloc w _).drew.trans (hb.mono (by simp)) | exact (Below.refl _ w).drew.trans hb))
    | (go_at_call 65; refine (refSealed_any (body t l) _ (by rw [body_length]; omega)).mono ?_; rintro e w2 ⟨rfl, hb2⟩))
  all_goals go_wp2
  all_goals go_ret2
  all_goals first
    | exact ⟨rfl, hbw.trans (hb2.mono hbw.size)⟩
    | exact ⟨rfl, (hbw.alloc hbw.size _).trans (hb2.mono (by simp; have := hbw.size; omega))⟩
end Go.Proofs.Ytfignanjelebaaa
