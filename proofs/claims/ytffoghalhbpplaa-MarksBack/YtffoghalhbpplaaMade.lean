/- make([]byte, 128); copyholdlaw09.awake, walked. -/
import Derived.Test.YtffoghalhbpplaaSet
import Derived.Test.YtffoghalhbpplaaFind
namespace Go.Proofs.Ytffoghalhbpplaa
open Go.RowKit
set_option linter.unusedVariables false

def z128 : List UInt8 := List.replicate 128 0
def zeros : Array Value := (z128.map bv).toArray
theorem make_run (w : World) : (Instr.makeSlice 22 (.int .i64 128) (.int .i64 128)).run Try.prog w = .ok (.slice (some ⟨w.heap.size, 0, none⟩) 128 128) (w.alloc (.cells zeros 5)) := by
  obtain ⟨i0, hi, hz0, hz1, hz2⟩ := info_parts Try.info5
  have hr := run_make (P := Try.prog) w 22 5 i0 _ Try.underlying22 hi hz0 .i64 .i64 128 128 (by omega) (by omega) (by rw [hz2]; omega) (by omega)
  have e : madeCells (Value.int .u8 0).cells ((128 : Int).toNat * 1) = zeros := by
    apply Array.ext'
    have h1 : (Value.int .u8 0).cells = #[Value.int .u8 0] := rfl
    rw [h1, toList_madeCells_one]
    simp [zeros, z128, bv]
  rw [hz1, e] at hr
  exact hr
theorem zeros_own (w : World) : (w.alloc (.cells zeros 5)).ownsRow w.heap.size 5 1 (.slice (some ⟨w.heap.size, 0, none⟩) 128 128) z128.length (z128.map bv) := by
  refine ⟨by simp, .inr ⟨w.heap.size, 128, zeros, by simp [z128], Nat.le_refl _, heap_alloc_new w _, by simp [z128], by decide, by simp [zeros, z128], ?_⟩⟩
  simp [zeros, z128]
theorem zeros_bts (w : World) : Bts (w.alloc (.cells zeros 5)) (w.alloc (.cells zeros 5)).heap.size (some ⟨w.heap.size, 0, none⟩) 128 128 z128 := by
  obtain ⟨A, n, c, e, h⟩ := own_holds (zeros_own w)
  cases e
  exact h
/-- The map of awake. -/
def aw : List UInt8 := setb z128 9 true
theorem aw_first : first aw 9 11 = some 10 := by decide +kernel
theorem aw_count : count aw 0 1024 = 1 := by decide +kernel
theorem aw_bt : bt aw 9 = true := by decide +kernel
theorem aw_one : aw[1]?.getD 0 = 2 := by decide +kernel
set_option maxRecDepth 20000 in
set_option maxHeartbeats 1000000 in
theorem awake_any (w : World) : Calls Try.prog 9 #[] w fun e w' => e = .returned (.bool true) ∧ Below w.heap.size w w' := by
  have hmk := make_run w
  go_enter Try.func9, Try.ntmps9
  go_wp2_with fail
  clear hmk
  refine (set_yes 9 true (zeros_bts w) (Nat.le_refl _) (by omega)).mono ?_
  rintro e w1 ⟨g, cap, rfl, hB, hb⟩
  have H : Hid (Bts w1 w1.heap.size (some ⟨g, 0, none⟩) 128 cap aw) := hB
  have HB : Hid (Below w.heap.size w w1) := (box_below w _).trans (hb.mono (by simp))
  clear hB hb
  go_wp2_with fail
  refine (first_any 9 20 H.out (Nat.le_refl _)).mono ?_
  rintro e w2 ⟨rfl, hb⟩
  have h1 : firstN aw 128 9 20 = 10 := by show fn (first aw 9 11) = 10; rw [aw_first]; rfl
  have h2 : firstE aw 128 9 20 = 0 := by show fe (first aw 9 11) = 0; rw [aw_first]; rfl
  rw [h1, h2]
  have HB2 := Lib.hid (HB.out.trans (hb.mono HB.out.size))
  have H2 := Lib.hid ((H.out.below hb).more hb.size)
  clear h1 h2 hb HB H
  go_wp2_with fail
  refine (count_any 0 1024 H2.out (Nat.le_refl _)).mono ?_
  rintro e w3 ⟨rfl, hb⟩
  have h1 : countN aw 128 0 1024 = 1 := by show ((count aw 0 1024 : Nat) : Int) = 1; rw [aw_count]; rfl
  have h2 : someE 128 0 1024 = 0 := by decide
  rw [h1, h2]
  have HB3 := Lib.hid (HB2.out.trans (hb.mono HB2.out.size))
  have H3 := Lib.hid ((H2.out.below hb).more hb.size)
  clear h1 h2 hb HB2 H2
  go_wp2_with fail
  refine (has_any 9 H3.out).mono ?_
  rintro e w4 ⟨rfl, hb⟩
  have h1 : hasB aw 128 9 = true := by show bt aw 9 = true; exact aw_bt
  have h2 : oneE 128 9 = 0 := by decide
  rw [h1, h2]
  have HB4 := Lib.hid (HB3.out.trans (hb.mono HB3.out.size))
  obtain ⟨b, off, e, _, hc⟩ := (H3.out.below hb).cell (k := 1) (by omega)
  cases e
  rw [aw_one] at hc
  have hcell : w4.cell? ⟨g, 1, none⟩ = some (.int .u8 2) := hc
  clear h1 h2 hb HB3 H3 hc
  go_wp2
  go_ret
  exact ⟨rfl, HB4.out⟩
end Go.Proofs.Ytffoghalhbpplaa
