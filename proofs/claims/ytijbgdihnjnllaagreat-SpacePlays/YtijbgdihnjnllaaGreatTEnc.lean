/- tree.Encode, walked. -/
import Derived.Test.YtijbgdihnjnllaaGreatTSmall
namespace Go.Proofs.YtijbgdihnjnllaaGreat.T
open Go.RowKit
set_option linter.unusedVariables false

def zeros : Array Value := (z128.map bv).toArray
theorem make_run (w : World) : (Instr.makeSlice 27 (.int .i64 128) (.int .i64 128)).run Tryz.prog w = .ok (.slice (some ⟨w.heap.size, 0, none⟩) 128 128) (w.alloc (.cells zeros 5)) := by
  obtain ⟨i0, hi, hz0, hz1, hz2⟩ := info_parts Tryz.info5
  have hr := run_make (P := Tryz.prog) w 27 5 i0 _ Tryz.underlying27 hi hz0 .i64 .i64 128 128 (by omega) (by omega) (by rw [hz2]; omega) (by omega)
  have e : madeCells (Value.int .u8 0).cells ((128 : Int).toNat * 1) = zeros := by
    apply Array.ext'
    have h1 : (Value.int .u8 0).cells = #[Value.int .u8 0] := rfl
    rw [h1, toList_madeCells_one]
    simp [zeros, z128, bv]
  rw [hz1, e] at hr
  exact hr
theorem zeros_own (w : World) : (w.alloc (.cells zeros 5)).ownsRow w.heap.size 5 1 (.slice (some ⟨w.heap.size, 0, none⟩) 128 128) z128.length (z128.map bv) := by
  refine ⟨by simp, .inr ⟨w.heap.size, 128, zeros, by simp [z128], Nat.le_refl _, heap_alloc_new w _, by simp [z128], by decide, by simp [zeros, z128], ?_⟩⟩
  simp [zeros, z128]
/-- A sector that is being written: it lies in block g. -/
def Sec (w : World) (g : Nat) (l : List UInt8) : Prop := w.ownsRow 0 5 1 (.slice (some ⟨g, 0, none⟩) 128 128) l.length (l.map bv) ∧ l.length = 128
theorem sec_new (w : World) : Sec (w.alloc (.cells zeros 5)) w.heap.size z128 := by
  refine ⟨?_, by simp [z128]⟩
  have h := zeros_own w
  refine ⟨h.1, ?_⟩
  rcases h.2 with ⟨e, _⟩ | ⟨g, cap, cur, e, _, r⟩
  · cases e
  · exact .inr ⟨g, cap, cur, e, Nat.zero_le _, r⟩
section
variable {w w' : World} {g : Nat} {l : List UInt8}
theorem Sec.cell (h : Sec w g l) {j : Nat} (hj : j < 128) : w.cell? ⟨g, j, none⟩ = some (.int .u8 ((l[j]?.getD 0).toNat : Int)) ∧ w.frozen? ⟨g, j, none⟩ = false := own_cell h.1 h.2 hj
theorem Sec.set (h : Sec w g l) (j : Nat) {y : UInt8} {v : Value} (hv : v = bv y) : Sec (w.setCell ⟨g, j, none⟩ v) g (l.set j y) := by
  subst hv
  exact ⟨own_set h.1 j y, by rw [List.length_set]; exact h.2⟩
theorem Sec.keep (h : Sec w g l) (he : w'.heap[g]? = w.heap[g]?) : Sec w' g l := ⟨ownsRow_keep h.1 fun b hb => by cases hb; exact he, h.2⟩
theorem Sec.lt (h : Sec w g l) : g < w.heap.size := (h.1.lt g rfl).2
theorem Sec.bts (h : Sec w g l) : Bts w w.heap.size (some ⟨g, 0, none⟩) 128 128 l := by
  obtain ⟨A, n, c, e, hB⟩ := own_holds h.1
  cases e
  exact hB
end
theorem lo_bv {x v : Int} (h : v = x % 256) : Value.int .u8 v = bv (lo x) := by
  unfold bv
  rw [lo_nat, h]
/-- The sector of pointers, if they are. -/
def isEnc (l : List Int) : Option (List UInt8) := if okl l = true then some (encS l 8) else none
def EncP (w : World) (o : Option (List UInt8)) (e : Ending) (w' : World) : Prop :=
  match o with
  | none => e = .returned (.tuple #[.slice none 0 0, .int .i64 1]) ∧ Below w.heap.size w w'
  | some b => ∃ g, e = .returned (.tuple #[.slice (some ⟨g, 0, none⟩) 128 128, .int .i64 0]) ∧ Bts w' w'.heap.size (some ⟨g, 0, none⟩) 128 128 b ∧ Below w.heap.size w w'
theorem isEnc_no {l : List Int} (h : okl l = false) : isEnc l = none := by unfold isEnc; rw [if_neg (by rw [h]; decide)]
theorem isEnc_yes {l : List Int} (h : okl l = true) : isEnc l = some (encS l 8) := by unfold isEnc; rw [if_pos h]
theorem enc_short {w : World} {B n c : Nat} {A : Option Addr} {l : List Int} (h : Ints w B A n c l) (hn : n ≠ 8) : Calls Tryz.prog 171 #[.slice A n c] w (EncP w none) := by
  have h1 : ((n : Int) != 8) = true := by simp; omega
  clear h
  go_enter Tryz.func171, Tryz.ntmps171
  go_wp2_with fail
  go_ret2
  exact ⟨rfl, Below.refl _ _⟩
set_option maxRecDepth 20000 in
set_option maxHeartbeats 1000000 in
theorem enc_eight {w : World} {B c : Nat} {A : Option Addr} {l : List Int} (h : Ints w B A 8 c l) (hB : B ≤ w.heap.size) : Calls Tryz.prog 171 #[.slice A 8 c] w (EncP w (isEnc l)) := by
  obtain ⟨o, ho⟩ : ∃ o, isEnc l = o := ⟨_, rfl⟩
  rw [ho]
  have HO := Lib.hid ho
  clear ho
  have HI := Lib.hid h
  have HL : Hid (l.length = 8) := h.len
  have hlim := h.lim
  have hcap := h.cap
  unfold maxLen at hlim
  clear h
  have hmk := make_run w
  go_enter Tryz.func171, Tryz.ntmps171
  go_wp2_with fail
  clear hmk
  go_loopw [13] (fun i wr => ∃ k : Nat, k ≤ 8 ∧ i = .int .i64 k ∧ Hid ((l.take k).all okp = true) ∧ Hid (Sec wr w.heap.size (encS l k)) ∧ Hid (Below w.heap.size w wr)) (fun i _ => 8 - (intOf i).toNat)
  case atStart => exact ⟨0, Nat.zero_le _, rfl, by simp [Hid], sec_new w, box_below _ _⟩
  case round =>
    obtain ⟨k, hk, rfl, HN, HS, HB⟩ := hrel
    by_cases hlt : k < 8
    · obtain ⟨b, off, rfl, hb, hc⟩ := (HI.out.below (HB.out.mono hB)).cell hlt
      have HX : Hid (l[k]? = some (l[k]?.getD 0)) := get_of HL.out hlt
      have HE : Hid (encS l (k + 1) = lay1 (encS l k) k (l[k]?.getD 0)) := rfl
      generalize l[k]?.getD 0 = x at *
      cases hx : okp x with
      | false =>
        have HX2 := Lib.hid hx
        obtain rfl : o = none := by
          rw [← HO.out]
          refine isEnc_no ?_
          unfold okl
          rw [all_not HX.out hx, Bool.and_false]
        clear hx
        go_wp2_with fail
        refine (allowed_any x _).mono ?_
        rintro e w1 ⟨rfl, rfl⟩
        rw [HX2.out]
        go_wp2_with fail
        go_ret2
        exact ⟨rfl, HB.out⟩
      | true =>
        have hx1 : 0 ≤ x ∧ x < 1024 := by have := okp_iff.1 hx; omega
        have HX2 := Lib.hid hx
        have HN2 := Lib.hid (all_take HX.out HN.out hx)
        clear hx
        obtain ⟨hc1, hf1⟩ := HS.out.cell (j := 2 * k) (by omega)
        obtain ⟨hc2, hf2⟩ := HS.out.cell (j := 2 * k + 1) (by omega)
        go_wp2_with fail
        refine (allowed_any x _).mono ?_
        rintro e w1 ⟨rfl, rfl⟩
        rw [HX2.out]
        go_wp2_with fail
        refine ⟨⟨k + 1, by omega, by go_num, HN2, ?_, (HB.out.setCell (p := ⟨w.heap.size, 2 * k, none⟩) (Nat.le_refl _) _).setCell (p := ⟨w.heap.size, 2 * k + 1, none⟩) (Nat.le_refl _) _⟩, by simp [intOf]; omega⟩
        rw [HE.out]
        exact (HS.out.set (2 * k) (lo_bv rfl)).set (2 * k + 1) (lo_bv (by omega))
    · obtain rfl : k = 8 := by omega
      have HG : Hid (okl l = true) := by
        show _ = _
        have := HN.out
        rw [List.take_of_length_le (by rw [HL.out]; omega)] at this
        unfold okl
        rw [this, HL.out]
        rfl
      obtain rfl : o = some (encS l 8) := by rw [← HO.out]; exact isEnc_yes HG.out
      go_wp2_with fail
      go_ret2
      exact ⟨_, rfl, HS.out.bts, HB.out⟩
theorem okl_len {l : List Int} (h : l.length ≠ 8) : okl l = false := by
  unfold okl
  rw [decide_eq_false h, Bool.false_and]
theorem enc_any {w : World} {B n c : Nat} {A : Option Addr} {l : List Int} (h : Ints w B A n c l) (hB : B ≤ w.heap.size) : Calls Tryz.prog 171 #[.slice A n c] w (EncP w (isEnc l)) := by
  by_cases hn : n = 8
  · subst hn
    exact enc_eight h hB
  · rw [isEnc_no (okl_len (by rw [h.len]; exact hn))]
    exact enc_short h hn
end Go.Proofs.YtijbgdihnjnllaaGreat.T
