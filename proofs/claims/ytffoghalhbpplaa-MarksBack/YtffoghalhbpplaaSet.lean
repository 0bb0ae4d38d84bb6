/- marks.Set, walked. -/
import Derived.Test.YtffoghalhbpplaaBit
import Derived.Deep.RegionWith
namespace Go.Proofs.Ytffoghalhbpplaa
open Go.RowKit
set_option linter.unusedVariables false

theorem or_val (x : UInt8) {e : Nat} (he : e < 8) : Value.int .u8 (bits .or .u8 (x.toNat : Int) (2 ^ e)) = bv (put x e true) := by
  rw [show (2 : Int) ^ e = ((2 ^ e : Nat) : Int) from (Int.natCast_pow 2 _).symm, u8_or_nat _ _ x.toNat_lt (pow_lt8 he)]
  unfold bv
  rw [put_nat x true he]
  rfl
theorem andNot_val (x : UInt8) {e : Nat} (he : e < 8) : Value.int .u8 (bits .andNot .u8 (x.toNat : Int) (2 ^ e)) = bv (put x e false) := by
  rw [show (2 : Int) ^ e = ((2 ^ e : Nat) : Int) from (Int.natCast_pow 2 _).symm, u8_andNot_nat _ _ x.toNat_lt (pow_lt8 he)]
  unfold bv
  rw [put_nat x false he]
  rfl
/-- A map of the call's own. -/
def GivesMap (w : World) (l : List UInt8) (e : Ending) (w' : World) : Prop := ∃ g cap, e = .returned (.tuple #[.slice (some ⟨g, 0, none⟩) 128 cap, .int .i64 0]) ∧ Bts w' w'.heap.size (some ⟨g, 0, none⟩) 128 cap l ∧ Below w.heap.size w w'
set_option maxRecDepth 20000 in
set_option maxHeartbeats 1000000 in
theorem set_yes {w : World} {B c : Nat} {A : Option Addr} {l : List UInt8} (k : Nat) (on : Bool) (h : Bts w B A 128 c l) (hB : B ≤ w.heap.size) (hk : k < 1024) :
    Calls Try.prog 7 #[.slice A 128 c, .int .i64 k, .bool on] w (GivesMap w (setb l k on)) := by
  have H := Lib.hid h
  have HL : Hid (l.length = 128) := h.len
  clear h
  have HONE : ∀ w, Hid (Calls Try.prog 14 #[.slice A 128 c, .int .i64 k] w fun e w' => e = .returned (.int .i64 0) ∧ w = w') := fun w => by
    have := one_any A 128 c k w
    rw [show oneE 128 (k : Int) = 0 by unfold oneE; rw [if_pos rfl, if_pos (by omega)]] at this
    exact this
  have HBIT : ∀ w, Hid (Calls Try.prog 16 #[.int .i64 k] w fun e w' => e = .returned (.int .u8 ((2 ^ (k % 8) : Nat) : Int)) ∧ w = w') := fun w => bit_any k w hk
  obtain ⟨m, hm⟩ : ∃ m, k / 8 = m := ⟨_, rfl⟩
  have hq : IntKind.i64.wrap ((k : Int) / 8) = (m : Int) := by rw [IntKind.wrap_i64]; omega
  have hm1 : m < 128 := by omega
  have hm2 : (m : Int) < 128 := by omega
  have hm3 : 0 ≤ (m : Int) := by omega
  have HV1 : Hid (Value.int .u8 (bits .or .u8 ((l[m]?.getD 0).toNat : Int) (2 ^ (k % 8))) = bv (put (l[m]?.getD 0) (k % 8) true)) := or_val _ (by omega)
  have HV0 : Hid (Value.int .u8 (bits .andNot .u8 ((l[m]?.getD 0).toNat : Int) (2 ^ (k % 8))) = bv (put (l[m]?.getD 0) (k % 8) false)) := andNot_val _ (by omega)
  have HSET : Hid (setb l k on = l.set m (put (l[m]?.getD 0) (k % 8) on)) := by show _ = _; unfold setb; rw [hm]
  clear hm
  go_enter Try.func7, Try.ntmps7
  go_wp2_with fail
  refine (HONE _).out.mono ?_
  rintro e w1 ⟨rfl, rfl⟩
  go_wp2_with fail
  refine (clone_any A 128 c B l _ H.out hB (by omega)).mono ?_
  rintro e w1 ⟨v, rfl, hmine⟩
  obtain ⟨g, cap, rfl, hg⟩ : ∃ g cap, v = .slice (some ⟨g, 0, none⟩) 128 cap ∧ w.heap.size ≤ g := by
    have hl1 := HL.out
    rcases hmine.own.2 with ⟨_, h0⟩ | ⟨g, cap, cur, e, hg, _⟩
    · omega
    · exact ⟨g, cap, by rw [e, hl1], hg⟩
  have HO := Lib.hid hmine.own
  have HB1 := Lib.hid hmine.bel
  clear hmine H HONE
  obtain ⟨hcell, hfree⟩ := own_cell HO.out HL.out hm1
  have hcd : w1.drew.cell? ⟨g, m, none⟩ = some (.int .u8 ((l[m]?.getD 0).toNat : Int)) := hcell
  have hfd : w1.drew.frozen? ⟨g, m, none⟩ = false := hfree
  have HO2 := Lib.hid (own_set HO.out m (put (l[m]?.getD 0) (k % 8) on))
  have HB2 : Hid (Below w.heap.size w (w1.setCell ⟨g, m, none⟩ (bv (put (l[m]?.getD 0) (k % 8) on)))) := HB1.out.setCell (p := ⟨g, m, none⟩) hg _
  generalize l[m]?.getD 0 = q at *
  cases on with
  | true =>
    go_wp2_with fail
    go_region_with (go_at_call 16; (with_reducible refine ((HBIT _).out).mono ?_); rintro e w2 ⟨rfl, rfl⟩)
    all_goals
      simp only [HV1.out]
      generalize w1.setCell { block := g, off := m } (bv (put q (k % 8) true)) = w5 at *
      go_wp2_with fail
      go_ret2
      rw [HSET.out]
      obtain ⟨A5, n5, c5, e5, hB5⟩ := own_holds HO2.out
      cases e5
      exact ⟨_, _, rfl, hB5.keep fun _ _ => rfl, HB2.out.drew⟩
  | false =>
    go_wp2_with fail
    go_region_with (go_at_call 16; (with_reducible refine ((HBIT _).out).mono ?_); rintro e w2 ⟨rfl, rfl⟩)
    all_goals
      simp only [HV0.out]
      generalize w1.setCell { block := g, off := m } (bv (put q (k % 8) false)) = w5 at *
      go_wp2_with fail
      go_ret2
      rw [HSET.out]
      obtain ⟨A5, n5, c5, e5, hB5⟩ := own_holds HO2.out
      cases e5
      exact ⟨_, _, rfl, hB5.keep fun _ _ => rfl, HB2.out.drew⟩
/-- Set of anything that is no map, or no number: nothing. -/
theorem set_no {w : World} {n c : Nat} {A : Option Addr} (x : Int) (on : Bool) (h0 : oneE n x ≠ 0) :
    Calls Try.prog 7 #[.slice A n c, .int .i64 x, .bool on] w fun e w' => e = .returned (.tuple #[.slice none 0 0, .int .i64 (oneE n x)]) ∧ w = w' := by
  have HONE : ∀ w, Hid (Calls Try.prog 14 #[.slice A n c, .int .i64 x] w fun e w' => e = .returned (.int .i64 (oneE n x)) ∧ w = w') := fun w => one_any A n c x w
  rcases oneE_cases n x with h | h | h
  · exact absurd h h0
  all_goals
    rw [h] at HONE ⊢
    clear h h0
    go_enter Try.func7, Try.ntmps7
    go_wp2_with fail
    refine (HONE _).out.mono ?_
    rintro e w1 ⟨rfl, rfl⟩
    go_wp2_with fail
    go_ret2
    exact ⟨rfl, rfl⟩
end Go.Proofs.Ytffoghalhbpplaa
