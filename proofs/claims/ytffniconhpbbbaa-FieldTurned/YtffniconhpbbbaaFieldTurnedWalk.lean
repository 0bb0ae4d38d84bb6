/- FieldTurned, walked. -/
import Derived.Test.YtffniconhpbbbaaAwake
import Derived.Test.YtffniconhpbbbaaBurst
import Derived.Laws.ShiftsVarLaws
namespace Go.Proofs.Ytffniconhpbbbaa.fieldTurned
open Go.RowKit
set_option linter.unusedVariables false
set_option maxRecDepth 100000 in
set_option maxHeartbeats 2000000 in
theorem walk_long (w : World) (t : UInt8) (A : Option Addr) (n c : Nat) (hn : 65535 < n) (a2 a3 : Int) :
    Calls Try.prog 8 #[.int .u8 (t.toNat : Int), .slice A n c, .int .u16 a2, .int .u32 a3] w fun e w' => e = .returned (.bool true) ∧ Below w.heap.size w w' := by
  go_enter Try.func8, Try.ntmps8
  go_wp2_with fail
  refine (frame_no t A n c w hn).mono ?_
  rintro e w1 ⟨rfl, rfl⟩
  go_wp2_with fail
  refine (awake_any _).mono ?_
  rintro e w2 ⟨rfl, hb2⟩
  go_wp2_with fail
  refine (awake_any _).mono ?_
  rintro e w3 ⟨rfl, hb3⟩
  go_wp2
  go_ret
  exact ⟨rfl, hb2.trans (hb3.mono hb2.size)⟩
set_option maxRecDepth 100000 in
set_option maxHeartbeats 2000000 in
theorem walk_none (w : World) (t : UInt8) (A : Option Addr) (n c : Nat) (l : List UInt8) (h : Bts w w.heap.size A n c l) (hn : n ≤ 65535) (a2 : Int) :
    Calls Try.prog 8 #[.int .u8 (t.toNat : Int), .slice A n c, .int .u16 a2, .int .u32 0] w fun e w' => e = .returned (.bool true) ∧ Below w.heap.size w w' := by
  have H := Lib.hid h
  clear h
  go_enter Try.func8, Try.ntmps8
  go_wp2_with fail
  refine (frame_yes t A n c _ l w H.out (Nat.le_refl _) hn).mono ?_
  rintro e w1 ⟨v, rfl, hm1⟩
  have hb1 := hm1.bel
  clear hm1
  go_wp2_with fail
  refine (awake_any _).mono ?_
  rintro e w2 ⟨rfl, hb2⟩
  have b2 : Below w.heap.size w w2 := hb1.trans (hb2.mono hb1.size)
  go_wp2_with fail
  refine (awake_any _).mono ?_
  rintro e w3 ⟨rfl, hb3⟩
  go_wp2
  go_ret
  exact ⟨rfl, b2.trans (hb3.mono b2.size)⟩
/-- One byte of a slice of the call's own is stored. -/
theorem own_set {w : World} {base g cap m : Nat} {l : List UInt8} (h : w.ownsRow base 5 1 (.slice (some ⟨g, 0, none⟩) m cap) l.length (l.map bv)) (j : Nat) (y : UInt8) :
    (w.setCell ⟨g, j, none⟩ (bv y)).ownsRow base 5 1 (.slice (some ⟨g, 0, none⟩) m cap) (l.set j y).length ((l.set j y).map bv) := by
  refine ⟨by simp, ?_⟩
  rcases h.2 with ⟨e, _⟩ | ⟨g', cap', cur, e, hg, hh, hn, hm, hs, ht⟩
  · cases e
  · injection e with e1 e2 e3
    injection e1 with e1
    injection e1 with e1
    subst e1 e2 e3
    refine .inr ⟨g, cap, cur.setIfInBounds j (bv y), by rw [List.length_set], hg, heap_set hh j _, by rw [List.length_set]; exact hn, hm, by rw [Array.size_setIfInBounds]; exact hs, ?_⟩
    rw [List.length_set, Array.toList_setIfInBounds, List.take_set, ht, List.map_set]
theorem own_below {w w' : World} {base n : Nat} {v : Value} {xs : List Value} (h : w.ownsRow base 5 1 v n xs) (hb : Below w.heap.size w w') : w'.ownsRow base 5 1 v n xs :=
  h.kept (grown_of_below hb none) (by cases hv : v.ownBlock <;> simp)
theorem own_cell {w : World} {base g cap N j : Nat} {l : List UInt8} (h : w.ownsRow base 5 1 (.slice (some ⟨g, 0, none⟩) N cap) l.length (l.map bv)) (hl : l.length = N) (hj : j < N) :
    w.cell? ⟨g, j, none⟩ = some (.int .u8 ((l[j]?.getD 0).toNat : Int)) ∧ w.frozen? ⟨g, j, none⟩ = false := by
  constructor
  · obtain ⟨A, n, c, e, hB⟩ := own_holds h
    cases e
    obtain ⟨b, off, e, _, hc⟩ := hB.cell hj
    cases e
    rw [Nat.zero_add] at hc
    exact hc
  · rcases h.2 with ⟨e, _⟩ | ⟨g', cap', cur, e, hg, hh, _⟩
    · cases e
    · injection e with e1 e2 e3
      injection e1 with e1
      injection e1 with e1
      subst e1
      exact free_in hh j
theorem bit_test (b m : Nat) : (((b : Int) / 2 ^ m).tmod 2 == 1) = decide (b / 2 ^ m % 2 = 1) := by
  have e2 : (b : Int) / 2 ^ m = ((b / 2 ^ m : Nat) : Int) := by simp
  rw [e2]
  generalize b / 2 ^ m = y
  have e3 : (y : Int).tmod 2 = ((y % 2 : Nat) : Int) := by rw [Int.tmod_eq_emod_of_nonneg (by omega)]; omega
  rw [e3, Bool.eq_iff_iff]
  simp
  omega
theorem bit_val (x : UInt8) (e : Nat) : Value.int .u8 (bits .xor .u8 (x.toNat : Int) (2 ^ e % 256)) = bv (x ^^^ UInt8.ofNat (2 ^ e)) := by
  have hx := x.toNat_lt
  have e1 : (2 : Int) ^ e % 256 = ((2 ^ e % 256 : Nat) : Int) := by simp
  have hy : 2 ^ e % 256 < 256 := Nat.mod_lt _ (by omega)
  rw [e1, u8_xor_nat _ _ (by omega) hy]
  unfold bv
  rw [UInt8.toNat_xor, UInt8.toNat_ofNat']
theorem fram_whole (t : UInt8) (l : List UInt8) : Whole (fram t l) := by
  unfold Whole
  rw [fram_take, fram_drop]
  exact big_lit_of (by have := crc_lt (body t l); omega)
def OpenBad (w : World) (e : Ending) (w' : World) : Prop := ∃ x : Int, (x = 2 ∨ x = 3) ∧ OpenNo w x e w'
theorem open_bad (A : Option Addr) (n c B : Nat) (l : List UInt8) (w : World) (h : Bts w B A n c l) (hB : B ≤ w.heap.size) (hn : 7 ≤ n) (hbad : ¬ Whole l) : Calls Try.prog 24 #[.slice A n c] w (OpenBad w) := by
  rcases Nat.lt_trichotomy n (3 + big ((l.drop 1).take 2) + 4) with h1 | h1 | h1
  · exact (open_short A n c B l w h hB hn h1).mono fun _ _ h => ⟨3, .inr rfl, h⟩
  · refine (open_wrong A n c B l w h hB hn h1.symm ?_).mono fun _ _ h => ⟨2, .inl rfl, h⟩
    unfold Whole at hbad
    rw [h.len] at hbad
    exact hbad
  · exact (open_long A n c B l w h hB hn h1).mono fun _ _ h => ⟨2, .inl rfl, h⟩
set_option maxRecDepth 100000 in
set_option maxHeartbeats 2000000 in
theorem walk_turn (w : World) (t : UInt8) (A : Option Addr) (n c : Nat) (l : List UInt8) (h : Bts w w.heap.size A n c l) (hn : n ≤ 65535) (at_ burst : Nat) (hat : at_ < 65536) (hbu : burst < 4294967296) (hb0 : burst ≠ 0) :
    Calls Try.prog 8 #[.int .u8 (t.toNat : Int), .slice A n c, .int .u16 (at_ : Int), .int .u32 (burst : Int)] w fun e w' => e = .returned (.bool true) ∧ Below w.heap.size w w' := by
  have H := Lib.hid h
  have hlen := h.len
  clear h
  have hq0 : ((burst : Int) == 0) = false := by rw [beq_eq_false_iff_ne]; omega
  have hw' : wrap64 (at_ : Int) = (at_ : Int) := by unfold wrap64; omega
  go_enter Try.func8, Try.ntmps8
  go_wp2_with fail
  refine (frame_yes t A n c _ l w H.out (Nat.le_refl _) hn).mono ?_
  rintro e w1 ⟨v, rfl, hm1⟩
  have hl1 := fram_length t l
  obtain ⟨g, cap, rfl, hg⟩ : ∃ g cap, v = .slice (some ⟨g, 0, none⟩) (l.length + 7) cap ∧ w.heap.size ≤ g := by
    rcases hm1.own.2 with ⟨_, h0⟩ | ⟨g, cap, cur, e, hg, _⟩
    · omega
    · exact ⟨g, cap, by rw [e, hl1], hg⟩
  have hb1 := hm1.bel
  have HO := Lib.hid hm1.own
  have HL1 := Lib.hid hl1
  clear hm1 hl1
  rw [hlen]
  clear hlen
  have hn7 : n + 7 ≤ 65542 := by omega
  go_wp2_with fail
  refine (awake_any _).mono ?_
  rintro e w2 ⟨rfl, hb2⟩
  have b2 : Below w.heap.size w w2 := hb1.trans (hb2.mono hb1.size)
  have HO2 := Lib.hid (own_below HO.out hb2)
  obtain ⟨k, hk⟩ : ∃ k, k = at_ % ((n + 7) * 8 - 31) := ⟨_, rfl⟩
  have hkl : k + 31 < (n + 7) * 8 := by
    have := Nat.mod_lt at_ (show 0 < (n + 7) * 8 - 31 by omega)
    omega
  have ek : (at_ : Int) % (((n : Int) + 7) * 8 - 31) = (k : Int) := by
    rw [hk, Int.natCast_emod]
    congr 1
    omega
  clear hk
  go_wp2
  rw [ek]
  clear ek
  go_loopw [12] (fun i wr => ∃ (m : Nat) (l' : List UInt8), m ≤ 32 ∧ i = .int .i64 m ∧ Hid (l'.length = n + 7) ∧ Hid (big l' = big (fram t l) ^^^ ((burst % 2 ^ m) * 2 ^ k)) ∧
      Hid (wr.ownsRow w.heap.size 5 1 (.slice (some ⟨g, 0, none⟩) (n + 7) cap) l'.length (l'.map bv)) ∧ Below w.heap.size w wr) (fun i _ => 32 - (intOf i).toNat)
  case atStart => exact ⟨0, fram t l, Nat.zero_le _, rfl, by rw [HL1.out, H.out.len]; rfl, by show _ = _; simp [Nat.mod_one], by have := HO2.out; rw [H.out.len] at this; exact this, b2⟩
  case round =>
    obtain ⟨m, l', hm, rfl, HL, HB, HW, hb⟩ := hrel
    by_cases hlt : m < 32
    · have hp : (k + m) / 8 < n + 7 := by omega
      obtain ⟨hcell, hfree⟩ := own_cell HW.out HL.out hp
      have hls := Lib.hid (low_succ burst m)
      by_cases hbit : burst / 2 ^ m % 2 = 1
      · have ht : (((burst : Int) / 2 ^ m).tmod 2 == 1) = true := by rw [bit_test]; exact decide_eq_true hbit
        go_wp2
        go_roundw
        case rel =>
          refine ⟨m + 1, l'.set ((k + m) / 8) ((l'[(k + m) / 8]?.getD 0) ^^^ UInt8.ofNat (2 ^ ((k + m) % 8))), by omega, by go_num, ?_, ?_, ?_, hb.setCell (p := ⟨g, (k + m) / 8, none⟩) hg _⟩
          · show (l'.set _ _).length = n + 7
            rw [List.length_set]; exact HL.out
          · show big (l'.set _ _) = _
            rw [big_turn _ _ (by rw [HL.out]; exact hp), HB.out, hls.out, hbit, Nat.one_mul, xor_mul, ← Nat.pow_add, Nat.xor_assoc, Nat.add_comm m k]
          · rw [bit_val]
            exact own_set HW.out _ _
        case measure => simp [intOf]; omega
      · have ht : (((burst : Int) / 2 ^ m).tmod 2 == 1) = false := by rw [bit_test]; exact decide_eq_false hbit
        have hbit0 : burst / 2 ^ m % 2 = 0 := by omega
        go_wp2
        go_roundw
        case rel =>
          refine ⟨m + 1, l', by omega, by go_num, HL.out, ?_, HW.out, hb⟩
          show big l' = _
          rw [hls.out, hbit0, Nat.zero_mul, Nat.xor_zero]
          exact HB.out
        case measure => simp [intOf]; omega
    · obtain rfl : m = 32 := by omega
      have hbad : ¬ Whole l' := by
        have e : burst % 2 ^ 32 = burst := Nat.mod_eq_of_lt hbu
        have h1 := HB.out
        rw [e] at h1
        have hfl : (fram t l).length = n + 7 := by rw [HL1.out, H.out.len]
        exact burst_told (l := fram t l) (by rw [hfl]; omega) (by rw [hfl]; exact HL.out) (by rw [hfl]; omega) hbu hb0 (fram_whole t l) h1
      obtain ⟨A3, n3, c3, e3, hB3⟩ := own_holds HW.out
      cases e3
      have H3 := Lib.hid hB3
      clear hB3
      go_wp2_with fail
      refine (open_bad _ _ _ _ l' wr H3.out (Nat.le_refl _) (by omega) hbad).mono ?_
      rintro e w3 ⟨x, hx, rfl, hb3⟩
      have b3 : Below w.heap.size w w3 := hb.trans (hb3.mono hb.size)
      rcases hx with rfl | rfl
      · go_wp2
        go_ret
        exact ⟨rfl, b3⟩
      · go_wp2
        go_ret
        exact ⟨rfl, b3⟩
theorem walk (w : World) (a0 : Int) (w0 : (Lit.int .u8 a0).wf = true) (A : Option Addr) (n c : Nat) (l : List UInt8) (h : Bts w w.heap.size A n c l) (R : c ≤ 140737488351232) (a2 : Int) (w2 : (Lit.int .u16 a2).wf = true) (a3 : Int) (w3 : (Lit.int .u32 a3).wf = true) :
    Calls Try.prog 8 #[.int .u8 a0, .slice A n c, .int .u16 a2, .int .u32 a3] w fun e w' => e = .returned (.bool true) ∧ Below w.heap.size w w' := by
  obtain ⟨t, rfl⟩ := u8_of w0
  obtain ⟨p, rfl, hp⟩ := u16_of w2
  obtain ⟨b, rfl, hb⟩ := u32_of w3
  by_cases hn : n ≤ 65535
  · by_cases hb0 : b = 0
    · subst hb0
      exact walk_none w t A n c l h hn _
    · exact walk_turn w t A n c l h hn p b hp hb hb0
  · exact walk_long w t A n c (by omega) _ _
end Go.Proofs.Ytffniconhpbbbaa.fieldTurned
