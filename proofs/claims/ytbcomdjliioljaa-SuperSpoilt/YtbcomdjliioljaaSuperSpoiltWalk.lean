/- SuperSpoilt, walked. -/
import Derived.Test.YtbcomdjliioljaaSuperApartWalk
import Derived.Laws.ShiftsVarLaws
namespace Go.Proofs.Ytbcomdjliioljaa.superSpoilt
open Go.RowKit F
set_option linter.unusedVariables false
/-- One byte of a slice of the call's own is stored. -/
theorem own_set {w : World} {base g cap m : Nat} {l : List UInt8} (h : w.ownsRow base 5 1 (.slice (some ⟨g, 0, none⟩) m cap) l.length (l.map bv)) (j : Nat) (y : UInt8) :
    (w.setCell ⟨g, j, none⟩ (bv y)).ownsRow base 5 1 (.slice (some ⟨g, 0, none⟩) m cap) (l.set j y).length ((l.set j y).map bv) := by
  refine ⟨by simp, ?_⟩
  rcases h.2 with ⟨e, _⟩ | ⟨g', cap', cur, e, hg, hh, hn, hm, hs, ht⟩
  · cases e
  · injection e with e1 e2 e3
    injection e1 with e1
    injection e1 with e1
    subst e1 e2 e3
    refine .inr ⟨g, cap, cur.setIfInBounds j (bv y), by rw [List.length_set], hg, heap_set hh j _, by rw [List.length_set]; exact hn, hm, by rw [Array.size_setIfInBounds]; exact hs, ?_⟩
    rw [List.length_set, Array.toList_setIfInBounds, List.take_set, ht, List.map_set]
theorem own_below {w w' : World} {base n : Nat} {v : Value} {xs : List Value} (h : w.ownsRow base 5 1 v n xs) (hb : Below w.heap.size w w') : w'.ownsRow base 5 1 v n xs :=
  h.kept (grown_of_below hb none) (by cases hv : v.ownBlock <;> simp)
theorem own_cell {w : World} {base g cap N j : Nat} {l : List UInt8} (h : w.ownsRow base 5 1 (.slice (some ⟨g, 0, none⟩) N cap) l.length (l.map bv)) (hl : l.length = N) (hj : j < N) :
    w.cell? ⟨g, j, none⟩ = some (.int .u8 ((l[j]?.getD 0).toNat : Int)) ∧ w.frozen? ⟨g, j, none⟩ = false := by
  constructor
  · obtain ⟨A, n, c, e, hB⟩ := own_holds h
    cases e
    obtain ⟨b, off, e, _, hc⟩ := hB.cell hj
    cases e
    rw [Nat.zero_add] at hc
    exact hc
  · rcases h.2 with ⟨e, _⟩ | ⟨g', cap', cur, e, hg, hh, _⟩
    · cases e
    · injection e with e1 e2 e3
      injection e1 with e1
      injection e1 with e1
      subst e1
      exact free_in hh j
theorem bit_val (x : UInt8) (e : Nat) : Value.int .u8 (bits .xor .u8 (x.toNat : Int) (2 ^ e % 256)) = bv (x ^^^ UInt8.ofNat (2 ^ e)) := by
  have hx := x.toNat_lt
  have e1 : (2 : Int) ^ e % 256 = ((2 ^ e % 256 : Nat) : Int) := by simp
  have hy : 2 ^ e % 256 < 256 := Nat.mod_lt _ (by omega)
  rw [e1, u8_xor_nat _ _ (by omega) hy]
  unfold bv
  rw [UInt8.toNat_xor, UInt8.toNat_ofNat']
set_option maxRecDepth 20000 in
set_option maxHeartbeats 2000000 in
theorem walk (w : World) (a b c : Int) (bit : Nat) (hbit : bit < 65536) : Calls Try.prog 4 #[.agg #[.int .i64 a, .int .i64 b, .int .i64 c], .int .u16 bit] w fun e W' => e = .returned (.bool true) ∧ Below w.heap.size w W' := by
  have HB0 : Hid (Below w.heap.size w (w.alloc (.cells #[.int .i64 a, .int .i64 b, .int .i64 c] 23))) := box_below w _
  cases hok : ok a b c with
  | false =>
    have HOK := Lib.hid hok
    clear hok
    go_enter Try.func4, Try.ntmps4
    go_wp2_with fail
    refine (encode_no a b c _ HOK.out).mono ?_
    rintro e w1 ⟨rfl, hb1⟩
    have HB1 := Lib.hid (HB0.out.trans (hb1.mono HB0.out.size))
    clear hb1
    go_wp2_with fail
    refine (awake_any _).mono ?_
    rintro e w3 ⟨rfl, hb3⟩
    have HB3 := Lib.hid (HB1.out.trans (hb3.mono HB1.out.size))
    clear hb3
    go_wp2_with fail
    refine (awake_any _).mono ?_
    rintro e w4 ⟨rfl, hb4⟩
    have HB4 := Lib.hid (HB3.out.trans (hb4.mono HB3.out.size))
    clear hb4
    go_wp2_with fail
    go_ret
    exact ⟨rfl, HB4.out⟩
  | true =>
    obtain ⟨x, y, z, rfl, rfl, rfl⟩ := superApart.toNats hok
    have HOK := Lib.hid hok
    clear hok
    have HT : Hid (¬ IsSec ((sec x y z).set (bit % 1024 / 8) ((sec x y z)[bit % 1024 / 8]?.getD 0 ^^^ UInt8.ofNat (2 ^ (bit % 8))))) := by
      have h := turned (a := x) (b := y) (c := z) (p := bit % 1024) (by omega)
      have e : bit % 1024 % 8 = bit % 8 := by omega
      rw [e] at h
      exact h
    go_enter Try.func4, Try.ntmps4
    go_wp2_with fail
    refine (encode_yes x y z _ HOK.out).mono ?_
    rintro e w1 ⟨v, rfl, hm1⟩
    have hl1 := sec_len x y z
    obtain ⟨g, cap, rfl, hg⟩ : ∃ g cap, v = .slice (some ⟨g, 0, none⟩) 128 cap ∧ w.heap.size ≤ g := by
      rcases hm1.own.2 with ⟨_, h0⟩ | ⟨g, cap, cur, e, hg, _⟩
      · omega
      · exact ⟨g, cap, by rw [e, hl1], by simp at hg; omega⟩
    have HB1 := Lib.hid (HB0.out.trans (hm1.bel.mono HB0.out.size))
    have HO := Lib.hid hm1.own
    clear hm1 hl1
    go_wp2_with fail
    refine (awake_any _).mono ?_
    rintro e w2 ⟨rfl, hb2⟩
    have HB2 := Lib.hid (HB1.out.trans (hb2.mono HB1.out.size))
    have HO2 := Lib.hid (own_below HO.out hb2)
    clear hb2 HO
    have hq : bit % 1024 / 8 < 128 := by omega
    obtain ⟨hcell, hfree⟩ := own_cell HO2.out (sec_len x y z) hq
    have HN : Hid (Value.int .u8 (bits .xor .u8 (((sec x y z)[bit % 1024 / 8]?.getD 0).toNat : Int) (2 ^ (bit % 8) % 256)) = bv ((sec x y z)[bit % 1024 / 8]?.getD 0 ^^^ UInt8.ofNat (2 ^ (bit % 8)))) := bit_val _ _
    have HO3 := Lib.hid (own_set HO2.out (bit % 1024 / 8) ((sec x y z)[bit % 1024 / 8]?.getD 0 ^^^ UInt8.ofNat (2 ^ (bit % 8))))
    have HB3 : Hid (Below w.heap.size w (w2.setCell ⟨g, bit % 1024 / 8, none⟩ (bv ((sec x y z)[bit % 1024 / 8]?.getD 0 ^^^ UInt8.ofNat (2 ^ (bit % 8)))))) := HB2.out.setCell (p := ⟨g, bit % 1024 / 8, none⟩) hg _
    generalize (sec x y z)[bit % 1024 / 8]?.getD 0 = u at *
    go_wp2_with fail
    rw [HN.out]
    generalize w2.setCell { block := g, off := bit % 1024 / 8 } (bv (u ^^^ UInt8.ofNat (2 ^ (bit % 8)))) = w3 at *
    obtain ⟨A3, n3, c3, e3, hB3⟩ := own_holds HO3.out
    cases e3
    have H3 := Lib.hid hB3
    clear hB3 HN HO2 HO3 hcell hfree
    refine (decode_any (r := false) H3.out (Nat.le_refl _) ⟨(fun e => by cases e), (fun e => absurd e HT.out)⟩).mono ?_
    rintro e w4 ⟨rfl, hb4⟩
    have HB4 := Lib.hid (HB3.out.trans (hb4.mono HB3.out.size))
    clear hb4
    go_wp2_with fail
    go_ret
    exact ⟨rfl, HB4.out.alloc HB4.out.size _⟩
end Go.Proofs.Ytbcomdjliioljaa.superSpoilt
