/- FieldBack, walked. -/
import Derived.Test.YtffniconhpbbbaaAwake
import Derived.Test.YtffniconhpbbbaaRefs
namespace Go.Proofs.Ytffniconhpbbbaa.fieldBack
open Go.RowKit
set_option linter.unusedVariables false
set_option maxRecDepth 100000 in
set_option maxHeartbeats 2000000 in
theorem walk_long (w : World) (t : UInt8) (x : Nat) (hx : x < 4294967296) (s : List UInt8) (hs : 65535 < s.length) (cut : Nat) (hc : cut < 65536) :
    Calls Try.prog 7 #[.int .u8 (t.toNat : Int), .int .u32 (x : Int), .string ⟨s.toArray⟩, .int .u16 (cut : Int)] w fun e w' => e = .returned (.bool true) ∧ Below w.heap.size w w' := by
  have hw : wrap64 (x : Int) = (x : Int) := by unfold wrap64; omega
  have hsz : (ByteArray.mk s.toArray).size = s.length := rfl
  have hg : decide ((s.length : Int) > 65000) = true := decide_eq_true (by omega)
  have hg' : decide ((65000 : Int) < (s.length : Int)) = true := decide_eq_true (by omega)
  have hg2 : decide (65000 < s.length) = true := decide_eq_true (by omega)
  go_enter Try.func7, Try.ntmps7
  go_wp2_with fail
  refine (num_yes none 0 0 0 x [] w hx (Bts.nil_ _ _) (by omega) (by omega)).mono ?_
  rintro e w1 ⟨v, rfl, hm1⟩
  obtain ⟨A1, n1, c1, rfl, hB1⟩ := hm1.holds
  have hb1 := hm1.bel
  clear hm1 hB1
  go_wp2_with fail
  refine (text_no A1 n1 c1 ⟨s.toArray⟩ w1 hs).mono ?_
  rintro e w2 ⟨rfl, rfl⟩
  go_wp2_with fail
  refine (frame_yes t none 0 0 0 [] w1 (Bts.nil_ _ _) (by omega) (by omega)).mono ?_
  rintro e w2 ⟨v, rfl, hm2⟩
  have hb2 := hm2.bel
  clear hm2
  go_wp2_with fail
  refine (awake_any _).mono ?_
  rintro e w3 ⟨rfl, hb3⟩
  have b2 : Below w.heap.size w w2 := hb1.trans (hb2.mono hb1.size)
  have b3 : Below w.heap.size w w3 := b2.trans (hb3.mono b2.size)
  go_wp2
  go_ret
  exact ⟨rfl, b3⟩
set_option maxRecDepth 100000 in
set_option maxHeartbeats 2000000 in
theorem walk_mid (w : World) (t : UInt8) (x : Nat) (hx : x < 4294967296) (s : List UInt8) (hs : s.length ≤ 65535) (hs' : 65529 < s.length) (cut : Nat) (hc : cut < 65536) :
    Calls Try.prog 7 #[.int .u8 (t.toNat : Int), .int .u32 (x : Int), .string ⟨s.toArray⟩, .int .u16 (cut : Int)] w fun e w' => e = .returned (.bool true) ∧ Below w.heap.size w w' := by
  have hw : wrap64 (x : Int) = (x : Int) := by unfold wrap64; omega
  have hsz : (ByteArray.mk s.toArray).size = s.length := rfl
  have hg : decide ((s.length : Int) > 65000) = true := decide_eq_true (by omega)
  have hg' : decide ((65000 : Int) < (s.length : Int)) = true := decide_eq_true (by omega)
  have hg2 : decide (65000 < s.length) = true := decide_eq_true (by omega)
  go_enter Try.func7, Try.ntmps7
  go_wp2_with fail
  refine (num_yes none 0 0 0 x [] w hx (Bts.nil_ _ _) (by omega) (by omega)).mono ?_
  rintro e w1 ⟨v, rfl, hm1⟩
  obtain ⟨A1, n1, c1, rfl, hB1⟩ := hm1.holds
  have hn1 : n1 = 4 := by rw [← hB1.len]; simp [lit_length]
  subst hn1
  have H1 := Lib.hid hB1
  have hb1 := hm1.bel
  clear hm1 hB1
  go_wp2_with fail
  refine (text_yes A1 4 c1 _ _ ⟨s.toArray⟩ w1 hs H1.out (Nat.le_refl _) (by omega)).mono ?_
  rintro e w2 ⟨v, rfl, hm2⟩
  obtain ⟨A2, n2, c2, rfl, hB2⟩ := hm2.holds
  have hn2 : 65535 < n2 := by rw [← hB2.len]; simp [lit_length]; omega
  have hb2 := hm2.bel
  clear hm2 hB2
  go_wp2_with fail
  refine (frame_no t A2 n2 c2 w2 hn2).mono ?_
  rintro e w3 ⟨rfl, rfl⟩
  go_wp2_with fail
  refine (awake_any _).mono ?_
  rintro e w3 ⟨rfl, hb3⟩
  have b2 : Below w.heap.size w w2 := hb1.trans (hb2.mono hb1.size)
  have b3 : Below w.heap.size w w3 := b2.trans (hb3.mono b2.size)
  go_wp2
  go_ret
  exact ⟨rfl, b3⟩
/-- A frame that was cut is too short. -/
theorem open_cut (t : UInt8) (A : Option Addr) (n c B k : Nat) (l : List UInt8) (w : World) (h : Bts w B A n c ((fram t l).take k)) (hB : B ≤ w.heap.size) (hk : k < l.length + 7) (hl : l.length ≤ 65535) : Calls Try.prog 24 #[.slice A n c] w (OpenNo w 3) := by
  have hn : n = k := by rw [← h.len, List.length_take, fram_length]; omega
  subst hn
  by_cases h7 : n < 7
  · exact open_few A n c w h7
  · refine open_short A n c B _ w h hB (by omega) ?_
    have e : (((fram t l).take n).drop 1).take 2 = ((fram t l).drop 1).take 2 := by
      rw [List.drop_take, List.take_take, Nat.min_eq_left (by omega)]
    rw [e, fram_len2, big_lit_of (by omega)]
    omega
set_option maxRecDepth 100000 in
set_option maxHeartbeats 4000000 in
theorem walk_short (w : World) (t : UInt8) (x : Nat) (hx : x < 4294967296) (s : List UInt8) (hs : s.length ≤ 65529) (cut : Nat) (hc : cut < 65536) :
    Calls Try.prog 7 #[.int .u8 (t.toNat : Int), .int .u32 (x : Int), .string ⟨s.toArray⟩, .int .u16 (cut : Int)] w fun e w' => e = .returned (.bool true) ∧ Below w.heap.size w w' := by
  have hw : wrap64 (x : Int) = (x : Int) := by unfold wrap64; omega
  have hw' : wrap64 (cut : Int) = (cut : Int) := by unfold wrap64; omega
  have hsz : (ByteArray.mk s.toArray).size = s.length := rfl
  go_enter Try.func7, Try.ntmps7
  go_wp2_with fail
  refine (num_yes none 0 0 0 x [] w hx (Bts.nil_ _ _) (by omega) (by omega)).mono ?_
  rintro e w1 ⟨v, rfl, hm1⟩
  obtain ⟨A1, n1, c1, rfl, hB1⟩ := hm1.holds
  have hn1 : n1 = 4 := by rw [← hB1.len]; simp [lit_length]
  subst hn1
  have H1 := Lib.hid hB1
  have hb1 := hm1.bel
  clear hm1 hB1
  go_wp2_with fail
  refine (text_yes A1 4 c1 _ _ ⟨s.toArray⟩ w1 (by omega) H1.out (Nat.le_refl _) (by omega)).mono ?_
  rintro e w2 ⟨v, rfl, hm2⟩
  obtain ⟨A2, n2, c2, rfl, hB2⟩ := hm2.holds
  have hl2 : ([] ++ lit 4 x ++ lit 2 (ByteArray.mk s.toArray).size ++ (ByteArray.mk s.toArray).data.toList) = lit 4 x ++ (lit 2 s.length ++ (s ++ [])) := by rw [hsz]; simp
  rw [hl2] at hB2
  have hlen2 : (lit 4 x ++ (lit 2 s.length ++ (s ++ []))).length = s.length + 6 := by simp [lit_length]; omega
  have hn2 : n2 = s.length + 6 := by rw [← hB2.len, hlen2]
  subst hn2
  have H2 := Lib.hid hB2
  have b2 : Below w.heap.size w w2 := hb1.trans (hm2.bel.mono hb1.size)
  have HL2 := Lib.hid hlen2
  clear hm2 hB2 hl2 hlen2
  go_wp2_with fail
  refine (frame_yes t A2 _ c2 _ _ w2 H2.out (Nat.le_refl _) (by omega)).mono ?_
  rintro e w3 ⟨v, rfl, hm3⟩
  obtain ⟨A3, n3, c3, rfl, hB3⟩ := hm3.holds
  have hn3 : n3 = s.length + 13 := by rw [← hB3.len, fram_length, HL2.out]
  subst hn3
  have H3 := Lib.hid hB3
  have b3 : Below w.heap.size w w3 := b2.trans (hm3.bel.mono b2.size)
  clear hm3 hB3
  go_wp2_with fail
  refine (awake_any _).mono ?_
  rintro e w4 ⟨rfl, hb4⟩
  have b4 : Below w.heap.size w w4 := b3.trans (hb4.mono b3.size)
  have H4 := Lib.hid (H3.out.below hb4)
  go_wp2_with fail
  refine (open_fram t A3 _ c3 _ _ w4 H4.out hb4.size (by rw [HL2.out]; omega)).mono ?_
  rintro e w5 ⟨v, rfl, hm5⟩
  obtain ⟨A5, n5, c5, rfl, hB5⟩ := hm5.holds
  have H5 := Lib.hid hB5
  have hb5 := hm5.bel
  have b5 : Below w.heap.size w w5 := b4.trans (hb5.mono b4.size)
  clear hm5 hB5
  go_wp2_with fail
  refine (read_any A5 n5 c5 _ _ w5 H5.out (Nat.le_refl _)).mono ?_
  rintro e w6 ⟨rfl, hf6, hb6⟩
  have b6 : Below w.heap.size w w6 := b5.trans (hb6.mono b5.size)
  have hz := b5.size
  -- the cut
  have hkk : cut % (s.length + 13) < s.length + 13 := Nat.mod_lt _ (by omega)
  have ek : (cut : Int) % ((s.length : Int) + 13) = ((cut % (s.length + 13) : Nat) : Int) := by rw [Int.natCast_emod, Int.natCast_add]; rfl
  have hcap := H4.out.cap
  have H6 := Lib.hid (((H4.out.below (hb5.mono hb4.size)).below (hb6.mono (Nat.le_trans hb4.size hb5.size))).head (s := cut % (s.length + 13)) (Nat.le_of_lt hkk))
  have ho := World.ownsRow_made (e := 5) (size := 1) (base := w6.heap.size) w6 #[] 0 (Nat.le_refl _) (by decide) (by rfl)
  have hbl := below_alloc w6 (.cells #[] 5)
  have z36 : w3.heap.size ≤ w6.heap.size := Nat.le_trans (Nat.le_trans hb4.size hb5.size) hb6.size
  obtain ⟨v7, w7, hr, ho', hgr⟩ := app_run (l := []) 22 ho (H6.out.below (hbl.mono z36)) (by have := H6.out.len; simp; omega) (by simp)
  have HR := Lib.hid hr
  have hb7 : Below w6.heap.size w6 w7 := hbl.grown hgr (by simp) (fun j hj => (ho.lt j hj).1)
  obtain ⟨A7, n7, c7, rfl, hB7⟩ := own_holds ho'
  rw [List.nil_append] at hB7
  have H7 := Lib.hid hB7
  clear hr ho ho' hgr hB7 hbl
  generalize hkg : cut % (s.length + 13) = k at *
  clear hkg
  go_wp2_with (at_builtin; refine Lib.wpList_append_run _ rfl _ _ _ _ rfl _ _ rfl rfl _ _ HR.out ?_)
  refine (open_cut t A7 n7 c7 _ k _ w7 H7.out (Nat.le_refl _) (by rw [HL2.out]; omega) (by rw [HL2.out]; omega)).mono ?_
  rintro e w8 ⟨rfl, hb8⟩
  have hf8 := (hf6.below hb7).below hb8
  have b7 : Below w.heap.size w w7 := b6.trans (hb7.mono b6.size)
  have b8 : Below w.heap.size w w8 := b7.trans (hb8.mono b7.size)
  go_wp2_with fail
  refine (fnum_back _ x _ false w8 hf8 hx).mono ?_
  rintro e w9 ⟨rfl, hf9, hg9⟩
  have b9 : Below w.heap.size w w9 := b8.grown hg9 b8.size (fun k hk => by cases hk; exact hz)
  go_wp2_with fail
  refine (ftext_back _ s [] false w9 hf9 (by omega)).mono ?_
  rintro e w10 ⟨rfl, hf10, hg10⟩
  have b10 : Below w.heap.size w w10 := b9.grown hg10 b9.size (fun k hk => by cases hk; exact hz)
  go_wp2_with fail
  refine (fend_any _ [] false w10 hf10).mono ?_
  rintro e w11 ⟨rfl, rfl⟩
  have he0 : endOf [] false = 0 := rfl
  rw [he0]
  clear he0
  go_wp2
  go_ret
  exact ⟨rfl, b10⟩
theorem walk (w : World) (a0 : Int) (w0 : (Lit.int .u8 a0).wf = true) (a1 : Int) (w1 : (Lit.int .u32 a1).wf = true) (s : ByteArray) (hs : s.size ≤ 140737488351232) (a3 : Int) (w3 : (Lit.int .u16 a3).wf = true) :
    Calls Try.prog 7 #[.int .u8 a0, .int .u32 a1, .string s, .int .u16 a3] w fun e w' => e = .returned (.bool true) ∧ Below w.heap.size w w' := by
  obtain ⟨t, rfl⟩ := u8_of w0
  obtain ⟨x, rfl, hx⟩ := u32_of w1
  obtain ⟨cut, rfl, hc⟩ := u16_of w3
  obtain ⟨sl, rfl⟩ : ∃ sl : List UInt8, s = ⟨sl.toArray⟩ := ⟨s.data.toList, by simp⟩
  by_cases h1 : sl.length ≤ 65529
  · exact walk_short w t x hx sl h1 cut hc
  · by_cases h2 : sl.length ≤ 65535
    · exact walk_mid w t x hx sl h2 (by omega) cut hc
    · exact walk_long w t x hx sl (by omega) cut hc
end Go.Proofs.Ytffniconhpbbbaa.fieldBack
