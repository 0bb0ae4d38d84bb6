/- SeatSpoilt, walked. -/
import Derived.Test.YtheimdnjmhibjaaAwake
import Derived.Laws.ShiftsVarLaws
namespace Go.Proofs.Ytheimdnjmhibjaa.seatSpoilt
open Go.RowKit F
set_option linter.unusedVariables false
/-- One byte of a slice of the call's own is stored. -/
theorem own_set {w : World} {base g cap m : Nat} {l : List UInt8} (h : w.ownsRow base 5 1 (.slice (some ⟨g, 0, none⟩) m cap) l.length (l.map bv)) (j : Nat) (y : UInt8) :
    (w.setCell ⟨g, j, none⟩ (bv y)).ownsRow base 5 1 (.slice (some ⟨g, 0, none⟩) m cap) (l.set j y).length ((l.set j y).map bv) := by
  refine ⟨by simp, ?_⟩
  rcases h.2 with ⟨e, _⟩ | ⟨g', cap', cur, e, hg, hh, hn, hm, hs, ht⟩
  · cases e
  · injection e with e1 e2 e3
    injection e1 with e1
    injection e1 with e1
    subst e1 e2 e3
    refine .inr ⟨g, cap, cur.setIfInBounds j (bv y), by rw [List.length_set], hg, heap_set hh j _, by rw [List.length_set]; exact hn, hm, by rw [Array.size_setIfInBounds]; exact hs, ?_⟩
    rw [List.length_set, Array.toList_setIfInBounds, List.take_set, ht, List.map_set]
theorem own_cell {w : World} {base g cap N j : Nat} {l : List UInt8} (h : w.ownsRow base 5 1 (.slice (some ⟨g, 0, none⟩) N cap) l.length (l.map bv)) (hl : l.length = N) (hj : j < N) :
    w.cell? ⟨g, j, none⟩ = some (.int .u8 ((l[j]?.getD 0).toNat : Int)) ∧ w.frozen? ⟨g, j, none⟩ = false := by
  constructor
  · obtain ⟨A, n, c, e, hB⟩ := own_holds h
    cases e
    obtain ⟨b, off, e, _, hc⟩ := hB.cell hj
    cases e
    rw [Nat.zero_add] at hc
    exact hc
  · rcases h.2 with ⟨e, _⟩ | ⟨g', cap', cur, e, hg, hh, _⟩
    · cases e
    · injection e with e1 e2 e3
      injection e1 with e1
      injection e1 with e1
      subst e1
      exact free_in hh j
theorem bit_val (x : UInt8) (e : Nat) : Value.int .u8 (bits .xor .u8 (x.toNat : Int) (2 ^ e % 256)) = bv (x ^^^ UInt8.ofNat (2 ^ e)) := by
  have hx := x.toNat_lt
  have e1 : (2 : Int) ^ e % 256 = ((2 ^ e % 256 : Nat) : Int) := by simp
  have hy : 2 ^ e % 256 < 256 := Nat.mod_lt _ (by omega)
  rw [e1, u8_xor_nat _ _ (by omega) hy]
  unfold bv
  rw [UInt8.toNat_xor, UInt8.toNat_ofNat']
/-- Encode of any seat: what it tells, and no more. -/
def code (o : Bool) : Int := if o then 0 else 2
theorem enc_code (a b : Int) (A : Option Addr) (n c B : Nat) (r : List UInt8) (w : World) (hr : F.Bts w B A n c r) (hB : B ≤ w.heap.size) (o : Bool) (h : ok a b n = o) : Calls Try.prog 7 #[.agg #[.int .i64 a, .int .i64 b, .slice A n c]] w fun e w' => ∃ v, e = .returned (.tuple #[v, .int .i64 (code o)]) ∧ Below w.heap.size w w' := by
  cases o with
  | false => exact (encode_no a b A n c w h).mono fun e w' ⟨he, hb⟩ => ⟨_, he, hb⟩
  | true =>
    obtain ⟨x, y, rfl, rfl, _⟩ := toNats h
    exact (encode_yes x y A n c B r w hr hB h).mono fun e w' ⟨v, he, hm⟩ => ⟨v, he, hm.bel⟩
/-- Two boxes, read behind all that came after. -/
theorem boxes {w W : World} {x y z x' y' z' : Value} (h : Below (w.heap.size + 1 + 1) ((w.alloc (.cells #[x, y, z] 24)).alloc (.cells #[x', y', z'] 24)) W) :
    (W.cell? ⟨w.heap.size, 0, none⟩ = some x ∧ W.cell? ⟨w.heap.size, 1, none⟩ = some y ∧ W.cell? ⟨w.heap.size, 2, none⟩ = some z) ∧
    (W.cell? ⟨w.heap.size + 1, 0, none⟩ = some x' ∧ W.cell? ⟨w.heap.size + 1, 1, none⟩ = some y' ∧ W.cell? ⟨w.heap.size + 1, 2, none⟩ = some z') :=
  ⟨cell3 w x y z 24 w.heap.size rfl W (((Below.refl _ _).alloc (by simp) _).trans (h.mono (by omega))), cell3 _ x' y' z' 24 (w.heap.size + 1) (by simp) W h⟩
set_option maxRecDepth 20000 in
set_option maxHeartbeats 2000000 in
theorem walk_no (w : World) (a b : Int) (A : Option Addr) (n c : Nat) (r : List UInt8) (hr : F.Bts w w.heap.size A n c r) (a' b' : Int) (A' : Option Addr) (n' c' : Nat) (r' : List UInt8) (hr' : F.Bts w w.heap.size A' n' c' r') (bit : Nat) (hbit : bit < 65536) (hok : ¬ (ok a b n = true ∧ ok a' b' n' = true)) :
    Calls Try.prog 6 #[.agg #[.int .i64 a, .int .i64 b, .slice A n c], .agg #[.int .i64 a', .int .i64 b', .slice A' n' c'], .int .u16 bit] w fun e W' => e = .returned (.bool true) ∧ Below w.heap.size w W' := by
  have hsz : ((w.alloc (.cells #[.int .i64 a, .int .i64 b, .slice A n c] 24)).alloc (.cells #[.int .i64 a', .int .i64 b', .slice A' n' c'] 24)).heap.size = w.heap.size + 1 + 1 := by simp
  have HS := Lib.hid hsz
  have HB0 : Hid (Below w.heap.size w ((w.alloc (.cells #[.int .i64 a, .int .i64 b, .slice A n c] 24)).alloc (.cells #[.int .i64 a', .int .i64 b', .slice A' n' c'] 24))) := ((Below.refl _ w).alloc (Nat.le_refl _) _).alloc (by simp) _
  have H := Lib.hid hr
  have H' := Lib.hid hr'
  clear hsz hr hr'
  obtain ⟨o, ho⟩ : ∃ o, ok a b n = o := ⟨_, rfl⟩
  obtain ⟨o', ho'⟩ : ∃ o, ok a' b' n' = o := ⟨_, rfl⟩
  have HO := Lib.hid ho
  have HO' := Lib.hid ho'
  rw [ho, ho'] at hok
  clear ho ho'
  cases o <;> cases o'
  case true.true => exact absurd ⟨rfl, rfl⟩ hok
  all_goals
    clear hok
    go_enter Try.func6, Try.ntmps6
    go_wp2_with fail
    refine (enc_code a b A n c _ r _ (H.out.below HB0.out) HB0.out.size _ HO.out).mono ?_
    rintro e w1 ⟨v1, rfl, hb1⟩
    have HB1 := Lib.hid (HB0.out.trans (hb1.mono HB0.out.size))
    rw [HS.out] at hb1
    obtain ⟨_, l0, l1, l2⟩ := boxes hb1
    clear hb1
    go_wp2_with fail
    refine (enc_code a' b' A' n' c' _ r' _ (H'.out.below HB1.out) HB1.out.size _ HO'.out).mono ?_
    rintro e w2 ⟨v2, rfl, hb2⟩
    have HB2 := Lib.hid (HB1.out.trans (hb2.mono HB1.out.size))
    clear hb2 l0 l1 l2
    go_wp2_with fail
    refine (awake_any _).mono ?_
    rintro e w3 ⟨rfl, hb3⟩
    have HB3 := Lib.hid (HB2.out.trans (hb3.mono HB2.out.size))
    clear hb3
    go_wp2_with fail
    refine (awake_any _).mono ?_
    rintro e w4 ⟨rfl, hb4⟩
    have HB4 := Lib.hid (HB3.out.trans (hb4.mono HB3.out.size))
    clear hb4
    go_wp2_with fail
    go_ret
    exact ⟨rfl, HB4.out⟩
/-- Two sectors are the same where the seats are. -/
theorem same_sec {a b a' b' : Nat} {r r' : List UInt8} (h : ok a b r.length = true) (h' : ok a' b' r'.length = true) : ((sb (sec a b r)).toList == (sb (sec a' b' r')).toList) = same a b r a' b' r' := by
  rw [sb_list]
  unfold same
  refine decide_eq_decide.2 ⟨fun e => ?_, ?_⟩
  · obtain ⟨h1, h2, h3⟩ := sec_inj h h' e
    exact ⟨by rw [h1], by rw [h2], h3⟩
  · rintro ⟨h1, h2, rfl⟩
    obtain rfl : a = a' := by omega
    obtain rfl : b = b' := by omega
    rfl
set_option maxRecDepth 20000 in
set_option maxHeartbeats 2000000 in
theorem walk_yes (w : World) (a b : Nat) (A : Option Addr) (n c : Nat) (r : List UInt8) (hr : F.Bts w w.heap.size A n c r) (a' b' : Nat) (A' : Option Addr) (n' c' : Nat) (r' : List UInt8) (hr' : F.Bts w w.heap.size A' n' c' r') (bit : Nat) (hbit : bit < 65536) (hok : ok a b n = true) (hok' : ok a' b' n' = true) :
    Calls Try.prog 6 #[.agg #[.int .i64 a, .int .i64 b, .slice A n c], .agg #[.int .i64 a', .int .i64 b', .slice A' n' c'], .int .u16 bit] w fun e W' => e = .returned (.bool true) ∧ Below w.heap.size w W' := by
  have hsz : ((w.alloc (.cells #[.int .i64 a, .int .i64 b, .slice A n c] 24)).alloc (.cells #[.int .i64 a', .int .i64 b', .slice A' n' c'] 24)).heap.size = w.heap.size + 1 + 1 := by simp
  have HS := Lib.hid hsz
  have HB0 : Hid (Below w.heap.size w ((w.alloc (.cells #[.int .i64 a, .int .i64 b, .slice A n c] 24)).alloc (.cells #[.int .i64 a', .int .i64 b', .slice A' n' c'] 24))) := ((Below.refl _ w).alloc (Nat.le_refl _) _).alloc (by simp) _
  have H := Lib.hid hr
  have H' := Lib.hid hr'
  have HO := Lib.hid hok
  have HO' := Lib.hid hok'
  have h96 : Hid (r.length ≤ 96) := by show _ ≤ _; rw [hr.len]; exact (ok_iff.1 hok).2.2.2.2
  have HL : Hid (((sb (sec a b r)).toList == (sb (sec a' b' r')).toList) = same a b r a' b' r') := same_sec (by rw [hr.len]; exact hok) (by rw [hr'.len]; exact hok')
  have HT : Hid (¬ IsSec ((sec a b r).set (bit % 1024 / 8) ((sec a b r)[bit % 1024 / 8]?.getD 0 ^^^ UInt8.ofNat (2 ^ (bit % 8))))) := by
    have h := turned (a := a) (b := b) (r := r) (p := bit % 1024) h96.out (by omega)
    have e : bit % 1024 % 8 = bit % 8 := by omega
    rw [e] at h
    exact h
  have HLN : Hid ((sec a b r).length = 128) := sec_len a b h96.out
  clear hsz hr hr' hok hok'
  go_enter Try.func6, Try.ntmps6
  go_wp2_with fail
  refine (encode_yes a b A n c _ r _ (H.out.below HB0.out) HB0.out.size HO.out).mono ?_
  rintro e w1 ⟨v, rfl, hm1⟩
  obtain ⟨g, cap, rfl, hg⟩ : ∃ g cap, v = .slice (some ⟨g, 0, none⟩) 128 cap ∧ w.heap.size ≤ g := by
    have hl1 := HLN.out
    rcases hm1.own.2 with ⟨_, h0⟩ | ⟨g, cap, cur, e, hg, _⟩
    · omega
    · exact ⟨g, cap, by rw [e, hl1], by simp at hg; omega⟩
  have HB1 := Lib.hid (HB0.out.trans (hm1.bel.mono HB0.out.size))
  have hb1 := hm1.bel
  rw [HS.out] at hb1
  have HX1 := Lib.hid hb1
  have HM1 := Lib.hid hm1
  have hs1 : w.heap.size + 1 + 1 ≤ w1.heap.size := HS.out ▸ hb1.size
  obtain ⟨_, l0, l1, l2⟩ := boxes hb1
  clear hm1 hb1
  go_wp2_with fail
  refine (encode_yes a' b' A' n' c' _ r' _ (H'.out.below HB1.out) HB1.out.size HO'.out).mono ?_
  rintro e w2 ⟨v2, rfl, hm2⟩
  obtain ⟨A2, n2, c2, rfl, h2⟩ := hm2.holds
  have HV2 := Lib.hid h2
  have HO1 := Lib.hid (own_below HM1.out.own hm2.bel)
  have HX2 := Lib.hid (HX1.out.trans (hm2.bel.mono hs1))
  have hs2 : w.heap.size + 1 + 1 ≤ w2.heap.size := HS.out ▸ HX2.out.size
  clear hm2 h2 l0 l1 l2 HM1 HX1 HB1
  go_wp2_with fail
  refine (awake_any _).mono ?_
  rintro e w3 ⟨rfl, hb3⟩
  have HX3 := Lib.hid (HX2.out.trans (hb3.mono hs2))
  have HV3 := Lib.hid ((HV2.out.below hb3).more hb3.size)
  have HO3 := Lib.hid (own_below HO1.out hb3)
  have hs3 : w.heap.size + 1 + 1 ≤ w3.heap.size := HS.out ▸ HX3.out.size
  clear hb3 HV2 HO1 HX2
  have HV1 : Hid (F.Bts w3 w3.heap.size (some ⟨g, 0, none⟩) 128 cap (sec a b r)) := by
    obtain ⟨_, _, _, e, h⟩ := own_holds HO3.out
    cases e
    exact h
  have HBW : ∀ W, Hid (Below w3.heap.size w3 W → Below w.heap.size w W) := fun W hW => HB0.out.trans ((HX3.out.trans (hW.mono hs3)).mono (by omega))
  have HSS : ∀ W, Hid (Below w3.heap.size w3 W → W.cell? ⟨w.heap.size, 0, none⟩ = some (.int .i64 a) ∧ W.cell? ⟨w.heap.size, 1, none⟩ = some (.int .i64 b) ∧ W.cell? ⟨w.heap.size, 2, none⟩ = some (.slice A n c) ∧ W.cell? ⟨w.heap.size + 1, 0, none⟩ = some (.int .i64 a') ∧ W.cell? ⟨w.heap.size + 1, 1, none⟩ = some (.int .i64 b') ∧ W.cell? ⟨w.heap.size + 1, 2, none⟩ = some (.slice A' n' c') ∧ (convert 22 9 (.slice (some ⟨g, 0, none⟩) 128 cap)).run Try.prog W = .ok (.string (sb (sec a b r))) W ∧ (convert 22 9 (.slice A2 n2 c2)).run Try.prog W = .ok (.string (sb (sec a' b' r'))) W) := fun W hW => by
    obtain ⟨⟨p0, p1, p2⟩, q0, q1, q2⟩ := boxes (HX3.out.trans (hW.mono hs3))
    exact ⟨p0, p1, p2, q0, q1, q2, fstr HV1.out W hW, fstr HV3.out W hW⟩
  have HBD : Hid (Below w3.heap.size w3 w3.drew) := (Below.refl _ _).drew
  have HSM : ∀ W, Hid (Below w3.heap.size w3 W → Calls Try.prog 12 #[.agg #[.int .i64 a, .int .i64 b, .slice A n c], .agg #[.int .i64 a', .int .i64 b', .slice A' n' c']] W fun e w' => e = .returned (.bool (same a b r a' b' r')) ∧ Below W.heap.size W w') := fun W hW => same_any a b a' b' (H.out.below ((HBW W).out hW)) ((HBW W).out hW).size (H'.out.below ((HBW W).out hW)) ((HBW W).out hW).size
  have hll := HL.out
  generalize same a b r a' b' r' = u at *
  clear HL
  go_wp2_with fail
  go_region_held3 (fun w' => w'.cell? ⟨w.heap.size, 0, none⟩ = some (.int .i64 a) ∧ w'.cell? ⟨w.heap.size, 1, none⟩ = some (.int .i64 b) ∧ w'.cell? ⟨w.heap.size, 2, none⟩ = some (.slice A n c) ∧ w'.cell? ⟨w.heap.size + 1, 0, none⟩ = some (.int .i64 a') ∧ w'.cell? ⟨w.heap.size + 1, 1, none⟩ = some (.int .i64 b') ∧ w'.cell? ⟨w.heap.size + 1, 2, none⟩ = some (.slice A' n' c') ∧ (convert 22 9 (.slice (some ⟨g, 0, none⟩) 128 cap)).run Try.prog w' = .ok (.string (sb (sec a b r))) w' ∧ (convert 22 9 (.slice A2 n2 c2)).run Try.prog w' = .ok (.string (sb (sec a' b' r'))) w') (first | (with_reducible exact (HSS _).out HBD.out) | (with_reducible exact (HSS _).out HB4.out)) (first
    | (go_at_call 12; (with_reducible refine ((HSM _).out HBD.out).mono ?_); rintro e w4 ⟨rfl, hb4⟩; have HB4 := Lib.hid (HBD.out.trans (hb4.mono HBD.out.size)); clear hb4))
  have HO4 := Lib.hid (own_below HO3.out HB4.out)
  have HB4W : Hid (Below w.heap.size w w4) := (HBW _).out HB4.out
  clear HSM HSS HBD HB4 HBW HV1 HV3 HX3 HO3 hll H H' HO HO' HS HB0
  have hq : bit % 1024 / 8 < 128 := by omega
  obtain ⟨hcell, hfree⟩ := own_cell HO4.out HLN.out hq
  have HN : Hid (Value.int .u8 (bits .xor .u8 (((sec a b r)[bit % 1024 / 8]?.getD 0).toNat : Int) (2 ^ (bit % 8) % 256)) = bv ((sec a b r)[bit % 1024 / 8]?.getD 0 ^^^ UInt8.ofNat (2 ^ (bit % 8)))) := bit_val _ _
  have HO5 := Lib.hid (own_set HO4.out (bit % 1024 / 8) ((sec a b r)[bit % 1024 / 8]?.getD 0 ^^^ UInt8.ofNat (2 ^ (bit % 8))))
  have HB5 : Hid (Below w.heap.size w (w4.setCell ⟨g, bit % 1024 / 8, none⟩ (bv ((sec a b r)[bit % 1024 / 8]?.getD 0 ^^^ UInt8.ofNat (2 ^ (bit % 8)))))) := HB4W.out.setCell (p := ⟨g, bit % 1024 / 8, none⟩) hg _
  generalize (sec a b r)[bit % 1024 / 8]?.getD 0 = q at *
  go_wp2_with fail
  rw [HN.out]
  generalize w4.setCell { block := g, off := bit % 1024 / 8 } (bv (q ^^^ UInt8.ofNat (2 ^ (bit % 8)))) = w5 at *
  obtain ⟨A5, n5, c5, e5, hB5⟩ := own_holds HO5.out
  cases e5
  have H5 := Lib.hid hB5
  clear hB5 HN HO4 HO5 hcell hfree
  refine (decode_any (r := false) H5.out (Nat.le_refl _) ⟨(fun e => by cases e), (fun e => absurd e HT.out)⟩).mono ?_
  rintro e w6 ⟨rfl, hb6⟩
  have HB6 := Lib.hid (HB5.out.trans (hb6.mono HB5.out.size))
  clear hb6
  go_wp2_with fail
  go_ret
  exact ⟨rfl, HB6.out.alloc HB6.out.size _⟩
theorem walk (w : World) (a b : Int) (A : Option Addr) (n c : Nat) (r : List UInt8) (hr : F.Bts w w.heap.size A n c r) (a' b' : Int) (A' : Option Addr) (n' c' : Nat) (r' : List UInt8) (hr' : F.Bts w w.heap.size A' n' c' r') (bit : Nat) (hbit : bit < 65536) :
    Calls Try.prog 6 #[.agg #[.int .i64 a, .int .i64 b, .slice A n c], .agg #[.int .i64 a', .int .i64 b', .slice A' n' c'], .int .u16 bit] w fun e W' => e = .returned (.bool true) ∧ Below w.heap.size w W' := by
  by_cases h : ok a b n = true ∧ ok a' b' n' = true
  · obtain ⟨x, y, rfl, rfl, _⟩ := toNats h.1
    obtain ⟨x', y', rfl, rfl, _⟩ := toNats h.2
    exact walk_yes w x y A n c r hr x' y' A' n' c' r' hr' bit hbit h.1 h.2
  · exact walk_no w a b A n c r hr a' b' A' n' c' r' hr' bit hbit h
end Go.Proofs.Ytheimdnjmhibjaa.seatSpoilt
