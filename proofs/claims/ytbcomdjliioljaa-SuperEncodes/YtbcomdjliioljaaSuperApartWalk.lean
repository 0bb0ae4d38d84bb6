/- SuperApart, walked. -/
import Derived.Test.YtbcomdjliioljaaAwake
namespace Go.Proofs.Ytbcomdjliioljaa.superApart
open Go.RowKit
set_option linter.unusedVariables false

theorem toNats {a b c : Int} (h : ok a b c = true) : ∃ x y z : Nat, a = x ∧ b = y ∧ c = z := by
  obtain ⟨_, _, _, _, _, _⟩ := ok_iff.1 h
  exact ⟨a.toNat, b.toNat, c.toNat, by omega, by omega, by omega⟩
theorem list_eq {l l' : List UInt8} (h : l = l') : ((sb l).toList == (sb l').toList) = true := by rw [sb_list]; simpa using h
theorem list_ne {l l' : List UInt8} (h : l ≠ l') : ((sb l).toList == (sb l').toList) = false := by rw [sb_list]; simpa using h
/-- Two boxes, read behind all that came after. -/
theorem boxes {w W : World} {a b c a' b' c' : Int} (h : Below (w.heap.size + 1 + 1) ((w.alloc (.cells #[.int .i64 a, .int .i64 b, .int .i64 c] 23)).alloc (.cells #[.int .i64 a', .int .i64 b', .int .i64 c'] 23)) W) :
    (W.cell? ⟨w.heap.size, 0, none⟩ = some (.int .i64 a) ∧ W.cell? ⟨w.heap.size, 1, none⟩ = some (.int .i64 b) ∧ W.cell? ⟨w.heap.size, 2, none⟩ = some (.int .i64 c)) ∧
    (W.cell? ⟨w.heap.size + 1, 0, none⟩ = some (.int .i64 a') ∧ W.cell? ⟨w.heap.size + 1, 1, none⟩ = some (.int .i64 b') ∧ W.cell? ⟨w.heap.size + 1, 2, none⟩ = some (.int .i64 c')) :=
  ⟨cell3 w a b c 23 w.heap.size rfl W (((Below.refl _ _).alloc (by simp) _).trans (h.mono (by omega))), cell3 _ a' b' c' 23 (w.heap.size + 1) (by simp) W h⟩
set_option maxRecDepth 20000 in
set_option maxHeartbeats 2000000 in
theorem walk (w : World) (a b c a' b' c' : Int) : Calls Try.prog 5 #[.agg #[.int .i64 a, .int .i64 b, .int .i64 c], .agg #[.int .i64 a', .int .i64 b', .int .i64 c']] w fun e W' => e = .returned (.bool true) ∧ Below w.heap.size w W' := by
  have hsz : ((w.alloc (.cells #[.int .i64 a, .int .i64 b, .int .i64 c] 23)).alloc (.cells #[.int .i64 a', .int .i64 b', .int .i64 c'] 23)).heap.size = w.heap.size + 1 + 1 := by simp
  have HS := Lib.hid hsz
  have HB0 : Hid (Below w.heap.size w ((w.alloc (.cells #[.int .i64 a, .int .i64 b, .int .i64 c] 23)).alloc (.cells #[.int .i64 a', .int .i64 b', .int .i64 c'] 23))) := ((Below.refl _ w).alloc (Nat.le_refl _) _).alloc (by simp) _
  clear hsz
  cases hok : ok a b c with
  | false =>
    have HOK := Lib.hid hok
    clear hok
    go_enter Try.func5, Try.ntmps5
    go_wp2_with fail
    refine (encode_no a b c _ HOK.out).mono ?_
    rintro e w1 ⟨rfl, hb1⟩
    rw [HS.out] at hb1
    obtain ⟨_, l0, l1, l2⟩ := boxes hb1
    have HB1 := Lib.hid (HB0.out.trans (hb1.mono (by omega)))
    clear hb1
    cases hok' : ok a' b' c' with
    | false =>
      have HOK' := Lib.hid hok'
      clear hok'
      go_wp2_with fail
      refine (encode_no a' b' c' _ HOK'.out).mono ?_
      rintro e w2 ⟨rfl, hb2⟩
      have HB2 := Lib.hid (HB1.out.trans (hb2.mono HB1.out.size))
      clear hb2
      go_wp2_with fail
      refine (awake_any _).mono ?_
      rintro e w3 ⟨rfl, hb3⟩
      have HB3 := Lib.hid (HB2.out.trans (hb3.mono HB2.out.size))
      clear hb3
      go_wp2_with fail
      refine (awake_any _).mono ?_
      rintro e w4 ⟨rfl, hb4⟩
      have HB4 := Lib.hid (HB3.out.trans (hb4.mono HB3.out.size))
      clear hb4
      go_wp2_with fail
      go_ret
      exact ⟨rfl, HB4.out⟩
    | true =>
      obtain ⟨x', y', z', rfl, rfl, rfl⟩ := toNats hok'
      have HOK' := Lib.hid hok'
      clear hok'
      go_wp2_with fail
      refine (encode_yes x' y' z' _ HOK'.out).mono ?_
      rintro e w2 ⟨v2, rfl, hm2⟩
      have HB2 := Lib.hid (HB1.out.trans (hm2.bel.mono HB1.out.size))
      clear hm2
      go_wp2_with fail
      refine (awake_any _).mono ?_
      rintro e w3 ⟨rfl, hb3⟩
      have HB3 := Lib.hid (HB2.out.trans (hb3.mono HB2.out.size))
      clear hb3
      go_wp2_with fail
      refine (awake_any _).mono ?_
      rintro e w4 ⟨rfl, hb4⟩
      have HB4 := Lib.hid (HB3.out.trans (hb4.mono HB3.out.size))
      clear hb4
      go_wp2_with fail
      go_ret
      exact ⟨rfl, HB4.out⟩
  | true =>
    obtain ⟨x, y, z, rfl, rfl, rfl⟩ := toNats hok
    have HOK := Lib.hid hok
    clear hok
    go_enter Try.func5, Try.ntmps5
    go_wp2_with fail
    refine (encode_yes x y z _ HOK.out).mono ?_
    rintro e w1 ⟨v1, rfl, hm1⟩
    have hb1 := hm1.bel
    rw [HS.out] at hb1
    have HBX := Lib.hid hb1
    obtain ⟨_, l0, l1, l2⟩ := boxes hb1
    have HB1 := Lib.hid (HB0.out.trans (hb1.mono (by omega)))
    obtain ⟨A1, n1, c1, rfl, h1⟩ := hm1.holds
    have H1 := Lib.hid h1
    clear hb1 hm1 h1
    cases hok' : ok a' b' c' with
    | false =>
      have HOK' := Lib.hid hok'
      clear hok'
      go_wp2_with fail
      refine (encode_no a' b' c' _ HOK'.out).mono ?_
      rintro e w2 ⟨rfl, hb2⟩
      have HB2 := Lib.hid (HB1.out.trans (hb2.mono HB1.out.size))
      clear hb2
      go_wp2_with fail
      refine (awake_any _).mono ?_
      rintro e w3 ⟨rfl, hb3⟩
      have HB3 := Lib.hid (HB2.out.trans (hb3.mono HB2.out.size))
      clear hb3
      go_wp2_with fail
      refine (awake_any _).mono ?_
      rintro e w4 ⟨rfl, hb4⟩
      have HB4 := Lib.hid (HB3.out.trans (hb4.mono HB3.out.size))
      clear hb4
      go_wp2_with fail
      go_ret
      exact ⟨rfl, HB4.out⟩
    | true =>
      obtain ⟨x', y', z', rfl, rfl, rfl⟩ := toNats hok'
      have HOK' := Lib.hid hok'
      clear hok'
      go_wp2_with fail
      refine (encode_yes x' y' z' _ HOK'.out).mono ?_
      rintro e w2 ⟨v2, rfl, hm2⟩
      have HBY := Lib.hid (HBX.out.trans (hm2.bel.mono (HS.out ▸ HBX.out.size)))
      have hw2 := hm2.bel.size
      have HB2 := Lib.hid (HB1.out.trans (hm2.bel.mono HB1.out.size))
      obtain ⟨A2, n2, c2, rfl, h2⟩ := hm2.holds
      have H2 := Lib.hid h2
      have H1' := Lib.hid (H1.out.below hm2.bel)
      clear hm2 h2 l0 l1 l2
      go_wp2_with fail
      refine (awake_any _).mono ?_
      rintro e w3 ⟨rfl, hb3⟩
      have HB3 := Lib.hid (HB2.out.trans (hb3.mono HB2.out.size))
      obtain ⟨⟨k0, k1, k2⟩, l0, l1, l2⟩ := boxes (HBY.out.trans (hb3.mono (HS.out ▸ HBY.out.size)))
      have cv1 : ∀ m, (convert 24 9 (.slice A1 n1 c1)).run Try.prog (w3.drewN m) = .ok (.string (sb (sec x y z))) (w3.drewN m) := fun m => fstr H1'.out _ (below_drewN (hb3.mono hw2) m)
      have cv2 : ∀ m, (convert 24 9 (.slice A2 n2 c2)).run Try.prog (w3.drewN m) = .ok (.string (sb (sec x' y' z'))) (w3.drewN m) := fun m => fstr H2.out _ (below_drewN hb3 m)
      clear hb3
      by_cases hx : x = x'
      · subst hx
        by_cases hy : y = y'
        · subst hy
          by_cases hz : z = z'
          · subst hz
            have hl := list_eq (rfl : sec x y z = sec x y z)
            go_wp2_with fail
            go_quiet (fail)
            go_wp2_with fail
            go_ret
            exact ⟨rfl, below_drewN HB3.out _⟩
          · have hl := list_ne (fun e => hz (sec_inj HOK.out HOK'.out e).2.2)
            have hd : ((z : Int) == (z' : Int)) = false := by rw [beq_eq_false_iff_ne]; omega
            clear hz
            go_wp2_with fail
            go_quiet (fail)
            go_wp2_with fail
            go_ret
            exact ⟨rfl, below_drewN HB3.out _⟩
        · have hl := list_ne (fun e => hy (sec_inj HOK.out HOK'.out e).2.1)
          have hd : ((y : Int) == (y' : Int)) = false := by rw [beq_eq_false_iff_ne]; omega
          clear hy
          go_wp2_with fail
          go_quiet (fail)
          go_wp2_with fail
          go_ret
          exact ⟨rfl, below_drewN HB3.out _⟩
      · have hl := list_ne (fun e => hx (sec_inj HOK.out HOK'.out e).1)
        have hd : ((x : Int) == (x' : Int)) = false := by rw [beq_eq_false_iff_ne]; omega
        clear hx
        go_wp2_with fail
        go_quiet (fail)
        go_wp2_with fail
        go_ret
        exact ⟨rfl, below_drewN HB3.out _⟩
end Go.Proofs.Ytbcomdjliioljaa.superApart
