/- TreeApart, walked. -/
import Derived.Test.YtolooiaeoloimaaAwake
namespace Go.Proofs.Ytolooiaeoloimaa.treeApart
open Go.RowKit
set_option linter.unusedVariables false

theorem parts_any (a s : Nat) (w : World) (has : a + s ≤ 9728) : Calls Try.prog 14 #[.int .i64 a, .int .i64 s] w (GivesPts w a s) := by
  by_cases hs : s = 0
  · subst hs
    refine (parts_nil a w (by omega)).mono ?_
    rintro e w1 ⟨rfl, rfl⟩
    exact ⟨none, 0, rfl, Pts.nil_ _ _ _, Below.refl _ _⟩
  · exact parts_some a s w (by omega) has
theorem upto_bnd {a s k : Nat} (h : k ≤ np a s) : 0 ≤ upto a s k ∧ upto a s k ≤ s := by
  by_cases hk : k < np a s
  · obtain ⟨_, _, _, _, _, h6, h7, _⟩ := part_ok hk
    exact ⟨h6, h7⟩
  · obtain rfl : k = np a s := by omega
    rw [upto_all]
    omega
set_option maxRecDepth 20000 in
set_option maxHeartbeats 4000000 in
theorem walk (w : World) (p q : UInt8) (at_ : Nat) (h1 : at_ < 65536) (size : Nat) (h2 : size < 65536) (cut : Nat) (h3 : cut < 65536) :
    Calls Try.prog 7 #[.int .u8 (p.toNat : Int), .int .u8 (q.toNat : Int), .int .u16 at_, .int .u16 size, .int .u16 cut] w fun e W' => e = .returned (.bool true) ∧ Below w.heap.size w W' := by
  have hp := p.toNat_lt
  have hq := q.toNat_lt
  generalize p.toNat = x at *
  generalize q.toNat = y at *
  go_enter Try.func7, Try.ntmps7
  go_wp2_with fail
  rw [show (x : Int) % 76 = ((x % 76 : Nat) : Int) by omega, show (y : Int) % 76 = ((y % 76 : Nat) : Int) by omega]
  have hm : x % 76 < 76 := by omega
  have hn : y % 76 < 76 := by omega
  generalize x % 76 = m at *
  generalize y % 76 = n at *
  refine (route_yes m w hm).mono ?_
  rintro e w1 ⟨g1, rfl, i1, hb1⟩
  have I1 := Lib.hid i1
  have HB1 := Lib.hid hb1
  clear i1 hb1
  go_wp2_with fail
  refine (route_yes n w1 hn).mono ?_
  rintro e w2 ⟨g2, rfl, i2, hb2⟩
  have HB2 := Lib.hid (HB1.out.trans (hb2.mono HB1.out.size))
  have I12 := Lib.hid ((I1.out.below hb2).more hb2.size)
  have I2 := Lib.hid i2
  clear i2 hb2 I1
  go_wp2_with fail
  refine (awake_any _).mono ?_
  rintro e w3 ⟨rfl, hb3⟩
  have HB3 := Lib.hid (HB2.out.trans (hb3.mono HB2.out.size))
  have HIN := Lib.hid (ints_any (I12.out.below hb3) (I2.out.below hb3))
  have HD : Hid (decide (route m = route n) = decide (m = n)) := by
    show _ = _
    rw [decide_eq_decide]
    exact ⟨route_inj, fun e => by rw [e]⟩
  rw [HD.out] at HIN
  clear hb3 I12 I2 HD HB1 HB2
  go_wp2_with fail
  refine HIN.out.mono ?_
  rintro e w4 ⟨rfl, hb4⟩
  have HB4 := Lib.hid (HB3.out.trans (hb4.mono HB3.out.size))
  clear hb4 HIN HB3
  generalize (route m).length = lm at *
  generalize (route n).length = ln at *
  have hne : (decide (m = n) = true ∧ ((m : Int) == (n : Int)) = true) ∨ (decide (m = n) = false ∧ ((m : Int) == (n : Int)) = false) := by
    by_cases e : m = n
    · subst e
      exact .inl ⟨by simp, by simp⟩
    · exact .inr ⟨by simpa using e, by simp; omega⟩
  rcases hne with ⟨e1, e2⟩ | ⟨e1, e2⟩
  all_goals
    rw [e1]
    clear e1
    go_wp2_with fail
    clear e2
    rw [show (at_ : Int) % 5000 = ((at_ % 5000 : Nat) : Int) by omega, show (size : Int) % 4000 = ((size % 4000 : Nat) : Int) by omega]
    have ha : at_ % 5000 < 5000 := by omega
    have hs : size % 4000 < 4000 := by omega
    generalize at_ % 5000 = a at *
    generalize size % 4000 = s at *
    rw [show (cut : Int) % ((s : Int) + 1) = ((cut % (s + 1) : Nat) : Int) by simp]
    have hk : cut % (s + 1) ≤ s := Nat.le_of_lt_succ (Nat.mod_lt _ (by omega))
    generalize cut % (s + 1) = k at *
    have US1 : ∀ j, Hid (j < np a s → upto a s (j + 1) = upto a s j + (pt a s j - pf a j)) := fun j h => upto_succ h
    have US2 : ∀ j, Hid (j < np a k → upto a k (j + 1) = upto a k j + (pt a k j - pf a j)) := fun j h => upto_succ h
    have US3 : ∀ j, Hid (j < np (a + k) (s - k) → upto (a + k) (s - k) (j + 1) = upto (a + k) (s - k) j + (pt (a + k) (s - k) j - pf (a + k) j)) := fun j h => upto_succ h
    have BD1 : ∀ j, Hid (j < np a s → 0 ≤ pf a j ∧ pf a j < pt a s j ∧ pt a s j ≤ 128) := fun j h => by obtain ⟨q1, q2, q3, _⟩ := part_ok h; exact ⟨q2, q1, q3⟩
    have BD2 : ∀ j, Hid (j < np a k → 0 ≤ pf a j ∧ pf a j < pt a k j ∧ pt a k j ≤ 128) := fun j h => by obtain ⟨q1, q2, q3, _⟩ := part_ok h; exact ⟨q2, q1, q3⟩
    have BD3 : ∀ j, Hid (j < np (a + k) (s - k) → 0 ≤ pf (a + k) j ∧ pf (a + k) j < pt (a + k) (s - k) j ∧ pt (a + k) (s - k) j ≤ 128) := fun j h => by obtain ⟨q1, q2, q3, _⟩ := part_ok h; exact ⟨q2, q1, q3⟩
    have UB1 : ∀ j, Hid (j ≤ np a s → 0 ≤ upto a s j ∧ upto a s j ≤ s) := fun j h => upto_bnd h
    have UB2 : ∀ j, Hid (j ≤ np a k → 0 ≤ upto a k j ∧ upto a k j ≤ k) := fun j h => upto_bnd h
    have UB3 : ∀ j, Hid (j ≤ np (a + k) (s - k) → 0 ≤ upto (a + k) (s - k) j ∧ upto (a + k) (s - k) j ≤ ((s - k : Nat) : Int)) := fun j h => upto_bnd h
    have UA1 := Lib.hid (upto_all a s)
    have UA2 := Lib.hid (upto_all a k)
    have UA3 : Hid (upto (a + k) (s - k) (np (a + k) (s - k)) = (s : Int) - k) := by show _ = _; rw [upto_all]; omega
    have U01 := Lib.hid (upto_zero a s)
    have U02 := Lib.hid (upto_zero a k)
    have U03 := Lib.hid (upto_zero (a + k) (s - k))
    have hN1 := np_le (a := a) (s := s) (.inl (by omega))
    have hN2 := np_le (a := a) (s := k) (.inl (by omega))
    have hN3 := np_le (a := a + k) (s := s - k) (.inl (by omega))
    have hN := np_two (a := a) hk
    refine (parts_any a s w4 (by omega)).mono ?_
    rintro e w5 ⟨A1, c1, rfl, p1, hb5⟩
    have HB5 := Lib.hid (HB4.out.trans (hb5.mono HB4.out.size))
    have P1 := Lib.hid p1
    clear p1 hb5 HB4
    generalize np a s = N1 at *
    go_wp2_with fail
    refine (parts_any a k w5 (by omega)).mono ?_
    rintro e w6 ⟨A2, c2, rfl, p2, hb6⟩
    have HB6 := Lib.hid (HB5.out.trans (hb6.mono HB5.out.size))
    have P16 := Lib.hid ((P1.out.below hb6).more hb6.size)
    have P2 := Lib.hid p2
    clear p2 hb6 HB5 P1
    generalize np a k = N2 at *
    go_wp2_with fail
    rw [show (a : Int) + k = ((a + k : Nat) : Int) by omega, show (s : Int) - k = ((s - k : Nat) : Int) by omega]
    refine (parts_any (a + k) (s - k) w6 (by omega)).mono ?_
    rintro e w7 ⟨A3, c3, rfl, p3, hb7⟩
    have HB7 := Lib.hid (HB6.out.trans (hb7.mono HB6.out.size))
    have P1 := Lib.hid ((P16.out.below hb7).more hb7.size)
    have P26 := Lib.hid ((P2.out.below hb7).more hb7.size)
    have P3 := Lib.hid p3
    clear p3 hb7 HB6 P16 P2
    have P2 := P26
    clear P26
    generalize np (a + k) (s - k) = N3 at *
    have hc1 := P1.out.cap
    have hc2 := P2.out.cap
    have hc3 := P3.out.cap
    have hl1 := P1.out.lim
    have hl2 := P2.out.lim
    have hl3 := P3.out.lim
    unfold maxLen at hl1 hl2 hl3
    go_wp2_with fail
    go_loopw [26, 27] (fun u i wr => ∃ j : Nat, j ≤ N1 ∧ i = .int .i64 j ∧ u = .int .i64 (0 + upto a s j) ∧ Hid (Below w7.heap.size w7 wr ∧ ∀ p, wr.cell? p = w7.cell? p)) (fun _ i _ => N1 - (intOf i).toNat)
    case atStart => exact ⟨0, Nat.zero_le _, rfl, by rw [U01.out]; first | rfl | simp, ⟨Below.refl _ _, fun _ => rfl⟩⟩
    case round =>
      obtain ⟨j, hj, rfl, rfl, HB⟩ := hrel
      by_cases hlt : j < N1
      · obtain ⟨b, rfl, hbb, hc⟩ := (P1.out.keep (w' := wr) fun p _ => HB.out.2 p).at_ (by omega)
        obtain ⟨_, hc1, hc2⟩ := hc j hlt
        obtain ⟨g1, g2, g3⟩ := (BD1 j).out hlt
        have HU := Lib.hid ((US1 j).out hlt)
        have hu := (UB1 j).out hj
        clear hc
        generalize upto a s j = U at *
        generalize pf a j = F at *
        generalize pt a s j = T at *
        have hj3 : ((j : Int) * 3) = ((j * 3 : Nat) : Int) := by omega
        go_wp2_with fail
        go_quiet (fail)
        go_wp2_with fail
        go_roundw
        case rel => exact ⟨j + 1, by omega, by go_num, by rw [HU.out]; congr 1; omega, ⟨below_drewN HB.out.1 _, HB.out.2⟩⟩
        case measure => simp [intOf]; omega
      · obtain rfl : j = N1 := by omega
        rw [UA1.out]
        go_wp2_with fail
        go_loopw [26, 28] (fun u i wr => ∃ j : Nat, j ≤ N2 ∧ i = .int .i64 j ∧ u = .int .i64 ((s : Int) - upto a k j) ∧ Hid (Below w7.heap.size w7 wr ∧ ∀ p, wr.cell? p = w7.cell? p)) (fun _ i _ => N2 - (intOf i).toNat)
        case atStart => exact ⟨0, Nat.zero_le _, rfl, by rw [U02.out]; first | rfl | simp, HB⟩
        case round =>
          clear HB
          obtain ⟨j, hj, rfl, rfl, HB⟩ := hrel
          by_cases hlt : j < N2
          · obtain ⟨b, rfl, hbb, hc⟩ := (P2.out.keep (w' := wr) fun p _ => HB.out.2 p).at_ (by omega)
            obtain ⟨_, hc1, hc2⟩ := hc j hlt
            obtain ⟨g1, g2, g3⟩ := (BD2 j).out hlt
            have HU := Lib.hid ((US2 j).out hlt)
            have hu := (UB2 j).out hj
            clear hc
            generalize upto a k j = U at *
            generalize pf a j = F at *
            generalize pt a k j = T at *
            have hj3 : ((j : Int) * 3) = ((j * 3 : Nat) : Int) := by omega
            go_wp2_with fail
            go_quiet (fail)
            go_wp2_with fail
            go_roundw
            case rel => exact ⟨j + 1, by omega, by go_num, by rw [HU.out]; congr 1; omega, ⟨below_drewN HB.out.1 _, HB.out.2⟩⟩
            case measure => simp [intOf]; omega
          · obtain rfl : j = N2 := by omega
            rw [UA2.out]
            go_wp2_with fail
            go_loopw [26, 29] (fun u i wr => ∃ j : Nat, j ≤ N3 ∧ i = .int .i64 j ∧ u = .int .i64 (((s : Int) - k) - upto (a + k) (s - k) j) ∧ Hid (Below w7.heap.size w7 wr ∧ ∀ p, wr.cell? p = w7.cell? p)) (fun _ i _ => N3 - (intOf i).toNat)
            case atStart => exact ⟨0, Nat.zero_le _, rfl, by rw [U03.out]; first | rfl | simp, HB⟩
            case round =>
              clear HB
              obtain ⟨j, hj, rfl, rfl, HB⟩ := hrel
              by_cases hlt : j < N3
              · obtain ⟨b, rfl, hbb, hc⟩ := (P3.out.keep (w' := wr) fun p _ => HB.out.2 p).at_ (by omega)
                obtain ⟨_, hc1, hc2⟩ := hc j hlt
                obtain ⟨g1, g2, g3⟩ := (BD3 j).out hlt
                have HU := Lib.hid ((US3 j).out hlt)
                have hu := (UB3 j).out hj
                clear hc
                generalize upto (a + k) (s - k) j = U at *
                generalize pf (a + k) j = F at *
                generalize pt (a + k) (s - k) j = T at *
                have hj3 : ((j : Int) * 3) = ((j * 3 : Nat) : Int) := by omega
                go_wp2_with fail
                go_quiet (fail)
                go_wp2_with fail
                go_roundw
                case rel => exact ⟨j + 1, by omega, by go_num, by rw [HU.out]; congr 1; omega, ⟨below_drewN HB.out.1 _, HB.out.2⟩⟩
                case measure => simp [intOf]; omega
              · obtain rfl : j = N3 := by omega
                rw [UA3.out]
                go_wp2_with fail
                go_ret
                exact ⟨retb (decide_eq_true (by omega)), HB7.out.trans (HB.out.1.mono HB7.out.size)⟩
end Go.Proofs.Ytolooiaeoloimaa.treeApart
