/- DriveFuse, walked. -/
import Derived.Test.YticbfjflhojolaaAwake
namespace Go.Proofs.Yticbfjflhojolaa.driveFuse
open Go.RowKit
set_option linter.unusedVariables false

/-- The state in round i, the fuse being k. -/
def At (k i : Nat) (s : DS) : Prop := s.since.length ≤ i ∧ (i ≤ k → s.fused = true ∧ s.left = (k : Int) - i ∧ s.down = false) ∧ (k < i → s.down = true)
theorem At.put {k i : Nat} {s : DS} (h : At k i s) (hi : i < 64) : (s.put 64 [((i : Int), zeros)]).1 = (if i < k then 0 else 11) ∧ At k (i + 1) (s.put 64 [((i : Int), zeros)]).2 := by
  have hf := fit_one (N := 64) (n := (i : Int)) (l := zeros) (by omega) (by omega) zeros_len
  obtain ⟨h0, h1, h2⟩ := h
  by_cases hk : i ≤ k
  · obtain ⟨a, b, c⟩ := h1 hk
    by_cases hik : i < k
    · have hp : s.pow = true := by simp [DS.pow, a, b]; omega
      have e : s.put 64 [((i : Int), zeros)] = (0, s.spend.put1 i zeros) := by
        unfold DS.put
        rw [c, if_neg (by simp), if_pos hf, DS.putGo, if_pos hp]
        rfl
      rw [e, if_pos hik]
      refine ⟨rfl, ?_, fun _ => ⟨?_, ?_, ?_⟩, fun h => by omega⟩
      · simp only [DS.put1, List.length_append, List.length_singleton]; rw [spend_since]; omega
      · show s.spend.fused = true; simp [DS.spend, a]
      · show s.spend.left = _; simp [DS.spend, a, b]; omega
      · exact spend_down hp c
    · have hp : s.pow = false := by simp [DS.pow, a, b]; omega
      have e : s.put 64 [((i : Int), zeros)] = (11, s.spend) := by
        unfold DS.put
        rw [c, if_neg (by simp), if_pos hf, DS.putGo, if_neg (by simp [hp])]
      rw [e, if_neg hik]
      refine ⟨rfl, ?_, fun h => by omega, fun _ => ?_⟩
      · rw [spend_since]; omega
      · show s.spend.down = true; simp [DS.spend, a, b]; omega
  · have hd := h2 (by omega)
    have e : s.put 64 [((i : Int), zeros)] = (11, s) := by
      unfold DS.put
      rw [hd, if_pos rfl]
    rw [e, if_neg (by omega)]
    exact ⟨rfl, by show s.since.length ≤ _; omega, fun h => by omega, fun _ => hd⟩
set_option maxRecDepth 100000 in
set_option maxHeartbeats 4000000 in
theorem walk (W : World) (x : UInt8) : Calls Try.prog 6 #[.int .u8 (x.toNat : Int)] W fun e w' => e = .returned (.bool true) ∧ Below W.heap.size W w' := by
  have hx0 : (0 : Int) ≤ (x.toNat : Int) := Int.natCast_nonneg _
  have hx1 : (x.toNat : Int) ≤ 255 := by have := x.toNat_lt; omega
  go_enter Try.func6, Try.ntmps6
  go_wp2_with fail
  refine (new_any 64 _ (by omega) (by omega)).mono ?_
  rintro e w1 ⟨d, O, rfl, hdrv, hO, hb⟩
  have S1 : Hid (Sit W w1 d O 64 (newS 64)) := ⟨hdrv, hO, hb⟩
  clear hdrv hO hb
  go_wp2_with fail
  rw [show ((x.toNat : Int) % 20) = ((x.toNat % 20 : Nat) : Int) by omega]
  have hk20 : x.toNat % 20 < 20 := Nat.mod_lt _ (by omega)
  generalize x.toNat % 20 = k at *
  refine (awake_any _).mono ?_
  rintro e w2 ⟨rfl, hb2⟩
  have S2 := Lib.hid (S1.out.below hb2)
  clear hb2 S1
  go_wp2_with fail
  refine (fuseS k S2.out (by omega) (by omega)).mono ?_
  rintro e w3 ⟨rfl, O3, hs3, hc3, hn3⟩
  have S3 := Lib.hid hs3
  clear hs3 hc3 hn3 S2
  go_wp2_with fail
  go_loopw [6] (fun i wr => ∃ m : Nat, m ≤ k + 2 ∧ i = .int .i64 (m : Int) ∧ Hid (∃ O s, Sit W wr d O 64 s ∧ At k m s)) (fun i _ => k + 2 - (intOf i).toNat)
  case atStart =>
    exact ⟨0, Nat.zero_le _, rfl, O3, _, S3.out, by simp [newS, DS.fuse], fun _ => ⟨by simp [DS.fuse], by simp [DS.fuse], rfl⟩, fun h => by omega⟩
  case round =>
    obtain ⟨m, hm, rfl, HR⟩ := hrel
    by_cases hlt : m < k + 2
    · obtain ⟨Or, s, hs, ha⟩ := HR.out
      obtain ⟨b, w4, hmk, ho, hbe, hb4⟩ := make128 wr
      have S4 := Lib.hid (hs.below hb4)
      have O4 := Lib.hid ho
      have HNB : Hid (b ∉ Or) := fun e => by have := hs.drv.lt b e; omega
      have HA := Lib.hid ha
      have hi : (m : Int) < (k : Int) + 2 := by omega
      clear hs ha ho hbe hb4 HR
      have hP := HA.out.put (by omega)
      by_cases hmk' : m < k
      · rw [if_pos hmk'] at hP
        have HP := Lib.hid hP
        have t1 : decide ((m : Int) < (k : Int)) = true := by simpa using hmk'
        clear hP
        go_wp2_with fail
        refine (putS1 m S4.out O4.out HNB.out zeros_len (by have := HA.out.1; omega)).mono ?_
        rintro e w5 ⟨rfl, O5, hs5, hc5, hn5⟩
        have HS5 : Hid (∃ O s, Sit W w5 d O 64 s ∧ At k (m + 1) s) := ⟨O5, _, hs5, HP.out.2⟩
        rw [HP.out.1]
        clear hs5 hc5 hn5 hmk
        go_wp2_with fail
        go_roundw
        case rel => exact ⟨m + 1, by omega, by go_num, HS5⟩
        case measure => simp [intOf]; omega
      · rw [if_neg hmk'] at hP
        have HP := Lib.hid hP
        have t1 : decide ((m : Int) < (k : Int)) = false := by simpa using hmk'
        have t2 : decide (m < k) = false := by simpa using hmk'
        clear hP
        go_wp2_with fail
        refine (putS1 m S4.out O4.out HNB.out zeros_len (by have := HA.out.1; omega)).mono ?_
        rintro e w5 ⟨rfl, O5, hs5, hc5, hn5⟩
        have HS5 : Hid (∃ O s, Sit W w5 d O 64 s ∧ At k (m + 1) s) := ⟨O5, _, hs5, HP.out.2⟩
        rw [HP.out.1]
        clear hs5 hc5 hn5 hmk
        go_wp2_with fail
        go_roundw
        case rel => exact ⟨m + 1, by omega, by go_num, HS5⟩
        case measure => simp [intOf]; omega
    · obtain rfl : m = k + 2 := by omega
      obtain ⟨Or, s, hs, ha⟩ := HR.out
      have HD := Lib.hid (ha.2.2 (by omega))
      have S4 := Lib.hid hs
      clear hs ha HR
      have hno : ¬ ((k + 2 : Nat) : Int) < (k : Int) + 2 := by omega
      go_wp2_with fail
      refine (get_down 0 S4.out.drv HD.out).mono ?_
      rintro e w5 ⟨rfl, rfl⟩
      go_wp2_with fail
      refine (flushS S4.out).mono ?_
      rw [show s.flush = (11, s) by unfold DS.flush; rw [if_pos HD.out]]
      rintro e w5 ⟨rfl, O5, hs5, hc5, hn5⟩
      have S5 := Lib.hid hs5
      clear hs5 hc5 hn5 S4
      go_wp2_with fail
      refine (restartS S5.out (ints_none _ (fun _ => False)) (fun q hq => hq.elim)).mono ?_
      rintro e w6 ⟨rfl, O6, hs6, hc6, hn6⟩
      have S6 := Lib.hid hs6
      clear hs6 hc6 hn6 S5
      go_wp2_with fail
      obtain ⟨y, hy⟩ : ∃ y, (s.restart []).now[0]? = some y := ⟨_, List.getElem?_eq_getElem (by rw [S6.out.drv.down_.now]; omega)⟩
      refine (getS 0 S6.out rfl hy).mono ?_
      rintro e w7 ⟨bZ, rfl, hs7, ho7, hn7, hz7, hb7⟩
      have S7 := Lib.hid hs7
      clear hs7 ho7 hn7 hz7 hb7 S6 hy
      go_wp2_with fail
      refine (flushS S7.out).mono ?_
      rw [flush_free rfl rfl]
      rintro e w8 ⟨rfl, O8, hs8, hc8, hn8⟩
      have S8 := Lib.hid hs8
      clear hs8 hc8 hn8 S7
      go_wp2_with fail
      go_ret
      exact ⟨rfl, S8.out.bel⟩
end Go.Proofs.Yticbfjflhojolaa.driveFuse
