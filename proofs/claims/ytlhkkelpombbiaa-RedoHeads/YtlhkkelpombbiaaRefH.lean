/- copyholdref06.Ints, copyholdref03.Noughts, copyholdref06.Head, walked. -/
import Derived.Test.YtlhkkelpombbiaaRefs6
import Derived.Test.YtlhkkelpombbiaaFRefsB
import Derived.Test.YtlhkkelpombbiaaHeads
namespace Go.Proofs.Ytlhkkelpombbiaa
open Go.RowKit
set_option linter.unusedVariables false

theorem little6 (n k : Nat) (w : World) (hn : n ≤ 4294967296) (hk : k ≤ 4) :
    Calls Try.prog 30 #[.int .i64 n, .int .i64 k] w fun e w' => e = .returned (.string (sb (F.lit k n))) ∧ Below w.heap.size w w' := F.little_any n k w hn hk
theorem sealed6 (l : List UInt8) (w : World) (hl : l.length ≤ 281474976710656) : Calls Try.prog 31 #[.string (sb l)] w fun e w' => e = .returned (.string (sb (l ++ F.lit 4 (F.crc l)))) ∧ Below w.heap.size w w' := F.refSealed_any l w hl
def noughtsL (k : Nat) : ByteArray := sb (List.replicate k 0)
theorem noughts_size (k : Nat) : (noughtsL k).size = k := by unfold noughtsL; rw [sb_size]; simp
theorem noughts_succ (k : Nat) : noughtsL k ++ { data := #[0] } = noughtsL (k + 1) := by
  have : ({ data := #[0] } : ByteArray) = sb [0] := rfl
  unfold noughtsL
  rw [this, sb_app, ← List.replicate_succ']
set_option maxRecDepth 20000 in
set_option maxHeartbeats 1000000 in
theorem noughts_any (n : Nat) (w : World) (hn : n ≤ 1000) :
    Calls Try.prog 32 #[.int .i64 n] w fun e w' => e = .returned (.string (noughtsL n)) ∧ w = w' := by
  go_enter Try.func32, Try.ntmps32
  go_wp2
  go_loop [3] (fun s => ∃ k : Nat, k ≤ n ∧ s = .string (noughtsL k)) (fun s => match s with | .string b => n - b.size | _ => 0)
  case atStart => exact ⟨0, Nat.zero_le _, rfl⟩
  case round =>
    obtain ⟨k, hk, rfl⟩ := hrel
    have hz := noughts_size k
    have HS := Lib.hid (noughts_succ k)
    have HZ1 := Lib.hid (noughts_size (k + 1))
    by_cases hlt : k < n
    · have hz1 : ¬ 9223372036854775807 < k + 1 := by omega
      go_wp2
      go_round
      case rel => exact ⟨k + 1, by omega, by rw [← HS.out]⟩
      case measure => show n - (noughtsL k ++ { data := #[0] }).size < n - (noughtsL k).size; rw [HS.out, HZ1.out, hz]; omega
    · obtain rfl : k = n := by omega
      go_wp2
      go_ret
      exact ⟨rfl, rfl⟩
theorem refInts_any {w : World} {M M' : Nat → Prop} {A A' : Option Addr} {n c n' c' : Nat} {l l' : List Int} (h : Ints w M A n c l) (h' : Ints w M' A' n' c' l') (hM : ∀ b, M b → b < w.heap.size) (hM' : ∀ b, M' b → b < w.heap.size) :
    Calls Try.prog 11 #[.slice A n c, .slice A' n' c'] w fun e w' => e = .returned (.bool (decide (l = l'))) ∧ Below w.heap.size w w' := by
  have HI := Lib.hid h
  have HJ := Lib.hid h'
  have HL := Lib.hid h.len
  have HL' := Lib.hid h'.len
  have hcap := h.cap
  have hlim := h.lim
  have hcap' := h'.cap
  have hlim' := h'.lim
  unfold maxLen at hlim hlim'
  have HM := Lib.hid hM
  have HM' := Lib.hid hM'
  clear h h' hM hM'
  by_cases hn : n = n'
  · subst hn
    go_enter Try.func11, Try.ntmps11
    go_wp2_with fail
    go_loopw [5] (fun i wr => ∃ k : Nat, k ≤ n ∧ i = .int .i64 k ∧ Hid (l.take k = l'.take k) ∧ Hid (Below w.heap.size w wr)) (fun i _ => n - (intOf i).toNat)
    case atStart => exact ⟨0, Nat.zero_le _, rfl, by simp [Hid], Below.refl _ _⟩
    case round =>
      obtain ⟨k, hk, rfl, HN, HB⟩ := hrel
      by_cases hlt : k < n
      · obtain ⟨b, off, rfl, hb, hc⟩ := (HI.out.keep (w' := wr) fun b hb => HB.out.block b (HM.out b hb)).cell hlt
        obtain ⟨b', off', rfl, hb', hc'⟩ := (HJ.out.keep (w' := wr) fun b hb => HB.out.block b (HM'.out b hb)).cell hlt
        have HX : Hid (l[k]? = some (l[k]?.getD 0)) := get_of HL.out hlt
        have HY : Hid (l'[k]? = some (l'[k]?.getD 0)) := get_of HL'.out hlt
        generalize l[k]?.getD 0 = x at *
        generalize l'[k]?.getD 0 = y at *
        by_cases hxy : x = y
        · subst hxy
          have HN2 : Hid (l.take (k + 1) = l'.take (k + 1)) := by
            show _ = _
            rw [List.take_add_one, List.take_add_one, HN.out, HX.out, HY.out]
          go_wp2_with fail
          go_quiet (fail)
          go_wp2_with fail
          go_roundw
          case rel => exact ⟨k + 1, by omega, by go_num, HN2, below_drewN HB.out _⟩
          case measure => simp [intOf]; omega
        · have hxy' : (x != y) = true := by simpa using hxy
          have HF : Hid (decide (l = l') = false) := by
            show _ = _
            rw [decide_eq_false_iff_not]
            intro e
            have h1 := HX.out
            rw [e, HY.out] at h1
            exact hxy (Option.some.inj h1).symm
          clear hxy
          go_wp2_with fail
          go_quiet (fail)
          go_wp2_with fail
          go_ret
          exact ⟨retb HF.out.symm, below_drewN HB.out _⟩
      · obtain rfl : k = n := by omega
        have HF : Hid (decide (l = l') = true) := by
          show _ = _
          have := HN.out
          rw [List.take_of_length_le (by rw [HL.out]; omega), List.take_of_length_le (by rw [HL'.out]; omega)] at this
          simpa using this
        go_wp2_with fail
        go_ret
        exact ⟨retb HF.out.symm, HB.out⟩
  · have hn' : ((n : Int) != (n' : Int)) = true := by simp; omega
    have HF : Hid (decide (l = l') = false) := by
      show _ = _
      rw [decide_eq_false_iff_not]
      intro e
      have h1 := HL.out
      rw [e, HL'.out] at h1
      omega
    clear hn
    go_enter Try.func11, Try.ntmps11
    go_wp2_with fail
    go_ret
    exact ⟨retb HF.out.symm, Below.refl _ _⟩
def RH (l : List Int) (w : World) (e : Ending) (w' : World) : Prop := e = .returned (.tuple #[.string (sb (hd l)), .int .i64 0]) ∧ Below w.heap.size w w'
set_option maxRecDepth 20000 in
set_option maxHeartbeats 1000000 in
theorem refHead_yes {w : World} {M : Nat → Prop} {A : Option Addr} {n c : Nat} {l : List Int} (h : Ints w M A n c l) (hM : ∀ b, M b → b < w.heap.size) (hg : good l = true) :
    Calls Try.prog 9 #[.slice A n c] w (RH l w) := by
  have HI := Lib.hid h
  have HL := Lib.hid h.len
  have HM := Lib.hid hM
  have HG := Lib.hid hg
  have hn24 : n ≤ 24 := by rw [← h.len]; exact (good_iff.1 hg).1
  clear h hM hg
  go_enter Try.func9, Try.ntmps9
  go_wp2_with fail
  refine (refGood_any HI.out HM.out).mono ?_
  rintro e w1 ⟨rfl, hb1⟩
  rw [HG.out]
  have HB1 := Lib.hid hb1
  clear hb1
  go_wp2_with fail
  refine (little6 n 4 w1 (by omega) (by omega)).mono ?_
  rintro e w2 ⟨rfl, hb2⟩
  have HB2 : Hid (Below w.heap.size w w2) := HB1.out.trans (hb2.mono HB1.out.size)
  have HS : Hid (({ data := #[82, 69, 68, 79] } : ByteArray) ++ sb (F.lit 4 n) = sb (hpart l 0)) := by
    show _ = _
    have : ({ data := #[82, 69, 68, 79] } : ByteArray) = sb [82, 69, 68, 79] := rfl
    rw [this, sb_app, ← HL.out]
    simp [hpart]
  clear hb2
  have hz : (sb (F.lit 4 n)).size = 4 := by rw [sb_size, F.lit_length]
  go_wp2_with fail
  rw [HS.out]
  clear hz HB1
  go_loopw [4, 5] (fun s i wr => ∃ k : Nat, k ≤ n ∧ i = .int .i64 k ∧ s = .string (sb (hpart l k)) ∧ Hid (Below w.heap.size w wr)) (fun _ i _ => n - (intOf i).toNat)
  case atStart => exact ⟨0, Nat.zero_le _, rfl, rfl, HB2⟩
  case round =>
    clear HB2
    obtain ⟨k, hk, rfl, rfl, HB⟩ := hrel
    by_cases hlt : k < n
    · obtain ⟨b, off, rfl, hb, hc⟩ := (HI.out.keep (w' := wr) fun b hb => HB.out.block b (HM.out b hb)).cell hlt
      have HX : Hid (l[k]? = some (l[k]?.getD 0)) := get_of HL.out hlt
      generalize l[k]?.getD 0 = x at *
      obtain ⟨hx0, hx1, _⟩ := okn_iff.1 ((good_iff.1 HG.out).2.1 x (List.mem_of_getElem? HX.out))
      obtain ⟨m, rfl⟩ : ∃ m : Nat, x = m := ⟨x.toNat, by omega⟩
      have hle : (sb (hpart l k)).size ≤ 56 := by rw [sb_size]; have := (hpart_len l k).1; have := HL.out; omega
      have hz2 : (sb (F.lit 2 m)).size = 2 := by rw [sb_size, F.lit_length]
      have HS2 : Hid (sb (hpart l k) ++ sb (F.lit 2 m) = sb (hpart l (k + 1))) := by
        show _ = _
        rw [hpart_succ HX.out, sb_app]
        rfl
      go_wp2_with fail
      refine (little6 m 2 wr (by omega) (by omega)).mono ?_
      rintro e w2 ⟨rfl, hb2⟩
      have HB3 : Hid (Below w.heap.size w w2) := HB.out.trans (hb2.mono HB.out.size)
      clear hb2
      have hz3 : ¬ 9223372036854775807 < (sb (hpart l k)).size + 2 := by omega
      go_wp2_with fail
      go_roundw
      case rel => exact ⟨k + 1, by omega, by go_num, by rw [HS2.out], HB3⟩
      case measure => simp [intOf]; omega
    · obtain rfl : k = n := by omega
      have HH : Hid (hpart l k = hbody l) := by show _ = _; unfold hpart hbody; rw [List.take_of_length_le (by rw [HL.out]; omega)]
      have hz : (sb (hbody l)).size = 8 + 2 * k := by rw [sb_size, hbody_len, HL.out]
      rw [HH.out]
      have hz0 : (124 : Int) - (8 + 2 * (k : Int)) = ((124 - (8 + 2 * k) : Nat) : Int) := by omega
      go_wp2_with fail
      refine (noughts_any (124 - (8 + 2 * k)) wr (by omega)).mono ?_
      rintro e w2 ⟨rfl, rfl⟩
      have hz1 := noughts_size (124 - (8 + 2 * k))
      have hz2 : ¬ 9223372036854775807 < 8 + 2 * k + (124 - (8 + 2 * k)) := by omega
      have HP : Hid (sb (hbody l) ++ noughtsL (124 - (8 + 2 * k)) = sb (hpre l)) := by
        show _ = _
        unfold noughtsL hpre
        rw [sb_app, hbody_len, HL.out]
      generalize noughtsL (124 - (8 + 2 * k)) = z at *
      go_wp2_with fail
      rw [HP.out]
      refine (sealed6 (hpre l) wr (by rw [hpre_len (by rw [HL.out]; omega)]; omega)).mono ?_
      rintro e w2 ⟨rfl, hb2⟩
      have HB3 : Hid (Below w.heap.size w w2) := HB.out.trans (hb2.mono HB.out.size)
      clear hb2
      go_wp2_with fail
      go_ret2
      exact ⟨rfl, HB3.out⟩
theorem refHead_no {w : World} {M : Nat → Prop} {A : Option Addr} {n c : Nat} {l : List Int} (h : Ints w M A n c l) (hM : ∀ b, M b → b < w.heap.size) (hg : good l = false) :
    Calls Try.prog 9 #[.slice A n c] w fun e w' => e = .returned (.tuple #[.string (sb []), .int .i64 1]) ∧ Below w.heap.size w w' := by
  have HI := Lib.hid h
  have HM := Lib.hid hM
  have HG := Lib.hid hg
  clear h hM hg
  go_enter Try.func9, Try.ntmps9
  go_wp2_with fail
  refine (refGood_any HI.out HM.out).mono ?_
  rintro e w1 ⟨rfl, hb1⟩
  rw [HG.out]
  have HB1 := Lib.hid hb1
  clear hb1
  go_wp2_with fail
  go_ret2
  exact ⟨rfl, HB1.out⟩
end Go.Proofs.Ytlhkkelpombbiaa
