/- super.Encode, walked. -/
import Derived.Test.YtbcomdjliioljaaSound
namespace Go.Proofs.Ytbcomdjliioljaa
open Go.RowKit
set_option linter.unusedVariables false

theorem box_below (w : World) (o : Obj) : Below w.heap.size w (w.alloc o) := (Below.refl _ w).alloc (Nat.le_refl _) o
theorem encode_no (a b c : Int) (w : World) (h : ok a b c = false) : Calls Try.prog 6 #[.agg #[.int .i64 a, .int .i64 b, .int .i64 c]] w fun e w' => e = .returned (.tuple #[.slice none 0 0, .int .i64 2]) ∧ Below w.heap.size w w' := by
  have H := Lib.hid h
  clear h
  go_enter Try.func6, Try.ntmps6
  go_wp2_with fail
  refine (sound_any a b c _).mono ?_
  rintro e w1 ⟨rfl, hb1⟩
  rw [H.out]
  have HB : Hid (Below w.heap.size w w1) := (box_below w _).trans (hb1.mono (by simp))
  clear hb1
  go_wp2_with fail
  go_ret2
  exact ⟨rfl, HB.out⟩
theorem copy_bts (w : World) (fr : Nat × Nat) : F.Bts (w.alloc (.cells #[.int .u8 67, .int .u8 79, .int .u8 80, .int .u8 89] 5 fr)) (w.heap.size + 1) (some ⟨w.heap.size, 0, none⟩) 4 4 [67, 79, 80, 89] :=
  ⟨rfl, Nat.le_refl _, by decide, (fun e => by cases e), fun _ => ⟨w.heap.size, 0, rfl, by omega, fun j hj => by
    have h1 := World.cell?_alloc_mark w #[.int .u8 67, .int .u8 79, .int .u8 80, .int .u8 89] 5 fr j
    rw [Nat.zero_add]
    refine h1.trans ?_
    match j, hj with
    | 0, _ => rfl
    | 1, _ => rfl
    | 2, _ => rfl
    | 3, _ => rfl⟩⟩
def nth (a b c : Nat) : Nat → Nat
  | 0 => a
  | 1 => b
  | _ => c
theorem part_succ (a b c : Nat) {k : Nat} (hk : k < 3) : part a b c (k + 1) = part a b c k ++ F.lit 4 (nth a b c k) := by
  match k, hk with
  | 0, _ => rfl
  | 1, _ => rfl
  | 2, _ => rfl
theorem idxk (a b c : Nat) {k : Nat} (hk : k < 3) (w : World) : (Instr.index 40 (.agg #[.int .i64 a, .int .i64 b, .int .i64 c]) (.int .i64 k)).run Try.prog w = .ok (.int .i64 (nth a b c k : Nat)) w := by
  match k, hk with
  | 0, _ => exact idx0 a b c w
  | 1, _ => exact idx1 a b c w
  | 2, _ => exact idx2 a b c w
theorem nth_lt {a b c : Nat} (h : ok a b c = true) (k : Nat) : nth a b c k < 4294967296 := by
  obtain ⟨_, _, _, _, _, _⟩ := ok_iff.1 h
  unfold nth
  split <;> omega
set_option maxRecDepth 20000 in
set_option maxHeartbeats 1000000 in
theorem encode_yes (a b c : Nat) (w : World) (h : ok a b c = true) : Calls Try.prog 6 #[.agg #[.int .i64 a, .int .i64 b, .int .i64 c]] w (F.Gives2 w (sec a b c)) := by
  have H := Lib.hid h
  clear h
  go_enter Try.func6, Try.ntmps6
  go_wp2_with fail
  refine (sound_any a b c _).mono ?_
  rintro e w1 ⟨rfl, hb1⟩
  rw [H.out]
  have HB1 : Hid (Below w.heap.size w w1) := (box_below w _).trans (hb1.mono (by simp))
  have hl : w1.cell? ⟨w.heap.size, 0, none⟩ = some (.int .i64 a) ∧ w1.cell? ⟨w.heap.size, 1, none⟩ = some (.int .i64 b) ∧ w1.cell? ⟨w.heap.size, 2, none⟩ = some (.int .i64 c) := cell3 w a b c 23 w.heap.size rfl w1 (hb1.mono (by simp))
  have hlt : w.heap.size < w1.heap.size := by have := hb1.size; simp at this; omega
  have l0 : ∀ o, (w1.alloc o).cell? ⟨w.heap.size, 0, none⟩ = some (.int .i64 a) := fun o => ((box_below w1 o).cell hlt).trans hl.1
  have l1 : ∀ o, (w1.alloc o).cell? ⟨w.heap.size, 1, none⟩ = some (.int .i64 b) := fun o => ((box_below w1 o).cell hlt).trans hl.2.1
  have l2 : ∀ o, (w1.alloc o).cell? ⟨w.heap.size, 2, none⟩ = some (.int .i64 c) := fun o => ((box_below w1 o).cell hlt).trans hl.2.2
  clear hb1 hl
  have hcv := Lib.run_convert_bytes_const (P := Try.prog) w1 24 5 #[.int .u8 67, .int .u8 79, .int .u8 80, .int .u8 89] 4 4 Try.underlying24 Try.underlying5
  go_wp2_with fail
  clear hcv l0 l1 l2
  refine (numbersOf_any a b c _).mono ?_
  rintro e w2 ⟨rfl, hb2⟩
  have HB2 : Hid (Below w.heap.size w w2) := (HB1.out.alloc HB1.out.size _).trans (hb2.mono (by simp; omega))
  have HC : Hid (F.Bts w2 (w1.heap.size + 1) (some ⟨w1.heap.size, 0, none⟩) 4 4 (part a b c 0)) := (copy_bts w1 (4, 5)).below (hb2.mono (by simp))
  have hs2 : w1.heap.size < w2.heap.size := by have := hb2.size; simp at this; omega
  clear hb2 HB1
  have hv : ∀ k : Nat, k < 3 → ∀ W, (Instr.index 40 (.agg #[.int .i64 a, .int .i64 b, .int .i64 c]) (.int .i64 k)).run Try.prog W = .ok (.int .i64 (nth a b c k : Nat)) W := fun k hk W => idxk a b c hk W
  have HV := Lib.hid hv
  clear hv
  go_wp2_with fail
  go_loopw [4, 15] (fun x i wr => ∃ k : Nat, ∃ A n cap, k ≤ 3 ∧ i = .int .i64 k ∧ x = .slice A n cap ∧ Hid (n = 4 + 4 * k) ∧ Hid (F.Bts wr wr.heap.size A n cap (part a b c k)) ∧ Hid (Below w.heap.size w wr) ∧ Hid (0 < k → F.Mine w wr (.slice A n cap) (part a b c k))) (fun _ i _ => 3 - (intOf i).toNat)
  case atStart => exact ⟨0, _, _, _, Nat.zero_le _, rfl, rfl, rfl, HC.out.more (by omega), HB2, fun h => absurd h (by omega)⟩
  case round =>
    clear HC HB2
    obtain ⟨k, A, n, cap, hk, rfl, rfl, hn, HC, HB, HM⟩ := hrel
    have hn16 : n ≤ 16 := by have := hn.out; omega
    by_cases hlt : k < 3
    · have hik := HV.out k hlt wr
      have HN : Hid (nth a b c k < 4294967296) := nth_lt H.out k
      have HP : Hid (part a b c (k + 1) = part a b c k ++ F.lit 4 (nth a b c k)) := part_succ a b c hlt
      generalize nth a b c k = x at *
      go_wp2_with fail
      clear hik
      refine (F.num_yes A n cap _ x _ wr HN.out HC.out (Nat.le_refl _) (by omega)).mono ?_
      rintro e w3 ⟨v, rfl, hm⟩
      rw [← HP.out] at hm
      have HM2 := Lib.hid (hm.from_ HB.out)
      clear hm
      obtain ⟨A', n', c', rfl, hB'⟩ := HM2.out.holds
      have hn' : Hid (n' = 4 + 4 * (k + 1)) := by show _ = _; rw [← hB'.len, part_len _ _ _ _ (by omega)]
      have HB' := Lib.hid hB'
      clear hB'
      go_wp2_with fail
      go_roundw
      case rel => exact ⟨k + 1, A', n', c', by omega, by go_num, rfl, hn', HB', HM2.out.bel, fun _ => HM2.out⟩
      case measure => simp [intOf]; omega
    · obtain rfl : k = 3 := by omega
      have HM1 := Lib.hid (HM.out (by omega))
      obtain rfl : n = 16 := hn.out
      clear HM HC
      obtain ⟨v', w', hr, ho, hgr⟩ := app_zeros (k := 108) 24 HM1.out.own (by omega) (by rw [part_len _ _ _ _ (Nat.le_refl _)]; omega) (by rw [part_len _ _ _ _ (Nat.le_refl _)]; omega) HM1.out.bel.size
      have HR2 := Lib.hid hr
      have HM2 : Hid (F.Mine w w' v' (pre a b c)) := ⟨ho, HM1.out.bel.grown hgr HM1.out.bel.size (fun j hj => (HM1.out.own.lt j hj).1)⟩
      clear hr ho hgr
      go_wp2_with (at_builtin; refine Lib.wpList_append_run _ rfl _ _ _ _ rfl _ _ rfl rfl _ _ HR2.out ?_)
      obtain ⟨A2, n2, c2, rfl, hB2⟩ := HM2.out.holds
      have hn2 : n2 = 124 := by rw [← hB2.len, pre_len]
      subst hn2
      have H2 := Lib.hid hB2
      have hcr := F.crc_lt (pre a b c)
      clear hB2
      go_wp2_with fail
      refine (F.sum_any _ _ _ _ _ _ H2.out (by omega)).mono ?_
      rintro e w3 ⟨rfl, rfl⟩
      go_wp2_with fail
      refine (F.num_yes A2 124 c2 _ (F.crc (pre a b c)) (pre a b c) w' hcr H2.out (Nat.le_refl _) (by omega)).mono ?_
      rintro e w3 ⟨v, rfl, hm3⟩
      have HM3 := Lib.hid (hm3.from_ HM2.out.bel)
      clear hm3
      go_wp2_with fail
      go_ret2
      exact ⟨v, rfl, HM3.out⟩
end Go.Proofs.Ytbcomdjliioljaa
