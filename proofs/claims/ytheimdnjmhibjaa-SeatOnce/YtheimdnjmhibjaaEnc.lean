/- seat.Encode, walked. -/
import Derived.Test.YtheimdnjmhibjaaSound
namespace Go.Proofs.Ytheimdnjmhibjaa
open Go.RowKit
set_option linter.unusedVariables false

theorem encode_no (a b : Int) (A : Option Addr) (n c : Nat) (w : World) (h : ok a b n = false) : Calls Try.prog 7 #[.agg #[.int .i64 a, .int .i64 b, .slice A n c]] w fun e w' => e = .returned (.tuple #[.slice none 0 0, .int .i64 2]) ∧ Below w.heap.size w w' := by
  have H := Lib.hid h
  clear h
  go_enter Try.func7, Try.ntmps7
  go_wp2_with fail
  refine (sound_any a b A n c _).mono ?_
  rintro e w1 ⟨rfl, hb1⟩
  rw [H.out]
  have HB : Hid (Below w.heap.size w w1) := (box_below w _).trans (hb1.mono (by simp))
  clear hb1
  go_wp2_with fail
  go_ret2
  exact ⟨rfl, HB.out⟩
theorem cell3 (w : World) (x y z : Value) (t : TypeId) (b : Nat) (hb : b = w.heap.size) (W : World) (h : Below (b + 1) (w.alloc (.cells #[x, y, z] t)) W) :
    W.cell? ⟨b, 0, none⟩ = some x ∧ W.cell? ⟨b, 1, none⟩ = some y ∧ W.cell? ⟨b, 2, none⟩ = some z := by
  subst hb
  refine ⟨?_, ?_, ?_⟩ <;> (rw [h.cell (by simp)]; exact World.cell?_alloc_mark w _ t (0, 0) _)
theorem sign_bts (w : World) (fr : Nat × Nat) : F.Bts (w.alloc (.cells #[.int .u8 83, .int .u8 69, .int .u8 65, .int .u8 84] 5 fr)) (w.heap.size + 1) (some ⟨w.heap.size, 0, none⟩) 4 4 [83, 69, 65, 84] :=
  ⟨rfl, Nat.le_refl _, by decide, (fun e => by cases e), fun _ => ⟨w.heap.size, 0, rfl, by omega, fun j hj => by
    have h1 := World.cell?_alloc_mark w #[.int .u8 83, .int .u8 69, .int .u8 65, .int .u8 84] 5 fr j
    rw [Nat.zero_add]
    refine h1.trans ?_
    match j, hj with
    | 0, _ => rfl
    | 1, _ => rfl
    | 2, _ => rfl
    | 3, _ => rfl⟩⟩
def nth (a b : Nat) : Nat → Nat
  | 0 => a
  | _ => b
theorem part_succ (a b : Nat) {k : Nat} (hk : k < 2) : part a b (k + 1) = part a b k ++ F.lit 4 (nth a b k) := by
  match k, hk with
  | 0, _ => rfl
  | 1, _ => rfl
theorem nth_cell {w : World} {g a b k : Nat} (hk : k < 2) (h0 : w.cell? ⟨g, 0, none⟩ = some (.int .i64 a)) (h1 : w.cell? ⟨g, 1, none⟩ = some (.int .i64 b)) : w.cell? ⟨g, k, none⟩ = some (.int .i64 (nth a b k : Nat)) := by
  match k, hk with
  | 0, _ => exact h0
  | 1, _ => exact h1
theorem nth_lt {a b m : Nat} (h : ok a b m = true) (k : Nat) : nth a b k < 4294967296 := by
  obtain ⟨_, _, _, _, _⟩ := ok_iff.1 h
  unfold nth
  split <;> omega
/-- What stands in memory when the numbers are gone through. -/
structure Enc0 (w W : World) (a b : Nat) : Prop where
  bts : F.Bts W (w.heap.size + 1) (some ⟨w.heap.size, 0, none⟩) 4 4 (part a b 0)
  c0 : W.cell? ⟨w.heap.size + 1, 0, none⟩ = some (.int .i64 a)
  c1 : W.cell? ⟨w.heap.size + 1, 1, none⟩ = some (.int .i64 b)
  bel : Below w.heap.size w W
  size : W.heap.size = w.heap.size + 2
theorem enc0 (w : World) (a b : Nat) : Enc0 w ((w.alloc (Obj.cells #[.int .u8 83, .int .u8 69, .int .u8 65, .int .u8 84] 5 (4, 5))).alloc (Obj.cells #[.int .i64 a, .int .i64 b] 3)) a b := by
  have hs : (w.alloc (Obj.cells #[.int .u8 83, .int .u8 69, .int .u8 65, .int .u8 84] 5 (4, 5))).heap.size = w.heap.size + 1 := by simp
  have hb := box_below (w.alloc (Obj.cells #[.int .u8 83, .int .u8 69, .int .u8 65, .int .u8 84] 5 (4, 5))) (Obj.cells #[.int .i64 a, .int .i64 b] 3)
  have h0 := World.cell?_alloc_mark (w.alloc (Obj.cells #[.int .u8 83, .int .u8 69, .int .u8 65, .int .u8 84] 5 (4, 5))) #[.int .i64 a, .int .i64 b] 3 (0, 0)
  rw [hs] at hb h0
  exact ⟨(sign_bts w (4, 5)).below hb, h0 0, h0 1, (box_below w _).trans (hb.mono (by omega)), by simp⟩
theorem own_below {w w' : World} {base n : Nat} {v : Value} {xs : List Value} (h : w.ownsRow base 5 1 v n xs) (hb : Below w.heap.size w w') : w'.ownsRow base 5 1 v n xs :=
  h.kept (F.grown_of_below hb none) (by cases hv : v.ownBlock <;> simp)
theorem len_bts (w : World) {n : Nat} (h : n ≤ 96) : F.Bts (w.alloc (.cells #[.int .u8 (n : Int)] 5)) (w.heap.size + 1) (some ⟨w.heap.size, 0, none⟩) 1 1 [UInt8.ofNat n] := by
  have e : (n : Int) = ((UInt8.ofNat n).toNat : Int) := by rw [UInt8.toNat_ofNat']; omega
  rw [e]
  exact F.one_bts w (UInt8.ofNat n)
set_option maxRecDepth 20000 in
set_option maxHeartbeats 2000000 in
theorem encode_yes (a b : Nat) (A : Option Addr) (n c B : Nat) (r : List UInt8) (w : World) (hr : F.Bts w B A n c r) (hB : B ≤ w.heap.size) (h : ok a b n = true) : Calls Try.prog 7 #[.agg #[.int .i64 a, .int .i64 b, .slice A n c]] w (F.Gives2 w (sec a b r)) := by
  have H := Lib.hid h
  have HR := Lib.hid (hr.more hB)
  have h96 : n ≤ 96 := (ok_iff.1 h).2.2.2.2
  clear h hr
  go_enter Try.func7, Try.ntmps7
  go_wp2_with fail
  refine (sound_any a b A n c _).mono ?_
  rintro e w1 ⟨rfl, hb1⟩
  rw [H.out]
  have HB1 : Hid (Below w.heap.size w w1) := (box_below w _).trans (hb1.mono (by simp))
  have HL : Hid (w1.cell? ⟨w.heap.size, 0, none⟩ = some (.int .i64 a) ∧ w1.cell? ⟨w.heap.size, 1, none⟩ = some (.int .i64 b) ∧ w1.cell? ⟨w.heap.size, 2, none⟩ = some (.slice A n c)) := cell3 w (.int .i64 a) (.int .i64 b) (.slice A n c) 24 w.heap.size rfl w1 (hb1.mono (by simp))
  have hlt : w.heap.size < w1.heap.size := by have := hb1.size; simp at this; omega
  have l0 : ∀ o, (w1.alloc o).cell? ⟨w.heap.size, 0, none⟩ = some (.int .i64 a) := fun o => ((box_below w1 o).cell hlt).trans HL.out.1
  have l1 : ∀ o, (w1.alloc o).cell? ⟨w.heap.size, 1, none⟩ = some (.int .i64 b) := fun o => ((box_below w1 o).cell hlt).trans HL.out.2.1
  clear hb1
  have hcv := Lib.run_convert_bytes_const (P := Try.prog) w1 22 5 #[.int .u8 83, .int .u8 69, .int .u8 65, .int .u8 84] 4 4 Try.underlying22 Try.underlying5
  go_wp2_with fail
  clear hcv l0 l1
  have HW0 := Lib.hid (enc0 w1 a b)
  generalize (w1.alloc (Obj.cells #[.int .u8 83, .int .u8 69, .int .u8 65, .int .u8 84] 5 (4, 5))).alloc (Obj.cells #[.int .i64 a, .int .i64 b] 3) = W2 at *
  have HB2 : Hid (Below w.heap.size w W2) := HB1.out.trans (HW0.out.bel.mono HB1.out.size)
  have HL2 : Hid (W2.cell? ⟨w.heap.size, 2, none⟩ = some (.slice A n c)) := (HW0.out.bel.cell hlt).trans HL.out.2.2
  have hs2 : w1.heap.size + 1 < W2.heap.size := by have := HW0.out.size; omega
  clear HB1 HL
  go_loopw [4, 19] (fun x i wr => ∃ k : Nat, ∃ A' n' cap, k ≤ 2 ∧ i = .int .i64 k ∧ x = .slice A' n' cap ∧ Hid (n' = 4 + 4 * k) ∧ Hid (F.Bts wr wr.heap.size A' n' cap (part a b k)) ∧ Hid (Below W2.heap.size W2 wr) ∧ Hid (0 < k → F.Mine W2 wr (.slice A' n' cap) (part a b k))) (fun _ i _ => 2 - (intOf i).toNat)
  case atStart => exact ⟨0, _, _, _, Nat.zero_le _, rfl, rfl, rfl, HW0.out.bts.more (by omega), Below.refl _ _, fun h => absurd h (by omega)⟩
  case round =>
    obtain ⟨k, A', n', cap, hk, rfl, rfl, hn, HC, HB, HM⟩ := hrel
    have hn12 : n' ≤ 12 := by have := hn.out; omega
    by_cases hlt2 : k < 2
    · have hik : wr.cell? ⟨w1.heap.size + 1, k, none⟩ = some (.int .i64 (nth a b k : Nat)) := nth_cell hlt2 ((HB.out.cell hs2).trans HW0.out.c0) ((HB.out.cell hs2).trans HW0.out.c1)
      have HN : Hid (nth a b k < 4294967296) := nth_lt H.out k
      have HP : Hid (part a b (k + 1) = part a b k ++ F.lit 4 (nth a b k)) := part_succ a b hlt2
      generalize nth a b k = x at *
      go_wp2_with fail
      clear hik
      refine (F.num_yes A' n' cap _ x _ wr HN.out HC.out (Nat.le_refl _) (by omega)).mono ?_
      rintro e w3 ⟨v, rfl, hm⟩
      rw [← HP.out] at hm
      have HM2 := Lib.hid (hm.from_ HB.out)
      clear hm
      obtain ⟨A2, n2, c2, rfl, hB'⟩ := HM2.out.holds
      have hn' : Hid (n2 = 4 + 4 * (k + 1)) := by show _ = _; rw [← hB'.len, part_len _ _ _ (by omega)]
      have HB' := Lib.hid hB'
      clear hB'
      go_wp2_with fail
      go_roundw
      case rel => exact ⟨k + 1, A2, n2, c2, by omega, by go_num, rfl, hn', HB', HM2.out.bel, fun _ => HM2.out⟩
      case measure => simp [intOf]; omega
    · obtain rfl : k = 2 := by omega
      have HM1 := Lib.hid (HM.out (by omega))
      obtain rfl : n' = 12 := hn.out
      clear HM HC
      have hws : w.heap.size < W2.heap.size := by omega
      have l2 : ∀ o, (wr.alloc o).cell? ⟨w.heap.size, 2, none⟩ = some (.slice A n c) := fun o => ((HB.out.alloc HB.out.size o).cell hws).trans HL2.out
      have l2' : wr.cell? ⟨w.heap.size, 2, none⟩ = some (.slice A n c) := (HB.out.cell hws).trans HL2.out
      obtain ⟨v4, w4, hr4, ho4, hg4⟩ := F.app_run 22 (own_below HM1.out.own (box_below wr (.cells #[.int .u8 (n : Int)] 5))) (len_bts wr h96) (by rw [part_len _ _ _ (Nat.le_refl _)]; simp) (by have := HB.out.size; simp; omega)
      have HR4 := Lib.hid hr4
      have HM4 : Hid (F.Mine W2 w4 v4 (part3 a b n)) := ⟨ho4, (HB.out.alloc HB.out.size _).grown hg4 (by have := HB.out.size; simp; omega) (fun j hj => (HM1.out.own.lt j hj).1)⟩
      clear hr4 ho4 hg4
      have l4 : w4.cell? ⟨w.heap.size, 2, none⟩ = some (.slice A n c) := (HM4.out.bel.cell hws).trans HL2.out
      obtain ⟨v5, w5, hr5, ho5, hg5⟩ := F.app_run 22 HM4.out.own (HR.out.below (HB2.out.trans (HM4.out.bel.mono HB2.out.size))) (by rw [part3_len, HR.out.len]; omega) HM4.out.bel.size
      have e4 : part3 a b n ++ r = part4 a b r := by unfold part4; rw [HR.out.len]
      rw [e4] at ho5
      have HR5 := Lib.hid hr5
      have HM5 : Hid (F.Mine W2 w5 v5 (part4 a b r)) := ⟨ho5, HM4.out.bel.grown hg5 HM4.out.bel.size (fun j hj => (HM4.out.own.lt j hj).1)⟩
      clear hr5 ho5 hg5 e4
      obtain ⟨A5, n5, c5, rfl, hB5⟩ := HM5.out.holds
      have h5 : n5 = 13 + n := by rw [← hB5.len, part4_len, HR.out.len]
      have h5' : n5 ≤ 109 := by omega
      obtain ⟨v6, w6, hr6, ho6, hg6⟩ := app_zeros (k := 111 - n) 22 HM5.out.own (by omega) (by rw [part4_len]; omega) (by rw [part4_len, HR.out.len]; omega) HM5.out.bel.size
      have e5 : part4 a b r ++ List.replicate (111 - n) 0 = pre a b r := by unfold pre; rw [HR.out.len]
      have e6 : ((111 - n : Nat) : Int) = 124 - (n5 : Int) := by omega
      rw [e5] at ho6
      rw [e6] at hr6
      have HR6 := Lib.hid hr6
      have HM6 : Hid (F.Mine W2 w6 v6 (pre a b r)) := ⟨ho6, HM5.out.bel.grown hg6 HM5.out.bel.size (fun j hj => (HM5.out.own.lt j hj).1)⟩
      clear hr6 ho6 hg6 e5 e6 hB5 h5
      obtain ⟨A6, n6, c6, rfl, hB6⟩ := HM6.out.holds
      obtain rfl : n6 = 124 := by rw [← hB6.len, pre_len a b (by rw [HR.out.len]; exact h96)]
      have H6 := Lib.hid hB6
      have hcr := F.crc_lt (pre a b r)
      clear hB6
      go_wp2_with (at_builtin; first | (refine Lib.wpList_append_run _ rfl _ _ _ _ rfl _ _ rfl rfl _ _ HR4.out ?_) | (refine Lib.wpList_append_run _ rfl _ _ _ _ rfl _ _ rfl rfl _ _ HR5.out ?_) | (refine Lib.wpList_append_run _ rfl _ _ _ _ rfl _ _ rfl rfl _ _ HR6.out ?_))
      refine (F.sum_any _ _ _ _ _ _ H6.out (by omega)).mono ?_
      rintro e w3 ⟨rfl, rfl⟩
      go_wp2_with fail
      refine (F.num_yes A6 124 c6 _ (F.crc (pre a b r)) (pre a b r) w6 hcr H6.out (Nat.le_refl _) (by omega)).mono ?_
      rintro e w7 ⟨v, rfl, hm7⟩
      have HM7 := Lib.hid (hm7.from_ (HB2.out.trans (HM6.out.bel.mono HB2.out.size)))
      clear hm7
      go_wp2_with fail
      go_ret2
      exact ⟨v, rfl, HM7.out⟩
end Go.Proofs.Ytheimdnjmhibjaa
