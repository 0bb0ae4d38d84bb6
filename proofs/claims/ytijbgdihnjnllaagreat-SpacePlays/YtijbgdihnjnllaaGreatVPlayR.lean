/- play, walked: Read, Trunc; too few. -/
import Derived.Test.YtijbgdihnjnllaaGreatVGame
import Derived.Test.YtijbgdihnjnllaaGreatVSteps
import Derived.Test.YtijbgdihnjnllaaGreatVSim
import Derived.Deep.MidRow
import Derived.Test.YtijbgdihnjnllaaGreatVRef
namespace Go.Proofs.YtijbgdihnjnllaaGreat.V
open Go.RowKit
set_option linter.unusedVariables false
set_option maxRecDepth 20000
theorem i64_and1 (n : Int) : bits .and .i64 n 1 = n % 2 := by
  have h1 : (BitVec.ofInt 64 1).toNat = 2 ^ 1 - 1 := by decide
  have key : (BitVec.ofInt 64 n &&& BitVec.ofInt 64 1).toNat = (n % ((2 ^ 64 : Nat) : Int)).toNat % 2 ^ 1 := by
    rw [BitVec.toNat_and, BitVec.toNat_ofInt, h1, Nat.and_two_pow_sub_one_eq_mod]
  show IntKind.i64.wrap ((BitVec.ofInt 64 n &&& BitVec.ofInt 64 1).toNat : Nat) = n % 2
  rw [key, IntKind.wrap_i64]
  omega
theorem and_one (z : Int) : ∃ i : Nat, i < 2 ∧ bits .and .i64 z 1 = (i : Int) := ⟨(z % 2).toNat, by omega, by rw [i64_and1]; omega⟩
theorem s46l (l : List UInt8) (g : Nat → Bool) : (Tryz.prog.info? 46).map (·.size) = some (rc l g).length := by rw [rc_len]; kernel_rfl
theorem z46z' (l : List UInt8) (g : Nat → Bool) : Tryz.zeroCells46.size = (rc l g).toArray.size := by rw [z46, List.size_toArray, List.size_toArray, rc_len, rc_len]
theorem rfRead_any (l : List UInt8) (g : Nat → Bool) (a z : Nat) (w : World) (hl : l.length ≤ 9728) (hz : z ≤ 9728) : Calls Tryz.prog 28 #[.agg (rc l g).toArray, .int .i64 a, .int .i64 z] w fun e w' => e = .returned (.string (sb ((l.drop a).take (min z (l.length - a))))) ∧ Below w.heap.size w w' := by
  by_cases h : a < l.length
  · exact rfRead_some l g a z _ w h hl hz rfl
  · have e : (l.drop a).take (min z (l.length - a)) = [] := by rw [List.drop_eq_nil_of_le (by omega)]; simp
    rw [e]
    exact rfRead_no l g a z w (by omega)
set_option maxHeartbeats 4000000 in
theorem play_read {w0 w : World} {b p d q N : Nat} {x0 x1 x2 x3 : Int} {A : Option Addr} {n c : Nat} (h : PInv w0 w b p d q N) (h0 : x0 ≠ 0) (h1 : x0 ≠ 1) (hx : I64 x1) :
    Calls Tryz.prog 10 #[.pointer (some ⟨b, 0, none⟩), .agg #[.int .i64 x0, .int .i64 x1, .int .i64 x2, .int .i64 x3, .slice A n c], .int .i64 (N : Int)] w fun e w' => e = .returned (.bool true) ∧ PInv w0 w' b p d q N := by
  obtain ⟨O, s, X, y, f, C, G, hs, hf, hm, hp⟩ := h
  obtain ⟨i, hi, hand⟩ := and_one x1
  obtain ⟨nd, hnd⟩ : ∃ nd : Int, ((2 + i : Nat) : Int) = nd := ⟨_, rfl⟩
  have HS := Lib.hid hs
  have HF := Lib.hid hf
  have HM := Lib.hid hm
  have HP := Lib.hid hp
  have k0 : (x0 == 0) = false := by rw [beq_eq_false_iff_ne]; exact h0
  have k1 : (x0 == 1) = false := by rw [beq_eq_false_iff_ne]; exact h1
  clear hs hf hm hp h0 h1 hx
  go_enter Tryz.func10, Tryz.ntmps10
  go_upto_region 1 with fail
  obtain ⟨a0, a1, a2⟩ := D.box1 w (Obj.cells #[.int .i64 x0, .int .i64 x1, .int .i64 x2, .int .i64 x3, .slice A n c] 29)
  have HM1 : Hid (GM (w.alloc (Obj.cells #[.int .i64 x0, .int .i64 x1, .int .i64 x2, .int .i64 x3, .slice A n c] 29)) b p (fun i => byt (C i) 0 (y i).s) G) := HM.out.keep (a1.block b HM.out.lt)
  have HS1 := Lib.hid (HS.out.below a1)
  have HXB := Lib.hid a0
  have HBl := Lib.hid a1
  generalize w.alloc (Obj.cells #[.int .i64 x0, .int .i64 x1, .int .i64 x2, .int .i64 x3, .slice A n c] 29) = w1 at *
  have c0 := HM1.out.c0
  have c1 := HM1.out.cn hi
  rw [hnd] at c1
  have HNE := Lib.hid hnd
  have e0 : w1.cell? ⟨w.heap.size, 0, none⟩ = some (.int .i64 x0) := (cell_of_row w1 w.heap.size 0 _ 29 _ HXB.out).trans rfl
  have e1 : w1.cell? ⟨w.heap.size, 1, none⟩ = some (.int .i64 x1) := (cell_of_row w1 w.heap.size 1 _ 29 _ HXB.out).trans rfl
  have hbx : w.heap.size < w1.heap.size := (Array.getElem?_eq_some_iff.1 HXB.out).1
  have HRG : Hid (w1.rangeAt b (3 + i * 77) (rc (byt (C i) 0 (y i).s) (G i))) := by have := HM1.out.range hi; rw [Nat.mul_comm] at this; exact this
  clear a0 a1 a2 hnd
  go_upto_region 5 with (first | (refine wpList_load_mid rfl 46 _ rfl b (3 + i * 77) rfl (rc (byt (C i) 0 (y i).s) (G i)) _ HRG.out Tryz.underlying46 rfl (s46l _ _) ?_) | (refine D.wpList_store_new rfl 46 _ _ rfl w1 Tryz.zeroCells46 (rc (byt (C i) 0 (y i).s) (G i)).toArray rfl rfl (s46 _ _) (z46z' _ _) (all_oneCell_toArray (rc_one _ _)) ?_) | fail)
  obtain ⟨b0, b1, b2⟩ := D.box1 w1 (Obj.cells (rc (byt (C i) 0 (y i).s) (G i)).toArray 46)
  have HS2 := Lib.hid (HS1.out.below b1)
  have HM2 : Hid (GM (w1.alloc (Obj.cells (rc (byt (C i) 0 (y i).s) (G i)).toArray 46)) b p (fun i => byt (C i) 0 (y i).s) G) := HM1.out.keep (b1.block b HM1.out.lt)
  have HXB2 : Hid ((w1.alloc (Obj.cells (rc (byt (C i) 0 (y i).s) (G i)).toArray 46)).heap[w.heap.size]? = some (Obj.cells #[.int .i64 x0, .int .i64 x1, .int .i64 x2, .int .i64 x3, .slice A n c] 29)) := (b1.block _ hbx).trans HXB.out
  have HT2 : Hid (RF (w1.alloc (Obj.cells (rc (byt (C i) 0 (y i).s) (G i)).toArray 46)) w1.heap.size (byt (C i) 0 (y i).s) (G i)) := b0
  have hbT : w1.heap.size ≠ b := by have := HM1.out.lt; omega
  generalize w1.alloc (Obj.cells (rc (byt (C i) 0 (y i).s) (G i)).toArray 46) = w2 at *
  have f0 : w2.cell? ⟨w.heap.size, 0, none⟩ = some (.int .i64 x0) := (cell_of_row w2 w.heap.size 0 _ 29 _ HXB2.out).trans rfl
  have HC : Hid (∀ W, Below w2.heap.size w2 W → W.cell? ⟨b, 0, none⟩ = some (.pointer (some ⟨p, 0, none⟩)) ∧ W.cell? ⟨w.heap.size, 2, none⟩ = some (.int .i64 x2) ∧ W.cell? ⟨w.heap.size, 3, none⟩ = some (.int .i64 x3)) := fun W hW => ⟨(HM2.out.keep (hW.block b HM2.out.lt)).c0,
    (cell_of_row W w.heap.size 2 _ 29 _ ((hW.block _ (Array.getElem?_eq_some_iff.1 HXB2.out).1).trans HXB2.out)).trans rfl, (cell_of_row W w.heap.size 3 _ 29 _ ((hW.block _ (Array.getElem?_eq_some_iff.1 HXB2.out).1).trans HXB2.out)).trans rfl⟩
  generalize w1.heap.size = T at *
  clear b0 b1 b2 e0 e1 c0 c1 hand HM1 HS1 HXB HRG HBl HM hbx
  have HW0 : Hid (Below w2.heap.size w2 w2.drew) := (Below.refl _ _).drew
  have HEN : Hid (∀ w', Below w2.heap.size w2 w' → PInv w0 w' b p d q N) := fun w' hb => ⟨O, s, X, y, f, C, G, HS2.out.below hb, HF.out, HM2.out.keep (hb.block b HM2.out.lt), HP.out⟩
  by_cases hr : x2 < 0 ∨ x3 < 0 ∨ 9728 < x3
  · have hrd := read_range ((HF.out.fl i hi).open_ (HS2.out.below HW0.out) (by omega)) hr
    rw [HNE.out] at hrd
    have HRD := Lib.hid hrd
    have hrr : x2 < 0 ∨ (¬ x2 < 0 ∧ x3 < 0) ∨ (¬ x2 < 0 ∧ ¬ x3 < 0 ∧ 9728 < x3) := by omega
    clear hrd hr
    go_wp2_with fail
    go_region_held3 (fun W => W.cell? ⟨b, 0, none⟩ = some (.pointer (some ⟨p, 0, none⟩)) ∧ W.cell? ⟨w.heap.size, 2, none⟩ = some (.int .i64 x2) ∧ W.cell? ⟨w.heap.size, 3, none⟩ = some (.int .i64 x3)) (first | with_reducible exact HC.out _ HW0.out | with_reducible exact HC.out _ HW3.out)
      (first
      | (go_at_call 20; (with_reducible refine HRD.out.mono ?_); rintro e w3 ⟨rfl, hb3⟩; have HW3 := Lib.hid (HW0.out.trans (hb3.mono HW0.out.size)); clear hb3))
    obtain ⟨_, g2, g3⟩ := HC.out _ HW3.out
    have HE := Lib.hid (HEN.out _ HW3.out)
    clear HEN HC HW0 HW3 HRD
    rcases hrr with q1 | ⟨q1, q2⟩ | ⟨q1, q2, q3⟩
    all_goals
      go_wp2_with fail
      go_ret
      exact ⟨rfl, HE.out⟩
  · obtain ⟨a, rfl⟩ : ∃ a : Nat, x2 = (a : Int) := ⟨x2.toNat, by omega⟩
    obtain ⟨zz, rfl⟩ : ∃ zz : Nat, x3 = (zz : Int) := ⟨x3.toNat, by omega⟩
    have hz : zz ≤ 9728 := by omega
    clear hr
    have hys := (ok_size (HF.out.fl i hi).ok (HF.out.fl i hi).kind).1
    have hrd := read_fl (a := a) (z := zz) (s' := min zz ((y i).s - a)) (HS2.out.below HW0.out) (HF.out.fl i hi) (by omega) hz rfl
    rw [HNE.out] at hrd
    have HRD := Lib.hid hrd
    clear hrd
    go_wp2_with fail
    go_region_held3 (fun W => W.cell? ⟨b, 0, none⟩ = some (.pointer (some ⟨p, 0, none⟩)) ∧ W.cell? ⟨w.heap.size, 2, none⟩ = some (.int .i64 (a : Int)) ∧ W.cell? ⟨w.heap.size, 3, none⟩ = some (.int .i64 (zz : Int))) (first | with_reducible exact HC.out _ HW0.out | with_reducible exact HC.out _ HW3.out)
      (first
      | (go_at_call 20; (with_reducible refine HRD.out.mono ?_); rintro e w3 ⟨A3, n3, c3, rfl, hb3, hl3⟩; have HW3 := Lib.hid (HW0.out.trans (hl3.mono HW0.out.size)); have HT3 := Lib.hid hb3; clear hb3 hl3))
    obtain ⟨_, g2, g3⟩ := HC.out _ HW3.out
    have q1 : ¬ (a : Int) < 0 := by omega
    have q2 : ¬ (zz : Int) < 0 := by omega
    have q3 : ¬ (9728 : Int) < (zz : Int) := by omega
    go_wp2_with fail
    have HL : Hid (((byt (C i) 0 (y i).s).drop a).take (min zz ((byt (C i) 0 (y i).s).length - a)) = byt (C i) a (min zz ((y i).s - a))) := by
      show _ = _
      rw [byt_len]
      by_cases ha : a ≤ (y i).s
      · exact byt_take a (by omega)
      · rw [List.drop_eq_nil_of_le (by rw [byt_len]; omega), show min zz ((y i).s - a) = 0 by omega]; rfl
    have hrr := fun W => rfRead_any (byt (C i) 0 (y i).s) (G i) a zz W (by rw [byt_len]; exact hys) hz
    rw [HL.out] at hrr
    have HRR := Lib.hid hrr
    clear hrr
    have HS9 : Hid (∀ W, Below w3.heap.size w3 W → W.rangeAt b (3 + i * 77) (rc (byt (C i) 0 (y i).s) (G i)) ∧ W.cell? ⟨w.heap.size, 2, none⟩ = some (.int .i64 (a : Int)) ∧ W.cell? ⟨w.heap.size, 3, none⟩ = some (.int .i64 (zz : Int)) ∧ (convert 27 9 (.slice A3 n3 c3)).run Tryz.prog W = .ok (.string (sb (byt (C i) a (min zz ((y i).s - a))))) W) := fun W hW => by
      have hW2 : Below w2.heap.size w2 W := HW3.out.trans (hW.mono HW3.out.size)
      have hr := (HM2.out.keep (hW2.block b HM2.out.lt)).range hi
      rw [Nat.mul_comm] at hr
      exact ⟨hr, (HC.out W hW2).2.1, (HC.out W hW2).2.2, HT3.out.str W fun q hq => hW.cell (p := q) hq⟩
    have HW9 : Hid (Below w3.heap.size w3 w3.drew) := (Below.refl _ _).drew
    generalize byt (C i) a (min zz ((y i).s - a)) = R at *
    obtain ⟨L, hL⟩ : ∃ L, byt (C i) 0 (y i).s = L := ⟨_, rfl⟩
    rw [hL] at HS9 HRR
    have hs46 := s46l L (G i)
    have heq : ((sb R).toList == (sb R).toList) = true := by simp
    have hi2 : (i : Int) < 2 := by omega
    refine wp_region_noPanic ?_
    refine wp_region_held_drew (S := fun W => W.rangeAt b (3 + i * 77) (rc L (G i)) ∧ W.cell? ⟨w.heap.size, 2, none⟩ = some (.int .i64 (a : Int)) ∧ W.cell? ⟨w.heap.size, 3, none⟩ = some (.int .i64 (zz : Int)) ∧ (convert 27 9 (.slice A3 n3 c3)).run Tryz.prog W = .ok (.string (sb R)) W) (by kernel_rfl) (HS9.out _ HW9.out) (fun hHeld => ?_)
    refine wpAnyH_take (i := 0) (oi := { dst := some 66, op := Op.move (Operand.tmp 15), type := 33, pos := "law.go:135", after := #[], guard := none }) (v := ?_) rfl (by kernel_rfl) (by kernel_rfl) (by kernel_rfl) (fun _ _ _ h => h) (Or.inl ⟨by rfl, ?_⟩) (by assumption) ?_
    rotate_left
    · intro w hSw; (try dsimp only at hSw); go_simp <;> with_reducible rfl
    try simp only [Act.put, List.setIfInBounds_toArray, List.set_cons_zero, List.set_cons_succ]
    refine wpAnyH_take (i := 1) (oi := { dst := some 67, op := Op.binOp BinOp.eql 33 (Operand.tmp 66) (Operand.const (Value.int IntKind.i64 0)) 33, type := 4, pos := "law.go:135", after := #[{ on := 0, ground := Ground.data }], guard := none }) (v := ?_) rfl (by kernel_rfl) (by kernel_rfl) (by kernel_rfl) (fun _ _ _ h => h) (Or.inl ⟨by rfl, ?_⟩) (by assumption) ?_
    rotate_left
    · intro w hSw; (try dsimp only at hSw); go_simp <;> with_reducible rfl
    try simp only [Act.put, List.setIfInBounds_toArray, List.set_cons_zero, List.set_cons_succ]
    refine wpAnyH_take (i := 2) (oi := { dst := some 68, op := Op.move (Operand.tmp 67), type := 4, pos := "law.go:135", after := #[{ on := 1, ground := Ground.data }], guard := none }) (v := ?_) rfl (by kernel_rfl) (by kernel_rfl) (by kernel_rfl) (fun _ _ _ h => h) (Or.inl ⟨by rfl, ?_⟩) (by assumption) ?_
    rotate_left
    · intro w hSw; (try dsimp only at hSw); go_simp <;> with_reducible rfl
    try simp only [Act.put, List.setIfInBounds_toArray, List.set_cons_zero, List.set_cons_succ]
    refine wpAnyH_take (i := 3) (oi := { dst := some 69, op := Op.move (Operand.tmp 14), type := 27, pos := "law.go:135", after := #[{ on := 2, ground := Ground.guard }], guard := some (2, true) }) (v := ?_) rfl (by kernel_rfl) (by kernel_rfl) (by kernel_rfl) (fun _ _ _ h => h) (Or.inl ⟨by rfl, ?_⟩) (by assumption) ?_
    rotate_left
    · intro w hSw; (try dsimp only at hSw); go_simp <;> with_reducible rfl
    try simp only [Act.put, List.setIfInBounds_toArray, List.set_cons_zero, List.set_cons_succ]
    refine wpAnyH_take (i := 4) (oi := { dst := some 70, op := Op.convert 27 9 (Operand.tmp 69), type := 9, pos := "law.go:135", after := #[{ on := 3, ground := Ground.data }, { on := 2, ground := Ground.guard }], guard := some (2, true) }) (v := ?_) rfl (by kernel_rfl) (by kernel_rfl) (by kernel_rfl) (fun _ _ _ h => h) (Or.inl ⟨by rfl, ?_⟩) (by assumption) ?_
    rotate_left
    · intro w hSw; (try dsimp only at hSw); go_simp <;> with_reducible rfl
    try simp only [Act.put, List.setIfInBounds_toArray, List.set_cons_zero, List.set_cons_succ]
    refine wpAnyH_take (i := 5) (oi := { dst := some 71, op := Op.move (Operand.tmp 0), type := 23, pos := "law.go:135", after := #[{ on := 2, ground := Ground.guard }], guard := some (2, true) }) (v := ?_) rfl (by kernel_rfl) (by kernel_rfl) (by kernel_rfl) (fun _ _ _ h => h) (Or.inl ⟨by rfl, ?_⟩) (by assumption) ?_
    rotate_left
    · intro w hSw; (try dsimp only at hSw); go_simp <;> with_reducible rfl
    try simp only [Act.put, List.setIfInBounds_toArray, List.set_cons_zero, List.set_cons_succ]
    refine wpAnyH_take (i := 6) (oi := { dst := some 72, op := Op.move (Operand.tmp 7), type := 3, pos := "law.go:135", after := #[{ on := 2, ground := Ground.guard }], guard := some (2, true) }) (v := ?_) rfl (by kernel_rfl) (by kernel_rfl) (by kernel_rfl) (fun _ _ _ h => h) (Or.inl ⟨by rfl, ?_⟩) (by assumption) ?_
    rotate_left
    · intro w hSw; (try dsimp only at hSw); go_simp <;> with_reducible rfl
    try simp only [Act.put, List.setIfInBounds_toArray, List.set_cons_zero, List.set_cons_succ]
    refine wpAnyH_take (i := 7) (oi := { dst := some 73, op := Op.nilCheck (Operand.tmp 71), type := 0, pos := "law.go:135", after := #[{ on := 5, ground := Ground.data }, { on := 2, ground := Ground.guard }], guard := some (2, true) }) (v := ?_) rfl (by kernel_rfl) (by kernel_rfl) (by kernel_rfl) (fun _ _ _ h => h) (Or.inl ⟨by rfl, ?_⟩) (by assumption) ?_
    rotate_left
    · intro w hSw; (try dsimp only at hSw); go_simp <;> with_reducible rfl
    try simp only [Act.put, List.setIfInBounds_toArray, List.set_cons_zero, List.set_cons_succ]
    refine wpAnyH_take (i := 8) (oi := { dst := some 74, op := Op.fieldAddr 67 (Operand.tmp 73) 2, type := 0, pos := "law.go:135", after := #[{ on := 7, ground := Ground.data }, { on := 2, ground := Ground.guard }], guard := some (2, true) }) (v := ?_) rfl (by kernel_rfl) (by kernel_rfl) (by kernel_rfl) (fun _ _ _ h => h) (Or.inl ⟨by rfl, ?_⟩) (by assumption) ?_
    rotate_left
    · intro w hSw; (try dsimp only at hSw); go_simp <;> with_reducible rfl
    try simp only [Act.put, List.setIfInBounds_toArray, List.set_cons_zero, List.set_cons_succ]
    refine wpAnyH_take (i := 9) (oi := { dst := some 75, op := Op.indexAddr 65 (Operand.tmp 74) (Operand.tmp 72), type := 0, pos := "law.go:135", after := #[{ on := 8, ground := Ground.data }, { on := 6, ground := Ground.data }, { on := 2, ground := Ground.guard }], guard := some (2, true) }) (v := ?_) rfl (by kernel_rfl) (by kernel_rfl) (by kernel_rfl) (fun _ _ _ h => h) (Or.inl ⟨by rfl, ?_⟩) (by assumption) ?_
    rotate_left
    · intro w hSw; (try dsimp only at hSw); go_simp <;> with_reducible rfl
    try simp only [Act.put, List.setIfInBounds_toArray, List.set_cons_zero, List.set_cons_succ]
    refine wpAnyH_take (i := 10) (oi := { dst := some 76, op := Op.load 46 (Operand.tmp 75), type := 46, pos := "law.go:135", after := #[{ on := 9, ground := Ground.data }, { on := 2, ground := Ground.guard }], guard := some (2, true) }) (v := .agg (rc L (G i)).toArray) rfl (by kernel_rfl) (by kernel_rfl) (by kernel_rfl) (fun _ _ _ h => h) (yieldsIf_load_mid (by rfl) 46 _ rfl b (3 + i * 77) rfl (rc L (G i)) _ (fun w hw => hw.1) Tryz.underlying46 rfl hs46) (by assumption) ?_
    try simp only [Act.put, List.setIfInBounds_toArray, List.set_cons_zero, List.set_cons_succ]
    refine wpAnyH_take (i := 11) (oi := { dst := some 77, op := Op.fieldAddr 29 (Operand.tmp 4) 2, type := 0, pos := "law.go:135", after := #[{ on := 2, ground := Ground.guard }], guard := some (2, true) }) (v := ?_) rfl (by kernel_rfl) (by kernel_rfl) (by kernel_rfl) (fun _ _ _ h => h) (Or.inl ⟨by rfl, ?_⟩) (by assumption) ?_
    rotate_left
    · intro w hSw; (try dsimp only at hSw); go_simp <;> with_reducible rfl
    try simp only [Act.put, List.setIfInBounds_toArray, List.set_cons_zero, List.set_cons_succ]
    refine wpAnyH_take (i := 12) (oi := { dst := some 78, op := Op.load 3 (Operand.tmp 77), type := 3, pos := "law.go:135", after := #[{ on := 11, ground := Ground.data }, { on := 2, ground := Ground.guard }], guard := some (2, true) }) (v := ?_) rfl (by kernel_rfl) (by kernel_rfl) (by kernel_rfl) (fun _ _ _ h => h) (Or.inl ⟨by rfl, ?_⟩) (by assumption) ?_
    rotate_left
    · intro w hSw; (try dsimp only at hSw); go_simp <;> with_reducible rfl
    try simp only [Act.put, List.setIfInBounds_toArray, List.set_cons_zero, List.set_cons_succ]
    refine wpAnyH_take (i := 13) (oi := { dst := some 79, op := Op.fieldAddr 29 (Operand.tmp 4) 3, type := 0, pos := "law.go:135", after := #[{ on := 2, ground := Ground.guard }], guard := some (2, true) }) (v := ?_) rfl (by kernel_rfl) (by kernel_rfl) (by kernel_rfl) (fun _ _ _ h => h) (Or.inl ⟨by rfl, ?_⟩) (by assumption) ?_
    rotate_left
    · intro w hSw; (try dsimp only at hSw); go_simp <;> with_reducible rfl
    try simp only [Act.put, List.setIfInBounds_toArray, List.set_cons_zero, List.set_cons_succ]
    refine wpAnyH_take (i := 14) (oi := { dst := some 80, op := Op.load 3 (Operand.tmp 79), type := 3, pos := "law.go:135", after := #[{ on := 13, ground := Ground.data }, { on := 2, ground := Ground.guard }], guard := some (2, true) }) (v := ?_) rfl (by kernel_rfl) (by kernel_rfl) (by kernel_rfl) (fun _ _ _ h => h) (Or.inl ⟨by rfl, ?_⟩) (by assumption) ?_
    rotate_left
    · intro w hSw; (try dsimp only at hSw); go_simp <;> with_reducible rfl
    try simp only [Act.put, List.setIfInBounds_toArray, List.set_cons_zero, List.set_cons_succ]
    refine wpAnyH_ready (rs := [15]) (by kernel_rfl) (by simp) ?_
    refine AllReadyH.cons (o := { dst := some 81, op := Op.call { callee := Callee.value (Operand.func 28), args := #[Operand.tmp 76, Operand.tmp 78, Operand.tmp 80], argTypes := #[46, 3, 3] }, type := 9, pos := "law.go:135", after := #[{ on := 10, ground := Ground.data }, { on := 12, ground := Ground.data }, { on := 14, ground := Ground.data }, { on := 2, ground := Ground.chain }, { on := 2, ground := Ground.guard }], guard := some (2, true) }) rfl (fun K hK => ?_) AllReadyH.nil
    go_simp
    go_at_call 28
    refine (HRR.out _).mono ?_
    rintro e w4 ⟨rfl, hb4⟩
    have HW4 := Lib.hid (HW9.out.trans (hb4.mono HW9.out.size))
    clear hb4
    go_wp2_with fail
    refine hK.out _ _ (HS9.out _ HW4.out) (fun hHeld => ?_)
    clear hK K
    refine wpAnyH_take (i := 16) (oi := { dst := some 82, op := Op.binOp BinOp.eql 9 (Operand.tmp 70) (Operand.tmp 81) 9, type := 4, pos := "law.go:135", after := #[{ on := 4, ground := Ground.data }, { on := 15, ground := Ground.data }, { on := 2, ground := Ground.guard }], guard := some (2, true) }) (v := ?_) rfl (by kernel_rfl) (by kernel_rfl) (by kernel_rfl) (fun _ _ _ h => h) (Or.inl ⟨by rfl, ?_⟩) (by assumption) ?_
    rotate_left
    · intro w hSw; (try dsimp only at hSw); go_simp <;> with_reducible rfl
    try simp only [Act.put, List.setIfInBounds_toArray, List.set_cons_zero, List.set_cons_succ]
    refine wpAnyH_take (i := 17) (oi := { dst := some 83, op := Op.pick (Operand.tmp 68) (Operand.tmp 82) (Operand.const (Value.bool false)), type := 4, pos := "law.go:135", after := #[{ on := 2, ground := Ground.data }, { on := 16, ground := Ground.data }], guard := none }) (v := ?_) rfl (by kernel_rfl) (by kernel_rfl) (by kernel_rfl) (fun _ _ _ h => h) (Or.inl ⟨by rfl, ?_⟩) (by assumption) ?_
    rotate_left
    · intro w hSw; (try dsimp only at hSw); go_simp <;> with_reducible rfl
    try simp only [Act.put, List.setIfInBounds_toArray, List.set_cons_zero, List.set_cons_succ]
    refine wpAnyH_take (i := 18) (oi := { dst := some 6, op := Op.assign (Operand.tmp 83), type := 4, pos := "law.go:135", after := #[{ on := 17, ground := Ground.data }, { on := 15, ground := Ground.chain }, { on := 0, ground := Ground.phase }, { on := 1, ground := Ground.phase }, { on := 2, ground := Ground.phase }, { on := 3, ground := Ground.phase }, { on := 4, ground := Ground.phase }, { on := 5, ground := Ground.phase }, { on := 6, ground := Ground.phase }, { on := 7, ground := Ground.phase }, { on := 8, ground := Ground.phase }, { on := 9, ground := Ground.phase }, { on := 10, ground := Ground.phase }, { on := 11, ground := Ground.phase }, { on := 12, ground := Ground.phase }, { on := 13, ground := Ground.phase }, { on := 14, ground := Ground.phase }, { on := 15, ground := Ground.phase }, { on := 16, ground := Ground.phase }, { on := 17, ground := Ground.phase }], guard := none }) (v := ?_) rfl (by kernel_rfl) (by kernel_rfl) (by kernel_rfl) (fun _ _ _ h => h) (Or.inl ⟨by rfl, ?_⟩) (by assumption) ?_
    rotate_left
    · intro w hSw; (try dsimp only at hSw); go_simp <;> with_reducible rfl
    try simp only [Act.put, List.setIfInBounds_toArray, List.set_cons_zero, List.set_cons_succ]
    refine wpAnyH_done (by kernel_rfl) ?_ _
    refine NoPanic.normal ?_
    have HE := Lib.hid (HEN.out _ (HW3.out.trans (HW4.out.mono HW3.out.size)))
    go_wp2_with fail
    go_ret
    exact ⟨rfl, HE.out⟩
end Go.Proofs.YtijbgdihnjnllaaGreat.V
namespace Go.Proofs.YtijbgdihnjnllaaGreat.V
open Go.RowKit
set_option linter.unusedVariables false
set_option maxRecDepth 20000
theorem trL_byt {C : Nat → UInt8} {s n : Nat} (hz : ∀ i, s ≤ i → C i = 0) : trL (byt C 0 s) n = byt (cutC C n) 0 n := by
  apply List.ext_getElem?
  intro i
  unfold trL
  rw [List.getElem?_take]
  by_cases h : i < n
  · rw [if_pos h, pad_get hz (by omega), byt_get _ h]
    unfold cutC; rw [if_pos h]
  · rw [if_neg h, byt_none _ (by omega)]
theorem trG_bl {f : Nat → Nat} {g : Nat → Bool} {B : Nat} (h : ∀ b, b < 76 → (g b = true ↔ f (ixb b) ≠ 0)) : ∀ b, b < 76 → (trG g B (76 - B) b = true ↔ cutF B f (ixb b) ≠ 0) := fun b hb => by
  rw [cutF_leaf B f (ixb_px hb), bix_ixb hb]
  unfold trG
  by_cases h1 : b < B
  · rw [if_pos h1, ← h b hb]
    have : ¬ B ≤ b := by omega
    simp [this]
  · rw [if_neg h1]
    have h2 : B ≤ b := by omega
    have h3 : b < B + (76 - B) := by omega
    simp [h2, h3]
theorem wrG_bl {f f' : Nat → Nat} {g : Nat → Bool} {a n : Nat} (hn : 0 < n) (h : ∀ b, b < 76 → (g b = true ↔ f (ixb b) ≠ 0)) (hz : ∀ i, f' i ≠ 0 ↔ f i ≠ 0 ∨ ∃ b, Tch a n b ∧ i ∈ path b) : ∀ b, b < 76 → (wrG g a n ((a + n - 1) / 128 + 1 - a / 128) b = true ↔ f' (ixb b) ≠ 0) := fun b hb => by
  rw [hz, ← h b hb]
  unfold wrG
  rw [Bool.or_eq_true, Bool.and_eq_true, decide_eq_true_eq, decide_eq_true_eq]
  constructor
  · rintro (h1 | ⟨h1, h2⟩)
    · exact .inl h1
    · exact .inr ⟨b, ⟨hb, by omega, by omega⟩, path_last b⟩
  · rintro (h1 | ⟨b', ⟨h1, h2, h3⟩, h4⟩)
    · exact .inl h1
    · obtain rfl := ixb_path hb h1 h4
      exact .inr ⟨by omega, by omega⟩
section
variable {N i : Nat} {V V' : Img} {y : Nat → D.Nn} {f : Nat → Nat → Nat} {C : Nat → Nat → UInt8} {G : Nat → Nat → Bool} {y' : D.Nn} {f' : Nat → Nat} {C' : Nat → UInt8} {g' : Nat → Bool}
theorem setf_at {α : Type} (f : Nat → α) (i : Nat) (x : α) : setf f i x i = x := if_pos rfl
theorem setf_ne {α : Type} (f : Nat → α) {i j : Nat} (x : α) (h : j ≠ i) : setf f i x j = f j := if_neg h
/-- One file is another. -/
theorem Fls.of_two (h : Fls N V y f C G) (hi : i < 2) (ht : Two (2 + i) (2 + (1 - i)) N V' y' f' C' (y (1 - i)) (f (1 - i)) (C (1 - i))) (hb : ∀ b, b < 76 → (g' b = true ↔ f' (ixb b) ≠ 0)) : Fls N V' (setf y i y') (setf f i f') (setf C i C') (setf G i g') := by
  refine ⟨fun j hj => ?_, fun j hj b hb' => ?_⟩
  · by_cases e : j = i
    · subst e
      rw [setf_at, setf_at, setf_at, setf_ne f f' (show 1 - j ≠ j by omega)]
      exact ht.a
    · rw [setf_ne y y' e, setf_ne f f' e, setf_ne C C' e, show 1 - j = i by omega, setf_at]
      have := ht.b
      rw [show 1 - i = j by omega] at this
      exact this
  · by_cases e : j = i
    · subst e; rw [setf_at, setf_at]; exact hb b hb'
    · rw [setf_ne G g' e, setf_ne f f' e]; exact h.bl j hj b hb'
theorem setf_byt (y : Nat → D.Nn) (C : Nat → Nat → UInt8) (i : Nat) (y' : D.Nn) (C' : Nat → UInt8) : setf (fun i => byt (C i) 0 (y i).s) i (byt C' 0 y'.s) = fun j => byt (setf C i C' j) 0 (setf y i y' j).s := by
  funext j
  unfold setf
  split <;> rfl
end
end Go.Proofs.YtijbgdihnjnllaaGreat.V
namespace Go.Proofs.YtijbgdihnjnllaaGreat.V
open Go.RowKit
set_option linter.unusedVariables false
set_option maxRecDepth 20000
set_option maxHeartbeats 4000000 in
theorem play_trunc {w0 w : World} {b p d q N : Nat} {x1 x2 x3 : Int} {A : Option Addr} {n c : Nat} (h : PInv w0 w b p d q N) (hx : I64 x1) :
    Calls Tryz.prog 10 #[.pointer (some ⟨b, 0, none⟩), .agg #[.int .i64 1, .int .i64 x1, .int .i64 x2, .int .i64 x3, .slice A n c], .int .i64 (N : Int)] w fun e w' => e = .returned (.bool true) ∧ PInv w0 w' b p d q N := by
  obtain ⟨O, s, X, y, f, C, G, hs, hf, hm, hp⟩ := h
  obtain ⟨i, hi, hand⟩ := and_one x1
  obtain ⟨nd, hnd⟩ : ∃ nd : Int, ((2 + i : Nat) : Int) = nd := ⟨_, rfl⟩
  have HS := Lib.hid hs
  have HF := Lib.hid hf
  have HM := Lib.hid hm
  have HP := Lib.hid hp
  clear hs hf hm hp hx
  go_enter Tryz.func10, Tryz.ntmps10
  go_upto_region 1 with fail
  obtain ⟨a0, a1, a2⟩ := D.box1 w (Obj.cells #[.int .i64 1, .int .i64 x1, .int .i64 x2, .int .i64 x3, .slice A n c] 29)
  have HM1 : Hid (GM (w.alloc (Obj.cells #[.int .i64 1, .int .i64 x1, .int .i64 x2, .int .i64 x3, .slice A n c] 29)) b p (fun i => byt (C i) 0 (y i).s) G) := HM.out.keep (a1.block b HM.out.lt)
  have HS1 := Lib.hid (HS.out.below a1)
  have HXB := Lib.hid a0
  have HBl := Lib.hid a1
  generalize w.alloc (Obj.cells #[.int .i64 1, .int .i64 x1, .int .i64 x2, .int .i64 x3, .slice A n c] 29) = w1 at *
  have c0 := HM1.out.c0
  have c1 := HM1.out.cn hi
  rw [hnd] at c1
  have HNE := Lib.hid hnd
  have e0 : w1.cell? ⟨w.heap.size, 0, none⟩ = some (.int .i64 1) := (cell_of_row w1 w.heap.size 0 _ 29 _ HXB.out).trans rfl
  have e1 : w1.cell? ⟨w.heap.size, 1, none⟩ = some (.int .i64 x1) := (cell_of_row w1 w.heap.size 1 _ 29 _ HXB.out).trans rfl
  have hbx : w.heap.size < w1.heap.size := (Array.getElem?_eq_some_iff.1 HXB.out).1
  have HRG : Hid (w1.rangeAt b (3 + i * 77) (rc (byt (C i) 0 (y i).s) (G i))) := by have := HM1.out.range hi; rw [Nat.mul_comm] at this; exact this
  clear a0 a1 a2 hnd
  go_upto_region 5 with (first | (refine wpList_load_mid rfl 46 _ rfl b (3 + i * 77) rfl (rc (byt (C i) 0 (y i).s) (G i)) _ HRG.out Tryz.underlying46 rfl (s46l _ _) ?_) | (refine D.wpList_store_new rfl 46 _ _ rfl w1 Tryz.zeroCells46 (rc (byt (C i) 0 (y i).s) (G i)).toArray rfl rfl (s46 _ _) (z46z' _ _) (all_oneCell_toArray (rc_one _ _)) ?_) | fail)
  obtain ⟨b0, b1, b2⟩ := D.box1 w1 (Obj.cells (rc (byt (C i) 0 (y i).s) (G i)).toArray 46)
  have HS2 := Lib.hid (HS1.out.below b1)
  have HM2 : Hid (GM (w1.alloc (Obj.cells (rc (byt (C i) 0 (y i).s) (G i)).toArray 46)) b p (fun i => byt (C i) 0 (y i).s) G) := HM1.out.keep (b1.block b HM1.out.lt)
  have HXB2 : Hid ((w1.alloc (Obj.cells (rc (byt (C i) 0 (y i).s) (G i)).toArray 46)).heap[w.heap.size]? = some (Obj.cells #[.int .i64 1, .int .i64 x1, .int .i64 x2, .int .i64 x3, .slice A n c] 29)) := (b1.block _ hbx).trans HXB.out
  have HT2 : Hid (RF (w1.alloc (Obj.cells (rc (byt (C i) 0 (y i).s) (G i)).toArray 46)) w1.heap.size (byt (C i) 0 (y i).s) (G i)) := b0
  have hbT : w1.heap.size ≠ b := by have := HM1.out.lt; omega
  generalize w1.alloc (Obj.cells (rc (byt (C i) 0 (y i).s) (G i)).toArray 46) = w2 at *
  have f0 : w2.cell? ⟨w.heap.size, 0, none⟩ = some (.int .i64 1) := (cell_of_row w2 w.heap.size 0 _ 29 _ HXB2.out).trans rfl
  have HC : Hid (∀ W, Below w2.heap.size w2 W → W.cell? ⟨b, 0, none⟩ = some (.pointer (some ⟨p, 0, none⟩)) ∧ W.cell? ⟨w.heap.size, 3, none⟩ = some (.int .i64 x3)) := fun W hW => ⟨(HM2.out.keep (hW.block b HM2.out.lt)).c0,
    (cell_of_row W w.heap.size 3 _ 29 _ ((hW.block _ (Array.getElem?_eq_some_iff.1 HXB2.out).1).trans HXB2.out)).trans rfl⟩
  have HPT := Lib.hid (newer HS1.out (Nat.le_refl w1.heap.size))
  have HPX := Lib.hid (newer HS.out (Nat.le_refl w.heap.size))
  have HQT : Hid (w1.heap.size ≠ q) := HPT.out.2.2.1
  have HQX : Hid (w.heap.size ≠ q) := HPX.out.2.2.1
  generalize w1.heap.size = T at *
  clear b0 b1 b2 e0 e1 c0 c1 hand HM1 HS1 HXB HRG HBl HM hbx
  have HW0 : Hid (Below w2.heap.size w2 w2.drew) := (Below.refl _ _).drew
  have HEN : Hid (∀ w', Below w2.heap.size w2 w' → PInv w0 w' b p d q N) := fun w' hb => ⟨O, s, X, y, f, C, G, HS2.out.below hb, HF.out, HM2.out.keep (hb.block b HM2.out.lt), HP.out⟩
  by_cases hr : x3 < 0 ∨ 9728 < x3
  · have hrd := trunc_range ((HF.out.fl i hi).open_ (HS2.out.below HW0.out) (by omega)) hr
    rw [HNE.out] at hrd
    have HRD := Lib.hid hrd
    have hrr : x3 < 0 ∨ (¬ x3 < 0 ∧ 9728 < x3) := by omega
    clear hrd hr
    go_wp2_with fail
    go_region_held3 (fun W => W.cell? ⟨b, 0, none⟩ = some (.pointer (some ⟨p, 0, none⟩)) ∧ W.cell? ⟨w.heap.size, 3, none⟩ = some (.int .i64 x3)) (first | with_reducible exact HC.out _ HW0.out | with_reducible exact HC.out _ HW3.out)
      (first
      | (go_at_call 24; (with_reducible refine HRD.out.mono ?_); rintro e w3 ⟨rfl, hb3⟩; have HW3 := Lib.hid (HW0.out.trans (hb3.mono HW0.out.size)); clear hb3))
    obtain ⟨g0, g3⟩ := HC.out _ HW3.out
    have HS3 := Lib.hid (HS2.out.below HW3.out)
    have HM3 : Hid (GM w3 b p (fun i => byt (C i) 0 (y i).s) G) := HM2.out.keep (HW3.out.block b HM2.out.lt)
    clear HEN HC HW0 HW3 HRD
    rcases hrr with q1 | ⟨q1, q2⟩
    all_goals
      go_wp2_with fail
      refine (drop_any HS3.out).mono ?_
      rintro e w4 ⟨rfl, hs4, hc4⟩
      have HE : Hid (PInv w0 w4 b p d q N) := ⟨O, s, X, y, f, C, G, hs4, HF.out, HM3.out.keep (hc4.block b HM3.out.lt (by simp; exact HP.out.2.2.1)), HP.out⟩
      clear hs4 hc4
      go_wp2_with fail
      go_ret
      exact ⟨rfl, HE.out⟩
  · obtain ⟨zz, rfl⟩ : ∃ zz : Nat, x3 = (zz : Int) := ⟨x3.toNat, by omega⟩
    have hz : zz ≤ 9728 := by omega
    clear hr
    have hys := (ok_size (HF.out.fl i hi).ok (HF.out.fl i hi).kind).1
    obtain ⟨B, hB⟩ : ∃ B, (zz + 127) / 128 = B := ⟨_, rfl⟩
    have hrd := trunc_low (size := zz) (HS2.out.below HW0.out) (HF.out.fl i hi) (by omega) (by simp [keys]) hz
    rw [HNE.out] at hrd
    have HRD := Lib.hid hrd
    clear hrd
    go_wp2_with fail
    go_region_held3 (fun W => W.cell? ⟨b, 0, none⟩ = some (.pointer (some ⟨p, 0, none⟩)) ∧ W.cell? ⟨w.heap.size, 3, none⟩ = some (.int .i64 (zz : Int))) (first | with_reducible exact HC.out _ HW0.out | with_reducible exact HC3.out)
      (first
      | (go_at_call 24; (with_reducible refine HRD.out.mono ?_); rintro e w3 ⟨rfl, low, Tx, m3, y', haft, hs3, _⟩; have HAF := Lib.hid haft; have HY3 := Lib.hid hs3; have HM3 : Hid (GM w3 b p (fun i => byt (C i) 0 (y i).s) G) := (HM2.out.keep (HW0.out.block b HM2.out.lt)).keep (haft.chg.block b HM2.out.lt (by simp; exact HP.out.2.2.1)); have HX3 : Hid (w3.heap[w.heap.size]? = some (Obj.cells #[.int .i64 1, .int .i64 x1, .int .i64 x2, .int .i64 (zz : Int), .slice A n c] 29)) := (haft.chg.block w.heap.size (Array.getElem?_eq_some_iff.1 HXB2.out).1 (by simp; exact HQX.out)).trans HXB2.out; have HT3 : Hid (RF w3 T (byt (C i) 0 (y i).s) (G i)) := HT2.out.keep (haft.chg.block T HT2.out.lt (by simp; exact HQT.out)); have HC3 : Hid (w3.cell? ⟨b, 0, none⟩ = some (.pointer (some ⟨p, 0, none⟩)) ∧ w3.cell? ⟨w.heap.size, 3, none⟩ = some (.int .i64 (zz : Int))) := ⟨HM3.out.c0, (cell_of_row w3 w.heap.size 3 _ 29 _ HX3.out).trans rfl⟩; clear haft hs3))
    obtain ⟨g0, g3⟩ := HC3.out
    have HS3 := Lib.hid HAF.out.sto
    have HTW := Lib.hid ((HF.out.two hi).aft (HS2.out.below HW0.out) (by omega) (by omega) (by omega) HAF.out)
    have HF4 : Hid (Fls N (view X m3) (setf y i y') (setf f i (cutF B (f i))) (setf C i (cutC (C i) zz)) (setf G i (trG (G i) B (76 - B)))) := by
      show Fls _ _ _ _ _ _
      have ht := HTW.out
      rw [hB] at ht
      exact HF.out.of_two hi ht (trG_bl (HF.out.bl i hi))
    have hLb : trL (byt (C i) 0 (y i).s) zz = byt (cutC (C i) zz) 0 y'.s := by rw [HY3.out]; exact trL_byt (HF.out.fl i hi).zero
    have HLB := Lib.hid hLb
    have HRT := Lib.hid (rfTrunc_any (byt (C i) 0 (y i).s) (G i) zz B w3 (by rw [byt_len]; exact hys) hz hB)
    have q1 : ¬ (zz : Int) < 0 := by omega
    have q2 : ¬ (9728 : Int) < (zz : Int) := by omega
    clear HRD HAF HTW hLb HC HEN HW0 HM2 HS2 HXB2 HT2
    go_wp2_with (first | (refine D.wpList_load_row rfl 46 _ rfl T rfl _ _ _ HT3.out _ Tryz.underlying46 rfl (s46 _ _) ?_) | fail)
    refine HRT.out.mono ?_
    rintro e w5 ⟨rfl, hb5⟩
    have HS5 := Lib.hid (HS3.out.below hb5)
    have HM5 : Hid (GM w5 b p (fun i => byt (C i) 0 (y i).s) G) := HM3.out.keep (hb5.block b HM3.out.lt)
    have HT5 : Hid (RF w5 T (byt (C i) 0 (y i).s) (G i)) := HT3.out.keep (hb5.block T HT3.out.lt)
    clear hb5 HRT HS3 HM3 HT3 HX3 HC3
    go_upto_region 27 with (first | (refine D.wpList_store_row rfl 46 _ _ rfl T _ (rc (trL (byt (C i) 0 (y i).s) zz) (trG (G i) B (76 - B))).toArray 46 rfl rfl HT5.out (s46 _ _) (by rw [List.size_toArray, List.size_toArray, rc_len, rc_len]) (all_oneCell_toArray (rc_one _ _)) ?_) | fail)
    have HS6 := Lib.hid (side_ HS5.out (chg_setRow w5 T (rc (trL (byt (C i) 0 (y i).s) zz) (trG (G i) B (76 - B))).toArray) HPT.out)
    have HT6 : Hid (RF (w5.setRow T (rc (trL (byt (C i) 0 (y i).s) zz) (trG (G i) B (76 - B))).toArray) T (trL (byt (C i) 0 (y i).s) zz) (trG (G i) B (76 - B))) := D.setRow_in _ _ _ _ _ HT5.out
    have HM6 : Hid (GM (w5.setRow T (rc (trL (byt (C i) 0 (y i).s) zz) (trG (G i) B (76 - B))).toArray) b p (fun i => byt (C i) 0 (y i).s) G) := HM5.out.keep (setRow_other w5 T b _ (Ne.symm hbT))
    generalize w5.setRow T (rc (trL (byt (C i) 0 (y i).s) zz) (trG (G i) B (76 - B))).toArray = w6 at *
    clear HS5 HT5 HM5
    have hi2 : (i : Int) < 2 := by omega
    have hs46 := s46l (trL (byt (C i) 0 (y i).s) zz) (trG (G i) B (76 - B))
    have HR6 : Hid (w6.drew.rangeAt T 0 (rc (trL (byt (C i) 0 (y i).s) zz) (trG (G i) B (76 - B)))) := fun k v hv => by
      rw [Nat.zero_add, cell_of_row w6.drew T k _ 46 _ HT6.out, List.getElem?_toArray]; exact hv
    have HTH : Hid (w6.drew.there b (3 + i * 77) (rc (trL (byt (C i) 0 (y i).s) zz) (trG (G i) B (76 - B))).toArray.size) := by have := HM6.out.there hi (trL (byt (C i) 0 (y i).s) zz) (trG (G i) B (76 - B)); rw [Nat.mul_comm] at this; exact this
    have HM7 : Hid (GM (w6.drew.setCells b (3 + i * 77) (rc (trL (byt (C i) 0 (y i).s) zz) (trG (G i) B (76 - B))).toArray.toList) b p (fun j => byt (setf C i (cutC (C i) zz) j) 0 (setf y i y' j).s) (setf G i (trG (G i) B (76 - B)))) := by
      have h7 := GM.store (w := w6.drew) HM6.out hi (trL (byt (C i) 0 (y i).s) zz) (trG (G i) B (76 - B))
      rw [Nat.mul_comm] at h7
      show GM _ _ _ _ _
      rw [← setf_byt, ← HLB.out]
      exact h7
    have hcg : Chg [b] w6.drew (w6.drew.setCells b (3 + i * 77) (rc (trL (byt (C i) 0 (y i).s) zz) (trG (G i) B (76 - B))).toArray.toList) := (Chg.refl _ _).setCells (.inl (by simp)) _ _
    have HS7 := Lib.hid (side_ (HS6.out.below (w' := w6.drew) (Below.refl _ _).drew) hcg HP.out)
    have HR7 : Hid ((w6.drew.setCells b (3 + i * 77) (rc (trL (byt (C i) 0 (y i).s) zz) (trG (G i) B (76 - B))).toArray.toList).rangeAt T 0 (rc (trL (byt (C i) 0 (y i).s) zz) (trG (G i) B (76 - B)))) := World.rangeAt_setCells_apart HR6.out _ _ _ (.inl hbT)
    clear hcg HS6 HM6 HT6
    go_wp2_with fail
    refine wp_region_noPanic ?_
    refine wp_region_held_drew (S := fun W => W.rangeAt T 0 (rc (trL (byt (C i) 0 (y i).s) zz) (trG (G i) B (76 - B)))) (by kernel_rfl) HR6.out (fun hHeld => ?_)
    refine wpAnyH_take (i := 0) (oi := { dst := some 198, op := Op.move (Operand.tmp 0), type := 23, pos := "law.go:148", after := #[], guard := none }) (v := ?_) rfl (by kernel_rfl) (by kernel_rfl) (by kernel_rfl) (fun _ _ _ h => h) (Or.inl ⟨by rfl, ?_⟩) (by assumption) ?_
    rotate_left
    · intro w hSw; (try dsimp only at hSw); go_simp <;> with_reducible rfl
    try simp only [Act.put, List.setIfInBounds_toArray, List.set_cons_zero, List.set_cons_succ]
    refine wpAnyH_take (i := 1) (oi := { dst := some 199, op := Op.move (Operand.tmp 7), type := 3, pos := "law.go:148", after := #[], guard := none }) (v := ?_) rfl (by kernel_rfl) (by kernel_rfl) (by kernel_rfl) (fun _ _ _ h => h) (Or.inl ⟨by rfl, ?_⟩) (by assumption) ?_
    rotate_left
    · intro w hSw; (try dsimp only at hSw); go_simp <;> with_reducible rfl
    try simp only [Act.put, List.setIfInBounds_toArray, List.set_cons_zero, List.set_cons_succ]
    refine wpAnyH_take (i := 2) (oi := { dst := some 200, op := Op.load 46 (Operand.tmp 11), type := 46, pos := "law.go:148", after := #[], guard := none }) (v := .agg (rc (trL (byt (C i) 0 (y i).s) zz) (trG (G i) B (76 - B))).toArray) rfl (by kernel_rfl) (by kernel_rfl) (by kernel_rfl) (fun _ _ _ h => h) (yieldsIf_load_mid (by rfl) 46 _ rfl T (0) rfl (rc (trL (byt (C i) 0 (y i).s) zz) (trG (G i) B (76 - B))) _ (fun w hw => hw) Tryz.underlying46 rfl hs46) (by assumption) ?_
    try simp only [Act.put, List.setIfInBounds_toArray, List.set_cons_zero, List.set_cons_succ]
    refine wpAnyH_take (i := 3) (oi := { dst := some 201, op := Op.nilCheck (Operand.tmp 198), type := 0, pos := "law.go:148", after := #[{ on := 0, ground := Ground.data }], guard := none }) (v := ?_) rfl (by kernel_rfl) (by kernel_rfl) (by kernel_rfl) (fun _ _ _ h => h) (Or.inl ⟨by rfl, ?_⟩) (by assumption) ?_
    rotate_left
    · intro w hSw; (try dsimp only at hSw); go_simp <;> with_reducible rfl
    try simp only [Act.put, List.setIfInBounds_toArray, List.set_cons_zero, List.set_cons_succ]
    refine wpAnyH_take (i := 4) (oi := { dst := some 202, op := Op.fieldAddr 67 (Operand.tmp 201) 2, type := 0, pos := "law.go:148", after := #[{ on := 3, ground := Ground.data }], guard := none }) (v := ?_) rfl (by kernel_rfl) (by kernel_rfl) (by kernel_rfl) (fun _ _ _ h => h) (Or.inl ⟨by rfl, ?_⟩) (by assumption) ?_
    rotate_left
    · intro w hSw; (try dsimp only at hSw); go_simp <;> with_reducible rfl
    try simp only [Act.put, List.setIfInBounds_toArray, List.set_cons_zero, List.set_cons_succ]
    refine wpAnyH_take (i := 5) (oi := { dst := some 203, op := Op.indexAddr 65 (Operand.tmp 202) (Operand.tmp 199), type := 0, pos := "law.go:148", after := #[{ on := 4, ground := Ground.data }, { on := 1, ground := Ground.data }, { on := 0, ground := Ground.phase }, { on := 1, ground := Ground.phase }, { on := 2, ground := Ground.phase }], guard := none }) (v := ?_) rfl (by kernel_rfl) (by kernel_rfl) (by kernel_rfl) (fun _ _ _ h => h) (Or.inl ⟨by rfl, ?_⟩) (by assumption) ?_
    rotate_left
    · intro w hSw; (try dsimp only at hSw); go_simp <;> with_reducible rfl
    try simp only [Act.put, List.setIfInBounds_toArray, List.set_cons_zero, List.set_cons_succ]
    refine wpAnyH_ready (rs := [6]) (by kernel_rfl) (by simp) ?_
    refine AllReadyH.cons (o := { dst := none, op := Op.store 46 (Operand.tmp 203) (Operand.tmp 200), type := 0, pos := "law.go:148", after := #[{ on := 5, ground := Ground.data }, { on := 2, ground := Ground.data }, { on := 0, ground := Ground.phase }, { on := 1, ground := Ground.phase }, { on := 2, ground := Ground.phase }], guard := none }) rfl (fun K hK => ?_) AllReadyH.nil
    rw [if_pos (by rfl)]
    refine wp_store_mid 46 _ _ rfl b (3 + i * 77) (rc (trL (byt (C i) 0 (y i).s) zz) (trG (G i) B (76 - B))).toArray rfl rfl HTH.out (s46 _ _) (all_oneCell_toArray (rc_one _ _)) ?_
    simp only [Act.put]
    refine hK.out _ _ HR7.out (fun hHeld => ?_)
    clear hK K
    refine wpAnyH_done (by kernel_rfl) ?_ _
    refine NoPanic.normal ?_
    generalize w6.drew.setCells b (3 + i * 77) (rc (trL (byt (C i) 0 (y i).s) zz) (trG (G i) B (76 - B))).toArray.toList = w7 at *
    have c7 := HM7.out.c0
    go_wp2_with fail
    refine (commit_view HS7.out).mono ?_
    rintro e w8 ⟨rfl, O8, s8, X8, h8, hv8, hc8, ho8⟩
    have HM8 : Hid (GM w8 b p (fun j => byt (setf C i (cutC (C i) zz) j) 0 (setf y i y' j).s) (setf G i (trG (G i) B (76 - B)))) := HM7.out.keep (hc8.block b HM7.out.lt (by simp; exact ⟨HP.out.2.2.1, HP.out.1⟩))
    have HF8 : Hid (Fls N (view X8 []) (setf y i y') (setf f i (cutF B (f i))) (setf C i (cutC (C i) zz)) (setf G i (trG (G i) B (76 - B)))) := by show Fls _ _ _ _ _ _; rw [hv8]; exact HF4.out
    have HE : Hid (PInv w0 w8 b p d q N) := ⟨O8, s8, X8, _, _, _, _, h8, HF8.out, HM8.out, fun hm => (ho8 _ hm).elim HP.out.1 fun h => by have := HM7.out.lt; omega, HP.out.2⟩
    clear h8 hv8 hc8 ho8 HM8 HF8 HM7 HS7 HF4
    go_wp2_with fail
    go_ret
    exact ⟨rfl, HE.out⟩
end Go.Proofs.YtijbgdihnjnllaaGreat.V
namespace Go.Proofs.YtijbgdihnjnllaaGreat.V
open Go.RowKit
set_option linter.unusedVariables false
set_option maxRecDepth 20000
/-- It counts what the file has. -/
theorem sct_path {f : Nat → Nat} {g : Nat → Bool} (h : ∀ b i, b < 76 → f (ixb b) ≠ 0 → i ∈ path b → f i ≠ 0) (hmin : ∀ p, isPx p → f p ≠ 0 → ∃ j, j < 8 ∧ f (kid p j) ≠ 0) (hg : ∀ b, b < 76 → (g b = true ↔ f (ixb b) ≠ 0)) : sct g = nzn f := by
  have hlen : nzn f = (((List.range 76).filter g).map ixb ++ (((List.range 8).filter (twoF g 76)).map (14 + ·) ++ ((if oneF g 76 then [4] else []) ++ (if anyT (twoF g 76) 8 then [5] else [])))).length := by
    refine nzn_perm ?_ fun i => ?_
    · rw [List.nodup_append, List.nodup_append, List.nodup_append]
      refine ⟨?_, ⟨?_, ⟨?_, ?_, ?_⟩, ?_⟩, ?_⟩
      · exact List.pairwise_map.2 (List.Pairwise.imp (fun hne e => hne (ixb_inj e)) (List.nodup_range.filter _))
      · exact List.pairwise_map.2 (List.Pairwise.imp (fun hne e => hne (by omega)) (List.nodup_range.filter _))
      · split <;> simp
      · split <;> simp
      · intro a ha b hb e
        split at ha <;> split at hb <;> simp_all
      · intro a ha b hb e
        obtain ⟨j, hj, rfl⟩ := List.mem_map.1 ha
        rcases List.mem_append.1 hb with hb | hb
        · split at hb <;> simp at hb; omega
        · split at hb <;> simp at hb; omega
      · intro a ha b hb e
        obtain ⟨k, hk, rfl⟩ := List.mem_map.1 ha
        have hk76 := List.mem_range.1 (List.mem_filter.1 hk).1
        have hpx := ixb_px hk76
        subst e
        apply hpx
        rcases List.mem_append.1 hb with hb | hb
        · obtain ⟨j, hj, e⟩ := List.mem_map.1 hb
          have := List.mem_range.1 (List.mem_filter.1 hj).1
          rw [← e]; unfold isPx; omega
        · rcases List.mem_append.1 hb with hb | hb
          · split at hb <;> simp at hb; rw [hb]; exact .inl rfl
          · split at hb <;> simp at hb; rw [hb]; exact .inr (.inl rfl)
    · rw [List.mem_append, List.mem_append, List.mem_append, List.mem_map, List.mem_map]
      have hsub : ∀ j, j < 8 → (f (14 + j) ≠ 0 ↔ twoF g 76 j = true) := fun j hj => by
        obtain ⟨q1, q2, q3, q4⟩ := px14 hj
        rw [two_iff]
        constructor
        · intro h0
          obtain ⟨j2, hj2, hn⟩ := hmin (14 + j) (by rw [← q4]; exact q1) h0
          obtain ⟨r1, r2⟩ := kid_bix q1 q2 hj2
          rw [if_neg q3, q4] at r2
          rw [q4] at r1
          have e := ixb_bix (kid_lt (q4 ▸ q1) hj2).2 r1
          rw [r2] at e
          exact ⟨12 + 8 * (14 + j - 14) + j2, by omega, e.2, by omega, (hg _ e.2).2 (by rw [e.1]; exact hn)⟩
        · rintro ⟨b, h1, h2, h3, h4⟩
          exact h _ _ h2 ((hg b h2).1 h4) (by unfold path; rw [if_neg (by omega), if_neg (by omega), h3]; simp)
      constructor
      · rintro ⟨hi, h0⟩
        by_cases hp : isPx i
        · rcases hp with rfl | rfl | ⟨h1, h2⟩
          · right; right; left
            obtain ⟨j, hj, hn⟩ := hmin 4 (.inl rfl) h0
            rw [kid4] at hn
            have : oneF g 76 = true := one_iff.2 ⟨4 + j, by omega, by omega, (hg (4 + j) (by omega)).2 (by unfold ixb; rw [if_neg (by omega), if_pos (by omega), show 4 + j + 2 = 6 + j by omega]; exact hn)⟩
            rw [if_pos this]; simp
          · right; right; right
            obtain ⟨j, hj, hn⟩ := hmin 5 (.inr (.inl rfl)) h0
            rw [kid5] at hn
            have : anyT (twoF g 76) 8 = true := anyT_iff.2 ⟨j, hj, (hsub j hj).1 hn⟩
            rw [if_pos this]; simp
          · right; left
            exact ⟨i - 14, List.mem_filter.2 ⟨List.mem_range.2 (by omega), (hsub (i - 14) (by omega)).1 (by rw [show 14 + (i - 14) = i by omega]; exact h0)⟩, by omega⟩
        · left
          obtain ⟨e1, e2⟩ := ixb_bix hi hp
          exact ⟨bix i, List.mem_filter.2 ⟨List.mem_range.2 e2, (hg _ e2).2 (by rw [e1]; exact h0)⟩, e1⟩
      · rintro (⟨b, hb, rfl⟩ | ⟨j, hj, rfl⟩ | hb | hb)
        · obtain ⟨h1, h2⟩ := List.mem_filter.1 hb
          have h1 := List.mem_range.1 h1
          exact ⟨ixb_lt h1, (hg b h1).1 h2⟩
        · obtain ⟨h1, h2⟩ := List.mem_filter.1 hj
          have h1 := List.mem_range.1 h1
          exact ⟨by show 14 + j < 86; omega, (hsub j h1).2 h2⟩
        · split at hb <;> simp at hb
          rename_i ho
          obtain ⟨b, h1, h2, h3⟩ := one_iff.1 ho
          rw [hb]
          exact ⟨by omega, h b _ (by omega) ((hg b (by omega)).1 h3) (by unfold path; rw [if_neg (by omega), if_pos (by omega)]; simp)⟩
        · split at hb <;> simp at hb
          rename_i ho
          obtain ⟨j, hj, h3⟩ := anyT_iff.1 ho
          obtain ⟨b, h1, h2, _, h4⟩ := two_iff.1 h3
          rw [hb]
          exact ⟨by omega, h _ _ h2 ((hg b h2).1 h4) (by unfold path; rw [if_neg (by omega), if_neg (by omega)]; simp)⟩
  rw [hlen]
  unfold sct cb ct
  simp only [List.length_append, List.length_map]
  split <;> split <;> simp <;> omega
open Classical in
/-- The places that a Write would have. -/
noncomputable def fW (f : Nat → Nat) (a n : Nat) : Nat → Nat := fun i => if f i ≠ 0 ∨ ∃ b, Tch a n b ∧ i ∈ path b then 1 else 0
theorem fW_nz (f : Nat → Nat) (a n i : Nat) : fW f a n i ≠ 0 ↔ f i ≠ 0 ∨ ∃ b, Tch a n b ∧ i ∈ path b := by
  unfold fW
  split
  · rename_i h; exact ⟨fun _ => h, fun _ => by omega⟩
  · rename_i h; exact ⟨fun h0 => absurd rfl h0, fun h0 => absurd h0 h⟩
theorem fW_sct {N : Nat} {G : Nat → Prop} {V : Img} {y : D.Nn} {f : Nat → Nat} {g : Nat → Bool} {a n : Nat} (h : Mid N G V y f) (hmin : ∀ p, isPx p → f p ≠ 0 → ∃ j, j < 8 ∧ f (kid p j) ≠ 0) (hg : ∀ b, b < 76 → (g b = true ↔ f (ixb b) ≠ 0)) (hn : 0 < n) :
    sct (wrG g a n ((a + n - 1) / 128 + 1 - a / 128)) = nzn (fW f a n) := by
  refine sct_path (fun b i hb h0 hi => ?_) (fun p hp h0 => ?_) (wrG_bl hn hg (fW_nz f a n))
  · rw [fW_nz] at h0 ⊢
    rcases h0 with h0 | ⟨b', ht, hb'⟩
    · exact .inl (path_nz h hb h0 hi)
    · obtain rfl := ixb_path hb ht.1 hb'
      exact .inr ⟨b, ht, hi⟩
  · rw [fW_nz] at h0
    rcases h0 with h0 | ⟨b', ht, hb'⟩
    · obtain ⟨j, hj, hn⟩ := hmin p hp h0
      exact ⟨j, hj, (fW_nz f a n _).2 (.inl hn)⟩
    · obtain ⟨j, hj, hn⟩ := path_px ht.1 hp hb'
      exact ⟨j, hj, (fW_nz f a n _).2 (.inr ⟨b', ht, hn⟩)⟩
/-- There are too few. -/
theorem too_few {w0 w' : World} {p d N q bf nn a n : Nat} {O : List Nat} {s : DS} {X : Secs2} {m : List Wr} {gs : List Nat} {V : Img} {y : D.Nn} {f : Nat → Nat} {low : List Int} {Tx : List Nat} {g : Nat → Bool} {G : Nat → Prop} (h : FNo w0 w' p d N q bf nn O s X m (GL gs) f low Tx a n) (hgs : gs.Nodup) (hm : Mid N G V y f)
    (hmin : ∀ p, isPx p → f p ≠ 0 → ∃ j, j < 8 ∧ f (kid p j) ≠ 0) (hg : ∀ b, b < 76 → (g b = true ↔ f (ixb b) ≠ 0)) (hn : 0 < n) (han : a + n ≤ 9728) (h43 : 64 ≤ N) : nzn f + (N - 43 - (nzn f + gs.length)) < sct (wrG g a n ((a + n - 1) / 128 + 1 - a / 128)) ∧ sct g = nzn f := by
  obtain ⟨fk, h1, h2, ⟨j, hj, i, hi, h0⟩, h4⟩ := h.full hgs
  have hb := nb_in hj
  have htch : Tch a n (nb a j) := ⟨(part hj han).b76, by omega, by omega⟩
  have hlt : nzn fk < nzn (fW f a n) := nzn_lt (fun k hk => (fW_nz f a n k).2 ((h2 k hk).imp id fun ⟨j', hj', hi'⟩ => by
    have hb' := nb_in hj'
    exact ⟨nb a j', ⟨(part hj' han).b76, by omega, by omega⟩, hi'⟩)) (path_lt htch.1 hi) h0 ((fW_nz f a n i).2 (.inr ⟨nb a j, htch, hi⟩))
  have hle : nzn f ≤ nzn fk := by
    have := nzn_le (T := []) (f := fk) (g := f) fun k hk => .inl (by rw [h1 k hk]; exact hk)
    simpa using this
  rw [fW_sct hm hmin hg hn]
  exact ⟨by omega, sct_nzn hm hmin hg⟩
theorem rcz (l l' : List UInt8) (g g' : Nat → Bool) : (rc l g).toArray.size = (rc l' g').toArray.size := by rw [List.size_toArray, List.size_toArray, rc_len, rc_len]
theorem setf_self {α : Type} (f : Nat → α) (i : Nat) : setf f i (f i) = f := by
  funext k; unfold setf; split
  · rename_i h; rw [h]
  · rfl
end Go.Proofs.YtijbgdihnjnllaaGreat.V
