/- 'play', walked: a Write that is too large, or of no byte. -/
import Derived.Test.YtijbgdihnjnllaaGreatVPlayR
namespace Go.Proofs.YtijbgdihnjnllaaGreat.V
open Go.RowKit
set_option linter.unusedVariables false
set_option maxRecDepth 20000
set_option maxHeartbeats 4000000 in
theorem play_large {w0 w : World} {b p d q N : Nat} {x1 x2 x3 : Int} {A : Option Addr} {n c : Nat} {xs : List UInt8} (h : PInv w0 w b p d q N) (hx : I64 x1) (hB : F.Bts w0 w0.heap.size A n c xs) (hlen : n ≤ 600) (q1 : 0 ≤ x2) (q2 : 9728 - (n : Int) < x2) (q3 : 0 < n) :
    Calls Tryz.prog 10 #[.pointer (some ⟨b, 0, none⟩), .agg #[.int .i64 0, .int .i64 x1, .int .i64 x2, .int .i64 x3, .slice A n c], .int .i64 (N : Int)] w fun e w' => e = .returned (.bool true) ∧ PInv w0 w' b p d q N := by
  have HD := Lib.hid hB
  have hnl := hB.len
  clear hB
  obtain ⟨O, s, X, y, f, C, G, hs, hf, hm, hp⟩ := h
  obtain ⟨i, hi, hand⟩ := and_one x1
  obtain ⟨nd, hnd⟩ : ∃ nd : Int, ((2 + i : Nat) : Int) = nd := ⟨_, rfl⟩
  have HS := Lib.hid hs
  have HF := Lib.hid hf
  have HM := Lib.hid hm
  have HP := Lib.hid hp
  clear hs hf hm hp hx
  go_enter Tryz.func10, Tryz.ntmps10
  go_upto_region 1 with fail
  obtain ⟨a0, a1, a2⟩ := D.box1 w (Obj.cells #[.int .i64 0, .int .i64 x1, .int .i64 x2, .int .i64 x3, .slice A n c] 29)
  have HM1 : Hid (GM (w.alloc (Obj.cells #[.int .i64 0, .int .i64 x1, .int .i64 x2, .int .i64 x3, .slice A n c] 29)) b p (fun i => byt (C i) 0 (y i).s) G) := HM.out.keep (a1.block b HM.out.lt)
  have HS1 := Lib.hid (HS.out.below a1)
  have HXB := Lib.hid a0
  have HBl := Lib.hid a1
  generalize w.alloc (Obj.cells #[.int .i64 0, .int .i64 x1, .int .i64 x2, .int .i64 x3, .slice A n c] 29) = w1 at *
  have c0 := HM1.out.c0
  have c1 := HM1.out.cn hi
  rw [hnd] at c1
  have HNE := Lib.hid hnd
  have e0 : w1.cell? ⟨w.heap.size, 0, none⟩ = some (.int .i64 0) := (cell_of_row w1 w.heap.size 0 _ 29 _ HXB.out).trans rfl
  have e1 : w1.cell? ⟨w.heap.size, 1, none⟩ = some (.int .i64 x1) := (cell_of_row w1 w.heap.size 1 _ 29 _ HXB.out).trans rfl
  have hbx : w.heap.size < w1.heap.size := (Array.getElem?_eq_some_iff.1 HXB.out).1
  have HRG : Hid (w1.rangeAt b (3 + i * 77) (rc (byt (C i) 0 (y i).s) (G i))) := by have := HM1.out.range hi; rw [Nat.mul_comm] at this; exact this
  clear a0 a1 a2 hnd
  go_upto_region 5 with (first | (refine wpList_load_mid rfl 46 _ rfl b (3 + i * 77) rfl (rc (byt (C i) 0 (y i).s) (G i)) _ HRG.out Tryz.underlying46 rfl (s46l _ _) ?_) | (refine D.wpList_store_new rfl 46 _ _ rfl w1 Tryz.zeroCells46 (rc (byt (C i) 0 (y i).s) (G i)).toArray rfl rfl (s46 _ _) (z46z' _ _) (all_oneCell_toArray (rc_one _ _)) ?_) | fail)
  obtain ⟨b0, b1, b2⟩ := D.box1 w1 (Obj.cells (rc (byt (C i) 0 (y i).s) (G i)).toArray 46)
  have HS2 := Lib.hid (HS1.out.below b1)
  have HM2 : Hid (GM (w1.alloc (Obj.cells (rc (byt (C i) 0 (y i).s) (G i)).toArray 46)) b p (fun i => byt (C i) 0 (y i).s) G) := HM1.out.keep (b1.block b HM1.out.lt)
  have HXB2 : Hid ((w1.alloc (Obj.cells (rc (byt (C i) 0 (y i).s) (G i)).toArray 46)).heap[w.heap.size]? = some (Obj.cells #[.int .i64 0, .int .i64 x1, .int .i64 x2, .int .i64 x3, .slice A n c] 29)) := (b1.block _ hbx).trans HXB.out
  have HT2 : Hid (RF (w1.alloc (Obj.cells (rc (byt (C i) 0 (y i).s) (G i)).toArray 46)) w1.heap.size (byt (C i) 0 (y i).s) (G i)) := b0
  have hbT : w1.heap.size ≠ b := by have := HM1.out.lt; omega
  generalize w1.alloc (Obj.cells (rc (byt (C i) 0 (y i).s) (G i)).toArray 46) = w2 at *
  have f0 : w2.cell? ⟨w.heap.size, 0, none⟩ = some (.int .i64 0) := (cell_of_row w2 w.heap.size 0 _ 29 _ HXB2.out).trans rfl
  have HC : Hid (∀ W, Below w2.heap.size w2 W → W.cell? ⟨b, 0, none⟩ = some (.pointer (some ⟨p, 0, none⟩)) ∧ W.cell? ⟨w.heap.size, 2, none⟩ = some (.int .i64 x2) ∧ W.cell? ⟨w.heap.size, 4, none⟩ = some (.slice A n c)) := fun W hW => ⟨(HM2.out.keep (hW.block b HM2.out.lt)).c0,
    (cell_of_row W w.heap.size 2 _ 29 _ ((hW.block _ (Array.getElem?_eq_some_iff.1 HXB2.out).1).trans HXB2.out)).trans rfl, (cell_of_row W w.heap.size 4 _ 29 _ ((hW.block _ (Array.getElem?_eq_some_iff.1 HXB2.out).1).trans HXB2.out)).trans rfl⟩
  have HPT := Lib.hid (newer HS1.out (Nat.le_refl w1.heap.size))
  have HPX := Lib.hid (newer HS.out (Nat.le_refl w.heap.size))
  have HQT : Hid (w1.heap.size ≠ q) := HPT.out.2.2.1
  have HQX : Hid (w.heap.size ≠ q) := HPX.out.2.2.1
  have hbXT : w.heap.size ≠ w1.heap.size := by omega
  generalize w1.heap.size = T at *
  clear b0 b1 b2 e0 e1 c0 c1 hand HM1 HS1 HXB HRG HBl HM hbx
  have HW0 : Hid (Below w2.heap.size w2 w2.drew) := (Below.refl _ _).drew
  have HEN : Hid (∀ w', Below w2.heap.size w2 w' → PInv w0 w' b p d q N) := fun w' hb => ⟨O, s, X, y, f, C, G, HS2.out.below hb, HF.out, HM2.out.keep (hb.block b HM2.out.lt), HP.out⟩
  have hlx : ¬ 600 < n := by omega
  have q0 : ¬ x2 < 0 := by omega
  have hn1 : 0 < n := by omega
  have hwr := write_large ((HF.out.fl i hi).open_ (HS2.out.below HW0.out) (by omega)) (a := x2) (l := n) (by omega) (by omega) (by omega) (by omega) A c
  rw [HNE.out] at hwr
  have HWR := Lib.hid hwr
  clear hwr
  obtain ⟨_, p2, p4⟩ := HC.out _ (Below.refl _ _)
  go_wp2_with fail
  go_region_held3 (fun W => W.cell? ⟨b, 0, none⟩ = some (.pointer (some ⟨p, 0, none⟩)) ∧ W.cell? ⟨w.heap.size, 2, none⟩ = some (.int .i64 x2) ∧ W.cell? ⟨w.heap.size, 4, none⟩ = some (.slice A n c)) (first | with_reducible exact HC.out _ HW0.out | with_reducible exact HC.out _ HW3.out)
    (first
    | (go_at_call 16; (with_reducible refine HWR.out.mono ?_); rintro e w3 ⟨rfl, hb3⟩; have HW3 := Lib.hid (HW0.out.trans (hb3.mono HW0.out.size)); clear hb3))
  obtain ⟨g0, g2, g4⟩ := HC.out _ HW3.out
  have HS3 := Lib.hid (HS2.out.below HW3.out)
  have HM3 : Hid (GM w3 b p (fun i => byt (C i) 0 (y i).s) G) := HM2.out.keep (HW3.out.block b HM2.out.lt)
  have HX3 : Hid (w3.heap[w.heap.size]? = some (Obj.cells #[.int .i64 0, .int .i64 x1, .int .i64 x2, .int .i64 x3, .slice A n c] 29)) := (HW3.out.block w.heap.size (Array.getElem?_eq_some_iff.1 HXB2.out).1).trans HXB2.out
  have HT3 : Hid (RF w3 T (byt (C i) 0 (y i).s) (G i)) := HT2.out.keep (HW3.out.block T HT2.out.lt)
  have hcv : (convert 27 9 (.slice A n c)).run Tryz.prog w3 = .ok (.string (sb xs)) w3 := (HD.out.below HS3.out.ons.sit.bel).str w3 fun _ _ => rfl
  clear HEN HC HW0 HW3 HWR HS2 HM2 HXB2 HT2 p2 p4
  have HRW : Hid (∀ W, Calls Tryz.prog 18 #[.agg (rc (byt (C i) 0 (y i).s) (G i)).toArray, .int .i64 x2, .string (sb xs)] W fun e w' => e = .returned (.tuple #[.agg (rc (byt (C i) 0 (y i).s) (G i)).toArray, .bool false]) ∧ Below W.heap.size W w') := fun W => rfWrite_no (byt (C i) 0 (y i).s) xs (G i) x2 W (by rw [hnl]; omega) (by omega)
  go_wp2_with (first | (refine D.wpList_load_row rfl 46 _ rfl T rfl _ _ _ HT3.out _ Tryz.underlying46 rfl (s46 _ _) ?_) | fail)
  refine (HRW.out w3).mono ?_
  rintro e w4 ⟨rfl, hb4⟩
  go_upto_region 15 with (first | (refine D.wpList_store_new rfl 46 _ _ rfl w4 Tryz.zeroCells46 (rc (byt (C i) 0 (y i).s) (G i)).toArray rfl rfl (s46 _ _) (z46z' _ _) (all_oneCell_toArray (rc_one _ _)) ?_) | fail)
  obtain ⟨d0, d1, d2⟩ := D.box1 w4 (Obj.cells (rc (byt (C i) 0 (y i).s) (G i)).toArray 46)
  have hbb := hb4.trans (d1.mono hb4.size)
  have HS5 := Lib.hid (HS3.out.below hbb)
  have HM5 : Hid (GM (w4.alloc (Obj.cells (rc (byt (C i) 0 (y i).s) (G i)).toArray 46)) b p (fun i => byt (C i) 0 (y i).s) G) := HM3.out.keep (hbb.block b HM3.out.lt)
  have HT5 : Hid (RF (w4.alloc (Obj.cells (rc (byt (C i) 0 (y i).s) (G i)).toArray 46)) T (byt (C i) 0 (y i).s) (G i)) := HT3.out.keep (hbb.block T HT3.out.lt)
  have HX5 : Hid ((w4.alloc (Obj.cells (rc (byt (C i) 0 (y i).s) (G i)).toArray 46)).heap[w.heap.size]? = some (Obj.cells #[.int .i64 0, .int .i64 x1, .int .i64 x2, .int .i64 x3, .slice A n c] 29)) := (hbb.block w.heap.size (Array.getElem?_eq_some_iff.1 HX3.out).1).trans HX3.out
  have HN5 : Hid (RF (w4.alloc (Obj.cells (rc (byt (C i) 0 (y i).s) (G i)).toArray 46)) w4.heap.size (byt (C i) 0 (y i).s) (G i)) := d0
  generalize w4.alloc (Obj.cells (rc (byt (C i) 0 (y i).s) (G i)).toArray 46) = w5 at *
  clear hb4 d0 d1 d2 hbb HS3 HM3 HT3 HX3 HRW hcv g0 g2 g4
  go_upto_region 16 with (first | (refine D.wpList_load_row rfl 46 _ rfl w4.heap.size rfl _ _ _ HN5.out _ Tryz.underlying46 rfl (s46 _ _) ?_) | (refine D.wpList_store_row rfl 46 _ _ rfl T _ (rc (byt (C i) 0 (y i).s) (G i)).toArray 46 rfl rfl HT5.out (s46 _ _) (rcz _ _ _ _) (all_oneCell_toArray (rc_one _ _)) ?_) | fail)
  have HS6 := Lib.hid (side_ HS5.out (chg_setRow w5 T (rc (byt (C i) 0 (y i).s) (G i)).toArray) HPT.out)
  have HT6 : Hid (RF (w5.setRow T (rc (byt (C i) 0 (y i).s) (G i)).toArray) T (byt (C i) 0 (y i).s) (G i)) := D.setRow_in _ _ _ _ _ HT5.out
  have HM6 : Hid (GM (w5.setRow T (rc (byt (C i) 0 (y i).s) (G i)).toArray) b p (fun i => byt (C i) 0 (y i).s) G) := HM5.out.keep (setRow_other w5 T b _ (Ne.symm hbT))
  have HX6 : Hid ((w5.setRow T (rc (byt (C i) 0 (y i).s) (G i)).toArray).heap[w.heap.size]? = some (Obj.cells #[.int .i64 0, .int .i64 x1, .int .i64 x2, .int .i64 x3, .slice A n c] 29)) := (setRow_other w5 T w.heap.size _ hbXT).trans HX5.out
  generalize w5.setRow T (rc (byt (C i) 0 (y i).s) (G i)).toArray = w6 at *
  have c6 := HM6.out.c0
  have v2 : w6.cell? ⟨w.heap.size, 2, none⟩ = some (.int .i64 x2) := (cell_of_row w6 w.heap.size 2 _ 29 _ HX6.out).trans rfl
  have v4 : w6.cell? ⟨w.heap.size, 4, none⟩ = some (.slice A n c) := (cell_of_row w6 w.heap.size 4 _ 29 _ HX6.out).trans rfl
  clear HS5 HM5 HT5 HX5 HN5
  go_wp2_with fail
  refine (drop_any HS6.out).mono ?_
  rintro e w9 ⟨rfl, hs9, hc9⟩
  have HE : Hid (PInv w0 w9 b p d q N) := ⟨O, s, X, y, f, C, G, hs9, HF.out, HM6.out.keep (hc9.block b HM6.out.lt (by simp; exact HP.out.2.2.1)), HP.out⟩
  clear hs9 hc9
  go_wp2_with fail
  go_ret
  exact ⟨rfl, HE.out⟩
set_option maxHeartbeats 16000000 in
theorem play_nil_no {w0 w : World} {b p d q N : Nat} {x1 x2 x3 : Int} {A : Option Addr} {n c : Nat} {xs : List UInt8} (h : PInv w0 w b p d q N) (hx : I64 x1) (hB : F.Bts w0 w0.heap.size A n c xs) (hlen : n ≤ 600) (hn0 : n = 0) (q1 : 0 ≤ x2) (q2 : 9728 < x2) :
    Calls Tryz.prog 10 #[.pointer (some ⟨b, 0, none⟩), .agg #[.int .i64 0, .int .i64 x1, .int .i64 x2, .int .i64 x3, .slice A n c], .int .i64 (N : Int)] w fun e w' => e = .returned (.bool true) ∧ PInv w0 w' b p d q N := by
  have HD := Lib.hid hB
  have hnl := hB.len
  clear hB
  subst hn0
  obtain ⟨O, s, X, y, f, C, G, hs, hf, hm, hp⟩ := h
  obtain ⟨i, hi, hand⟩ := and_one x1
  obtain ⟨nd, hnd⟩ : ∃ nd : Int, ((2 + i : Nat) : Int) = nd := ⟨_, rfl⟩
  have HS := Lib.hid hs
  have HF := Lib.hid hf
  have HM := Lib.hid hm
  have HP := Lib.hid hp
  clear hs hf hm hp hx
  go_enter Tryz.func10, Tryz.ntmps10
  go_upto_region 1 with fail
  obtain ⟨a0, a1, a2⟩ := D.box1 w (Obj.cells #[.int .i64 0, .int .i64 x1, .int .i64 x2, .int .i64 x3, .slice A 0 c] 29)
  have HM1 : Hid (GM (w.alloc (Obj.cells #[.int .i64 0, .int .i64 x1, .int .i64 x2, .int .i64 x3, .slice A 0 c] 29)) b p (fun i => byt (C i) 0 (y i).s) G) := HM.out.keep (a1.block b HM.out.lt)
  have HS1 := Lib.hid (HS.out.below a1)
  have HXB := Lib.hid a0
  have HBl := Lib.hid a1
  generalize w.alloc (Obj.cells #[.int .i64 0, .int .i64 x1, .int .i64 x2, .int .i64 x3, .slice A 0 c] 29) = w1 at *
  have c0 := HM1.out.c0
  have c1 := HM1.out.cn hi
  rw [hnd] at c1
  have HNE := Lib.hid hnd
  have e0 : w1.cell? ⟨w.heap.size, 0, none⟩ = some (.int .i64 0) := (cell_of_row w1 w.heap.size 0 _ 29 _ HXB.out).trans rfl
  have e1 : w1.cell? ⟨w.heap.size, 1, none⟩ = some (.int .i64 x1) := (cell_of_row w1 w.heap.size 1 _ 29 _ HXB.out).trans rfl
  have hbx : w.heap.size < w1.heap.size := (Array.getElem?_eq_some_iff.1 HXB.out).1
  have HRG : Hid (w1.rangeAt b (3 + i * 77) (rc (byt (C i) 0 (y i).s) (G i))) := by have := HM1.out.range hi; rw [Nat.mul_comm] at this; exact this
  clear a0 a1 a2 hnd
  go_upto_region 5 with (first | (refine wpList_load_mid rfl 46 _ rfl b (3 + i * 77) rfl (rc (byt (C i) 0 (y i).s) (G i)) _ HRG.out Tryz.underlying46 rfl (s46l _ _) ?_) | (refine D.wpList_store_new rfl 46 _ _ rfl w1 Tryz.zeroCells46 (rc (byt (C i) 0 (y i).s) (G i)).toArray rfl rfl (s46 _ _) (z46z' _ _) (all_oneCell_toArray (rc_one _ _)) ?_) | fail)
  obtain ⟨b0, b1, b2⟩ := D.box1 w1 (Obj.cells (rc (byt (C i) 0 (y i).s) (G i)).toArray 46)
  have HS2 := Lib.hid (HS1.out.below b1)
  have HM2 : Hid (GM (w1.alloc (Obj.cells (rc (byt (C i) 0 (y i).s) (G i)).toArray 46)) b p (fun i => byt (C i) 0 (y i).s) G) := HM1.out.keep (b1.block b HM1.out.lt)
  have HXB2 : Hid ((w1.alloc (Obj.cells (rc (byt (C i) 0 (y i).s) (G i)).toArray 46)).heap[w.heap.size]? = some (Obj.cells #[.int .i64 0, .int .i64 x1, .int .i64 x2, .int .i64 x3, .slice A 0 c] 29)) := (b1.block _ hbx).trans HXB.out
  have HT2 : Hid (RF (w1.alloc (Obj.cells (rc (byt (C i) 0 (y i).s) (G i)).toArray 46)) w1.heap.size (byt (C i) 0 (y i).s) (G i)) := b0
  have hbT : w1.heap.size ≠ b := by have := HM1.out.lt; omega
  generalize w1.alloc (Obj.cells (rc (byt (C i) 0 (y i).s) (G i)).toArray 46) = w2 at *
  have f0 : w2.cell? ⟨w.heap.size, 0, none⟩ = some (.int .i64 0) := (cell_of_row w2 w.heap.size 0 _ 29 _ HXB2.out).trans rfl
  have HC : Hid (∀ W, Below w2.heap.size w2 W → W.cell? ⟨b, 0, none⟩ = some (.pointer (some ⟨p, 0, none⟩)) ∧ W.cell? ⟨w.heap.size, 2, none⟩ = some (.int .i64 x2) ∧ W.cell? ⟨w.heap.size, 4, none⟩ = some (.slice A 0 c)) := fun W hW => ⟨(HM2.out.keep (hW.block b HM2.out.lt)).c0,
    (cell_of_row W w.heap.size 2 _ 29 _ ((hW.block _ (Array.getElem?_eq_some_iff.1 HXB2.out).1).trans HXB2.out)).trans rfl, (cell_of_row W w.heap.size 4 _ 29 _ ((hW.block _ (Array.getElem?_eq_some_iff.1 HXB2.out).1).trans HXB2.out)).trans rfl⟩
  have HPT := Lib.hid (newer HS1.out (Nat.le_refl w1.heap.size))
  have HPX := Lib.hid (newer HS.out (Nat.le_refl w.heap.size))
  have HQT : Hid (w1.heap.size ≠ q) := HPT.out.2.2.1
  have HQX : Hid (w.heap.size ≠ q) := HPX.out.2.2.1
  have hbXT : w.heap.size ≠ w1.heap.size := by omega
  generalize w1.heap.size = T at *
  clear b0 b1 b2 e0 e1 c0 c1 hand HM1 HS1 HXB HRG HBl HM hbx
  have HW0 : Hid (Below w2.heap.size w2 w2.drew) := (Below.refl _ _).drew
  have HEN : Hid (∀ w', Below w2.heap.size w2 w' → PInv w0 w' b p d q N) := fun w' hb => ⟨O, s, X, y, f, C, G, HS2.out.below hb, HF.out, HM2.out.keep (hb.block b HM2.out.lt), HP.out⟩
  have hlx : ¬ 600 < 0 := by omega
  have hxs : xs = [] := List.length_eq_zero_iff.1 hnl
  subst hxs
  have hwr := write_none ((HF.out.fl i hi).open_ (HS2.out.below HW0.out) (by omega)) (a := x2) q1 A c
  rw [HNE.out] at hwr
  have HWR := Lib.hid hwr
  clear hwr
  obtain ⟨_, p2, p4⟩ := HC.out _ (Below.refl _ _)
  go_wp2_with fail
  go_region_held3 (fun W => W.cell? ⟨b, 0, none⟩ = some (.pointer (some ⟨p, 0, none⟩)) ∧ W.cell? ⟨w.heap.size, 2, none⟩ = some (.int .i64 x2) ∧ W.cell? ⟨w.heap.size, 4, none⟩ = some (.slice A 0 c)) (first | with_reducible exact HC.out _ HW0.out | with_reducible exact HC.out _ HW3.out)
    (first
    | (go_at_call 16; (with_reducible refine HWR.out.mono ?_); rintro e w3 ⟨rfl, hb3⟩; have HW3 := Lib.hid (HW0.out.trans (hb3.mono HW0.out.size)); clear hb3))
  obtain ⟨g0, g2, g4⟩ := HC.out _ HW3.out
  have HS3 := Lib.hid (HS2.out.below HW3.out)
  have HM3 : Hid (GM w3 b p (fun i => byt (C i) 0 (y i).s) G) := HM2.out.keep (HW3.out.block b HM2.out.lt)
  have HX3 : Hid (w3.heap[w.heap.size]? = some (Obj.cells #[.int .i64 0, .int .i64 x1, .int .i64 x2, .int .i64 x3, .slice A 0 c] 29)) := (HW3.out.block w.heap.size (Array.getElem?_eq_some_iff.1 HXB2.out).1).trans HXB2.out
  have HT3 : Hid (RF w3 T (byt (C i) 0 (y i).s) (G i)) := HT2.out.keep (HW3.out.block T HT2.out.lt)
  have hcv : (convert 27 9 (.slice A 0 c)).run Tryz.prog w3 = .ok (.string (sb [])) w3 := (HD.out.below HS3.out.ons.sit.bel).str w3 fun _ _ => rfl
  clear HEN HC HW0 HW3 HWR HS2 HM2 HXB2 HT2 p2 p4
  have HRW : Hid (∀ W, Calls Tryz.prog 18 #[.agg (rc (byt (C i) 0 (y i).s) (G i)).toArray, .int .i64 x2, .string (sb [])] W fun e w' => e = .returned (.tuple #[.agg (rc (byt (C i) 0 (y i).s) (G i)).toArray, .bool false]) ∧ Below W.heap.size W w') := fun W => rfWrite_no (byt (C i) 0 (y i).s) [] (G i) x2 W (.inr (.inl q2)) (by simp)
  go_wp2_with (first | (refine D.wpList_load_row rfl 46 _ rfl T rfl _ _ _ HT3.out _ Tryz.underlying46 rfl (s46 _ _) ?_) | fail)
  refine (HRW.out w3).mono ?_
  rintro e w4 ⟨rfl, hb4⟩
  go_upto_region 15 with (first | (refine D.wpList_store_new rfl 46 _ _ rfl w4 Tryz.zeroCells46 (rc (byt (C i) 0 (y i).s) (G i)).toArray rfl rfl (s46 _ _) (z46z' _ _) (all_oneCell_toArray (rc_one _ _)) ?_) | fail)
  obtain ⟨d0, d1, d2⟩ := D.box1 w4 (Obj.cells (rc (byt (C i) 0 (y i).s) (G i)).toArray 46)
  have hbb := hb4.trans (d1.mono hb4.size)
  have HS5 := Lib.hid (HS3.out.below hbb)
  have HM5 : Hid (GM (w4.alloc (Obj.cells (rc (byt (C i) 0 (y i).s) (G i)).toArray 46)) b p (fun i => byt (C i) 0 (y i).s) G) := HM3.out.keep (hbb.block b HM3.out.lt)
  have HT5 : Hid (RF (w4.alloc (Obj.cells (rc (byt (C i) 0 (y i).s) (G i)).toArray 46)) T (byt (C i) 0 (y i).s) (G i)) := HT3.out.keep (hbb.block T HT3.out.lt)
  have HX5 : Hid ((w4.alloc (Obj.cells (rc (byt (C i) 0 (y i).s) (G i)).toArray 46)).heap[w.heap.size]? = some (Obj.cells #[.int .i64 0, .int .i64 x1, .int .i64 x2, .int .i64 x3, .slice A 0 c] 29)) := (hbb.block w.heap.size (Array.getElem?_eq_some_iff.1 HX3.out).1).trans HX3.out
  have HN5 : Hid (RF (w4.alloc (Obj.cells (rc (byt (C i) 0 (y i).s) (G i)).toArray 46)) w4.heap.size (byt (C i) 0 (y i).s) (G i)) := d0
  generalize w4.alloc (Obj.cells (rc (byt (C i) 0 (y i).s) (G i)).toArray 46) = w5 at *
  clear hb4 d0 d1 d2 hbb HS3 HM3 HT3 HX3 HRW hcv g0 g2 g4
  go_upto_region 16 with (first | (refine D.wpList_load_row rfl 46 _ rfl w4.heap.size rfl _ _ _ HN5.out _ Tryz.underlying46 rfl (s46 _ _) ?_) | (refine D.wpList_store_row rfl 46 _ _ rfl T _ (rc (byt (C i) 0 (y i).s) (G i)).toArray 46 rfl rfl HT5.out (s46 _ _) (rcz _ _ _ _) (all_oneCell_toArray (rc_one _ _)) ?_) | fail)
  have HS6 := Lib.hid (side_ HS5.out (chg_setRow w5 T (rc (byt (C i) 0 (y i).s) (G i)).toArray) HPT.out)
  have HT6 : Hid (RF (w5.setRow T (rc (byt (C i) 0 (y i).s) (G i)).toArray) T (byt (C i) 0 (y i).s) (G i)) := D.setRow_in _ _ _ _ _ HT5.out
  have HM6 : Hid (GM (w5.setRow T (rc (byt (C i) 0 (y i).s) (G i)).toArray) b p (fun i => byt (C i) 0 (y i).s) G) := HM5.out.keep (setRow_other w5 T b _ (Ne.symm hbT))
  have HX6 : Hid ((w5.setRow T (rc (byt (C i) 0 (y i).s) (G i)).toArray).heap[w.heap.size]? = some (Obj.cells #[.int .i64 0, .int .i64 x1, .int .i64 x2, .int .i64 x3, .slice A 0 c] 29)) := (setRow_other w5 T w.heap.size _ hbXT).trans HX5.out
  generalize w5.setRow T (rc (byt (C i) 0 (y i).s) (G i)).toArray = w6 at *
  have c6 := HM6.out.c0
  have v2 : w6.cell? ⟨w.heap.size, 2, none⟩ = some (.int .i64 x2) := (cell_of_row w6 w.heap.size 2 _ 29 _ HX6.out).trans rfl
  have v4 : w6.cell? ⟨w.heap.size, 4, none⟩ = some (.slice A 0 c) := (cell_of_row w6 w.heap.size 4 _ 29 _ HX6.out).trans rfl
  clear HS5 HM5 HT5 HX5 HN5
  have q0 : ¬ x2 < 0 := by omega
  have HRG : Hid (w6.rangeAt b (3 + i * 77) (rc (byt (C i) 0 (y i).s) (G i))) := by have := HM6.out.range hi; rw [Nat.mul_comm] at this; exact this
  have hi2 : (i : Int) < 2 := by omega
  go_upto_region 27 with (first | (refine wpList_load_mid rfl 46 _ rfl b (3 + i * 77) rfl (rc (byt (C i) 0 (y i).s) (G i)) _ HRG.out Tryz.underlying46 rfl (s46l _ _) ?_) | (refine D.wpList_store_row rfl 46 _ _ rfl T _ (rc (byt (C i) 0 (y i).s) (G i)).toArray 46 rfl rfl HT6.out (s46 _ _) (rcz _ _ _ _) (all_oneCell_toArray (rc_one _ _)) ?_) | fail)
  have HS7 := Lib.hid (side_ HS6.out (chg_setRow w6 T (rc (byt (C i) 0 (y i).s) (G i)).toArray) HPT.out)
  have HT7 : Hid (RF (w6.setRow T (rc (byt (C i) 0 (y i).s) (G i)).toArray) T (byt (C i) 0 (y i).s) (G i)) := D.setRow_in _ _ _ _ _ HT6.out
  have HM7 : Hid (GM (w6.setRow T (rc (byt (C i) 0 (y i).s) (G i)).toArray) b p (fun i => byt (C i) 0 (y i).s) G) := HM6.out.keep (setRow_other w6 T b _ (Ne.symm hbT))
  generalize w6.setRow T (rc (byt (C i) 0 (y i).s) (G i)).toArray = w7 at *
  have c7 := HM7.out.c0
  clear HS6 HT6 HM6 HRG c6 v2 v4 HX6
  have hi3 : (i : Int) < 2 := by omega
  have hs46 := s46l (byt (C i) 0 (y i).s) (G i)
  have HR8 : Hid (w7.drew.rangeAt T 0 (rc (byt (C i) 0 (y i).s) (G i))) := fun k v hv => by rw [Nat.zero_add, cell_of_row w7.drew T k _ 46 _ HT7.out, List.getElem?_toArray]; exact hv
  have HTH : Hid (w7.drew.there b (3 + i * 77) (rc (byt (C i) 0 (y i).s) (G i)).toArray.size) := by have := HM7.out.there hi (byt (C i) 0 (y i).s) (G i); rw [Nat.mul_comm] at this; exact this
  have HM8 : Hid (GM (w7.drew.setCells b (3 + i * 77) (rc (byt (C i) 0 (y i).s) (G i)).toArray.toList) b p (fun i => byt (C i) 0 (y i).s) G) := by
    have h7 := GM.store (w := w7.drew) HM7.out hi (byt (C i) 0 (y i).s) (G i)
    rw [Nat.mul_comm, setf_self (fun i => byt (C i) 0 (y i).s) i, setf_self G i] at h7
    exact h7
  have hcg : Chg [b] w7.drew (w7.drew.setCells b (3 + i * 77) (rc (byt (C i) 0 (y i).s) (G i)).toArray.toList) := (Chg.refl _ _).setCells (.inl (by simp)) _ _
  have HS8 := Lib.hid (side_ (HS7.out.below (w' := w7.drew) (Below.refl _ _).drew) hcg HP.out)
  have HR9 : Hid ((w7.drew.setCells b (3 + i * 77) (rc (byt (C i) 0 (y i).s) (G i)).toArray.toList).rangeAt T 0 (rc (byt (C i) 0 (y i).s) (G i))) := World.rangeAt_setCells_apart HR8.out _ _ _ (.inl hbT)
  clear hcg HS7 HM7 HT7
  go_upto_region 35 with fail
  refine wp_region_noPanic ?_
  refine wp_region_held_drew (S := fun W => W.rangeAt T 0 (rc (byt (C i) 0 (y i).s) (G i))) (by kernel_rfl) HR8.out (fun hHeld => ?_)
  refine wpAnyH_take (i := 0) (oi := { dst := some 198, op := Op.move (Operand.tmp 0), type := 23, pos := "law.go:148", after := #[], guard := none }) (v := ?_) rfl (by kernel_rfl) (by kernel_rfl) (by kernel_rfl) (fun _ _ _ h => h) (Or.inl ⟨by rfl, ?_⟩) (by assumption) ?_
  rotate_left
  · intro w hSw; (try dsimp only at hSw); go_simp <;> with_reducible rfl
  try simp only [Act.put, List.setIfInBounds_toArray, List.set_cons_zero, List.set_cons_succ]
  refine wpAnyH_take (i := 1) (oi := { dst := some 199, op := Op.move (Operand.tmp 7), type := 3, pos := "law.go:148", after := #[], guard := none }) (v := ?_) rfl (by kernel_rfl) (by kernel_rfl) (by kernel_rfl) (fun _ _ _ h => h) (Or.inl ⟨by rfl, ?_⟩) (by assumption) ?_
  rotate_left
  · intro w hSw; (try dsimp only at hSw); go_simp <;> with_reducible rfl
  try simp only [Act.put, List.setIfInBounds_toArray, List.set_cons_zero, List.set_cons_succ]
  refine wpAnyH_take (i := 2) (oi := { dst := some 200, op := Op.load 46 (Operand.tmp 11), type := 46, pos := "law.go:148", after := #[], guard := none }) (v := .agg (rc (byt (C i) 0 (y i).s) (G i)).toArray) rfl (by kernel_rfl) (by kernel_rfl) (by kernel_rfl) (fun _ _ _ h => h) (yieldsIf_load_mid (by rfl) 46 _ rfl T (0) rfl (rc (byt (C i) 0 (y i).s) (G i)) _ (fun w hw => hw) Tryz.underlying46 rfl hs46) (by assumption) ?_
  try simp only [Act.put, List.setIfInBounds_toArray, List.set_cons_zero, List.set_cons_succ]
  refine wpAnyH_take (i := 3) (oi := { dst := some 201, op := Op.nilCheck (Operand.tmp 198), type := 0, pos := "law.go:148", after := #[{ on := 0, ground := Ground.data }], guard := none }) (v := ?_) rfl (by kernel_rfl) (by kernel_rfl) (by kernel_rfl) (fun _ _ _ h => h) (Or.inl ⟨by rfl, ?_⟩) (by assumption) ?_
  rotate_left
  · intro w hSw; (try dsimp only at hSw); go_simp <;> with_reducible rfl
  try simp only [Act.put, List.setIfInBounds_toArray, List.set_cons_zero, List.set_cons_succ]
  refine wpAnyH_take (i := 4) (oi := { dst := some 202, op := Op.fieldAddr 67 (Operand.tmp 201) 2, type := 0, pos := "law.go:148", after := #[{ on := 3, ground := Ground.data }], guard := none }) (v := ?_) rfl (by kernel_rfl) (by kernel_rfl) (by kernel_rfl) (fun _ _ _ h => h) (Or.inl ⟨by rfl, ?_⟩) (by assumption) ?_
  rotate_left
  · intro w hSw; (try dsimp only at hSw); go_simp <;> with_reducible rfl
  try simp only [Act.put, List.setIfInBounds_toArray, List.set_cons_zero, List.set_cons_succ]
  refine wpAnyH_take (i := 5) (oi := { dst := some 203, op := Op.indexAddr 65 (Operand.tmp 202) (Operand.tmp 199), type := 0, pos := "law.go:148", after := #[{ on := 4, ground := Ground.data }, { on := 1, ground := Ground.data }, { on := 0, ground := Ground.phase }, { on := 1, ground := Ground.phase }, { on := 2, ground := Ground.phase }], guard := none }) (v := ?_) rfl (by kernel_rfl) (by kernel_rfl) (by kernel_rfl) (fun _ _ _ h => h) (Or.inl ⟨by rfl, ?_⟩) (by assumption) ?_
  rotate_left
  · intro w hSw; (try dsimp only at hSw); go_simp <;> with_reducible rfl
  try simp only [Act.put, List.setIfInBounds_toArray, List.set_cons_zero, List.set_cons_succ]
  refine wpAnyH_ready (rs := [6]) (by kernel_rfl) (by simp) ?_
  refine AllReadyH.cons (o := { dst := none, op := Op.store 46 (Operand.tmp 203) (Operand.tmp 200), type := 0, pos := "law.go:148", after := #[{ on := 5, ground := Ground.data }, { on := 2, ground := Ground.data }, { on := 0, ground := Ground.phase }, { on := 1, ground := Ground.phase }, { on := 2, ground := Ground.phase }], guard := none }) rfl (fun K hK => ?_) AllReadyH.nil
  rw [if_pos (by rfl)]
  refine wp_store_mid 46 _ _ rfl b (3 + i * 77) (rc (byt (C i) 0 (y i).s) (G i)).toArray rfl rfl HTH.out (s46 _ _) (all_oneCell_toArray (rc_one _ _)) ?_
  simp only [Act.put]
  refine hK.out _ _ HR9.out (fun hHeld => ?_)
  clear hK K
  refine wpAnyH_done (by kernel_rfl) ?_ _
  refine NoPanic.normal ?_
  generalize w7.drew.setCells b (3 + i * 77) (rc (byt (C i) 0 (y i).s) (G i)).toArray.toList = w8 at *
  have c8 := HM8.out.c0
  go_wp2_with fail
  refine (commit_view HS8.out).mono ?_
  rintro e w9 ⟨rfl, O9, s9, X9, h9, hv9, hc9, ho9⟩
  have HF9 : Hid (Fls N (view X9 []) y f C G) := by show Fls _ _ _ _ _ _; rw [hv9]; exact HF.out
  have HE : Hid (PInv w0 w9 b p d q N) := ⟨O9, s9, X9, _, _, _, _, h9, HF9.out, HM8.out.keep (hc9.block b HM8.out.lt (by simp; exact ⟨HP.out.2.2.1, HP.out.1⟩)), fun hm => (ho9 _ hm).elim HP.out.1 fun h => by have := HM8.out.lt; omega, HP.out.2⟩
  clear h9 hv9 hc9 ho9 HF9 HM8 HS8
  go_wp2_with fail
  go_ret
  exact ⟨rfl, HE.out⟩
set_option maxHeartbeats 16000000 in
theorem play_nil_yes {w0 w : World} {b p d q N : Nat} {x1 x2 x3 : Int} {A : Option Addr} {n c : Nat} {xs : List UInt8} (h : PInv w0 w b p d q N) (hx : I64 x1) (hB : F.Bts w0 w0.heap.size A n c xs) (hlen : n ≤ 600) (hn0 : n = 0) (q1 : 0 ≤ x2) (q2 : x2 ≤ 9728) :
    Calls Tryz.prog 10 #[.pointer (some ⟨b, 0, none⟩), .agg #[.int .i64 0, .int .i64 x1, .int .i64 x2, .int .i64 x3, .slice A n c], .int .i64 (N : Int)] w fun e w' => e = .returned (.bool true) ∧ PInv w0 w' b p d q N := by
  have HD := Lib.hid hB
  have hnl := hB.len
  clear hB
  subst hn0
  obtain ⟨O, s, X, y, f, C, G, hs, hf, hm, hp⟩ := h
  obtain ⟨i, hi, hand⟩ := and_one x1
  obtain ⟨nd, hnd⟩ : ∃ nd : Int, ((2 + i : Nat) : Int) = nd := ⟨_, rfl⟩
  have HS := Lib.hid hs
  have HF := Lib.hid hf
  have HM := Lib.hid hm
  have HP := Lib.hid hp
  clear hs hf hm hp hx
  go_enter Tryz.func10, Tryz.ntmps10
  go_upto_region 1 with fail
  obtain ⟨a0, a1, a2⟩ := D.box1 w (Obj.cells #[.int .i64 0, .int .i64 x1, .int .i64 x2, .int .i64 x3, .slice A 0 c] 29)
  have HM1 : Hid (GM (w.alloc (Obj.cells #[.int .i64 0, .int .i64 x1, .int .i64 x2, .int .i64 x3, .slice A 0 c] 29)) b p (fun i => byt (C i) 0 (y i).s) G) := HM.out.keep (a1.block b HM.out.lt)
  have HS1 := Lib.hid (HS.out.below a1)
  have HXB := Lib.hid a0
  have HBl := Lib.hid a1
  generalize w.alloc (Obj.cells #[.int .i64 0, .int .i64 x1, .int .i64 x2, .int .i64 x3, .slice A 0 c] 29) = w1 at *
  have c0 := HM1.out.c0
  have c1 := HM1.out.cn hi
  rw [hnd] at c1
  have HNE := Lib.hid hnd
  have e0 : w1.cell? ⟨w.heap.size, 0, none⟩ = some (.int .i64 0) := (cell_of_row w1 w.heap.size 0 _ 29 _ HXB.out).trans rfl
  have e1 : w1.cell? ⟨w.heap.size, 1, none⟩ = some (.int .i64 x1) := (cell_of_row w1 w.heap.size 1 _ 29 _ HXB.out).trans rfl
  have hbx : w.heap.size < w1.heap.size := (Array.getElem?_eq_some_iff.1 HXB.out).1
  have HRG : Hid (w1.rangeAt b (3 + i * 77) (rc (byt (C i) 0 (y i).s) (G i))) := by have := HM1.out.range hi; rw [Nat.mul_comm] at this; exact this
  clear a0 a1 a2 hnd
  go_upto_region 5 with (first | (refine wpList_load_mid rfl 46 _ rfl b (3 + i * 77) rfl (rc (byt (C i) 0 (y i).s) (G i)) _ HRG.out Tryz.underlying46 rfl (s46l _ _) ?_) | (refine D.wpList_store_new rfl 46 _ _ rfl w1 Tryz.zeroCells46 (rc (byt (C i) 0 (y i).s) (G i)).toArray rfl rfl (s46 _ _) (z46z' _ _) (all_oneCell_toArray (rc_one _ _)) ?_) | fail)
  obtain ⟨b0, b1, b2⟩ := D.box1 w1 (Obj.cells (rc (byt (C i) 0 (y i).s) (G i)).toArray 46)
  have HS2 := Lib.hid (HS1.out.below b1)
  have HM2 : Hid (GM (w1.alloc (Obj.cells (rc (byt (C i) 0 (y i).s) (G i)).toArray 46)) b p (fun i => byt (C i) 0 (y i).s) G) := HM1.out.keep (b1.block b HM1.out.lt)
  have HXB2 : Hid ((w1.alloc (Obj.cells (rc (byt (C i) 0 (y i).s) (G i)).toArray 46)).heap[w.heap.size]? = some (Obj.cells #[.int .i64 0, .int .i64 x1, .int .i64 x2, .int .i64 x3, .slice A 0 c] 29)) := (b1.block _ hbx).trans HXB.out
  have HT2 : Hid (RF (w1.alloc (Obj.cells (rc (byt (C i) 0 (y i).s) (G i)).toArray 46)) w1.heap.size (byt (C i) 0 (y i).s) (G i)) := b0
  have hbT : w1.heap.size ≠ b := by have := HM1.out.lt; omega
  generalize w1.alloc (Obj.cells (rc (byt (C i) 0 (y i).s) (G i)).toArray 46) = w2 at *
  have f0 : w2.cell? ⟨w.heap.size, 0, none⟩ = some (.int .i64 0) := (cell_of_row w2 w.heap.size 0 _ 29 _ HXB2.out).trans rfl
  have HC : Hid (∀ W, Below w2.heap.size w2 W → W.cell? ⟨b, 0, none⟩ = some (.pointer (some ⟨p, 0, none⟩)) ∧ W.cell? ⟨w.heap.size, 2, none⟩ = some (.int .i64 x2) ∧ W.cell? ⟨w.heap.size, 4, none⟩ = some (.slice A 0 c)) := fun W hW => ⟨(HM2.out.keep (hW.block b HM2.out.lt)).c0,
    (cell_of_row W w.heap.size 2 _ 29 _ ((hW.block _ (Array.getElem?_eq_some_iff.1 HXB2.out).1).trans HXB2.out)).trans rfl, (cell_of_row W w.heap.size 4 _ 29 _ ((hW.block _ (Array.getElem?_eq_some_iff.1 HXB2.out).1).trans HXB2.out)).trans rfl⟩
  have HPT := Lib.hid (newer HS1.out (Nat.le_refl w1.heap.size))
  have HPX := Lib.hid (newer HS.out (Nat.le_refl w.heap.size))
  have HQT : Hid (w1.heap.size ≠ q) := HPT.out.2.2.1
  have HQX : Hid (w.heap.size ≠ q) := HPX.out.2.2.1
  have hbXT : w.heap.size ≠ w1.heap.size := by omega
  generalize w1.heap.size = T at *
  clear b0 b1 b2 e0 e1 c0 c1 hand HM1 HS1 HXB HRG HBl HM hbx
  have HW0 : Hid (Below w2.heap.size w2 w2.drew) := (Below.refl _ _).drew
  have HEN : Hid (∀ w', Below w2.heap.size w2 w' → PInv w0 w' b p d q N) := fun w' hb => ⟨O, s, X, y, f, C, G, HS2.out.below hb, HF.out, HM2.out.keep (hb.block b HM2.out.lt), HP.out⟩
  have hlx : ¬ 600 < 0 := by omega
  have hxs : xs = [] := List.length_eq_zero_iff.1 hnl
  subst hxs
  have hwr := write_none ((HF.out.fl i hi).open_ (HS2.out.below HW0.out) (by omega)) (a := x2) q1 A c
  rw [HNE.out] at hwr
  have HWR := Lib.hid hwr
  clear hwr
  obtain ⟨_, p2, p4⟩ := HC.out _ (Below.refl _ _)
  go_wp2_with fail
  go_region_held3 (fun W => W.cell? ⟨b, 0, none⟩ = some (.pointer (some ⟨p, 0, none⟩)) ∧ W.cell? ⟨w.heap.size, 2, none⟩ = some (.int .i64 x2) ∧ W.cell? ⟨w.heap.size, 4, none⟩ = some (.slice A 0 c)) (first | with_reducible exact HC.out _ HW0.out | with_reducible exact HC.out _ HW3.out)
    (first
    | (go_at_call 16; (with_reducible refine HWR.out.mono ?_); rintro e w3 ⟨rfl, hb3⟩; have HW3 := Lib.hid (HW0.out.trans (hb3.mono HW0.out.size)); clear hb3))
  obtain ⟨g0, g2, g4⟩ := HC.out _ HW3.out
  have HS3 := Lib.hid (HS2.out.below HW3.out)
  have HM3 : Hid (GM w3 b p (fun i => byt (C i) 0 (y i).s) G) := HM2.out.keep (HW3.out.block b HM2.out.lt)
  have HX3 : Hid (w3.heap[w.heap.size]? = some (Obj.cells #[.int .i64 0, .int .i64 x1, .int .i64 x2, .int .i64 x3, .slice A 0 c] 29)) := (HW3.out.block w.heap.size (Array.getElem?_eq_some_iff.1 HXB2.out).1).trans HXB2.out
  have HT3 : Hid (RF w3 T (byt (C i) 0 (y i).s) (G i)) := HT2.out.keep (HW3.out.block T HT2.out.lt)
  have hcv : (convert 27 9 (.slice A 0 c)).run Tryz.prog w3 = .ok (.string (sb [])) w3 := (HD.out.below HS3.out.ons.sit.bel).str w3 fun _ _ => rfl
  clear HEN HC HW0 HW3 HWR HS2 HM2 HXB2 HT2 p2 p4
  obtain ⟨a, rfl⟩ : ∃ a : Nat, x2 = (a : Int) := ⟨x2.toNat, by omega⟩
  have HRW : Hid (∀ W, Calls Tryz.prog 18 #[.agg (rc (byt (C i) 0 (y i).s) (G i)).toArray, .int .i64 (a : Int), .string (sb [])] W fun e w' => e = .returned (.tuple #[.agg (rc (byt (C i) 0 (y i).s) (G i)).toArray, .bool true]) ∧ Below W.heap.size W w') := fun W => rfWrite_nil (byt (C i) 0 (y i).s) (G i) a W (by omega)
  go_wp2_with (first | (refine D.wpList_load_row rfl 46 _ rfl T rfl _ _ _ HT3.out _ Tryz.underlying46 rfl (s46 _ _) ?_) | fail)
  refine (HRW.out w3).mono ?_
  rintro e w4 ⟨rfl, hb4⟩
  go_upto_region 15 with (first | (refine D.wpList_store_new rfl 46 _ _ rfl w4 Tryz.zeroCells46 (rc (byt (C i) 0 (y i).s) (G i)).toArray rfl rfl (s46 _ _) (z46z' _ _) (all_oneCell_toArray (rc_one _ _)) ?_) | fail)
  obtain ⟨d0, d1, d2⟩ := D.box1 w4 (Obj.cells (rc (byt (C i) 0 (y i).s) (G i)).toArray 46)
  have hbb := hb4.trans (d1.mono hb4.size)
  have HS5 := Lib.hid (HS3.out.below hbb)
  have HM5 : Hid (GM (w4.alloc (Obj.cells (rc (byt (C i) 0 (y i).s) (G i)).toArray 46)) b p (fun i => byt (C i) 0 (y i).s) G) := HM3.out.keep (hbb.block b HM3.out.lt)
  have HT5 : Hid (RF (w4.alloc (Obj.cells (rc (byt (C i) 0 (y i).s) (G i)).toArray 46)) T (byt (C i) 0 (y i).s) (G i)) := HT3.out.keep (hbb.block T HT3.out.lt)
  have HX5 : Hid ((w4.alloc (Obj.cells (rc (byt (C i) 0 (y i).s) (G i)).toArray 46)).heap[w.heap.size]? = some (Obj.cells #[.int .i64 0, .int .i64 x1, .int .i64 (a : Int), .int .i64 x3, .slice A 0 c] 29)) := (hbb.block w.heap.size (Array.getElem?_eq_some_iff.1 HX3.out).1).trans HX3.out
  have HN5 : Hid (RF (w4.alloc (Obj.cells (rc (byt (C i) 0 (y i).s) (G i)).toArray 46)) w4.heap.size (byt (C i) 0 (y i).s) (G i)) := d0
  generalize w4.alloc (Obj.cells (rc (byt (C i) 0 (y i).s) (G i)).toArray 46) = w5 at *
  clear hb4 d0 d1 d2 hbb HS3 HM3 HT3 HX3 HRW hcv g0 g2 g4
  go_upto_region 16 with (first | (refine D.wpList_load_row rfl 46 _ rfl w4.heap.size rfl _ _ _ HN5.out _ Tryz.underlying46 rfl (s46 _ _) ?_) | (refine D.wpList_store_row rfl 46 _ _ rfl T _ (rc (byt (C i) 0 (y i).s) (G i)).toArray 46 rfl rfl HT5.out (s46 _ _) (rcz _ _ _ _) (all_oneCell_toArray (rc_one _ _)) ?_) | fail)
  have HS6 := Lib.hid (side_ HS5.out (chg_setRow w5 T (rc (byt (C i) 0 (y i).s) (G i)).toArray) HPT.out)
  have HT6 : Hid (RF (w5.setRow T (rc (byt (C i) 0 (y i).s) (G i)).toArray) T (byt (C i) 0 (y i).s) (G i)) := D.setRow_in _ _ _ _ _ HT5.out
  have HM6 : Hid (GM (w5.setRow T (rc (byt (C i) 0 (y i).s) (G i)).toArray) b p (fun i => byt (C i) 0 (y i).s) G) := HM5.out.keep (setRow_other w5 T b _ (Ne.symm hbT))
  have HX6 : Hid ((w5.setRow T (rc (byt (C i) 0 (y i).s) (G i)).toArray).heap[w.heap.size]? = some (Obj.cells #[.int .i64 0, .int .i64 x1, .int .i64 (a : Int), .int .i64 x3, .slice A 0 c] 29)) := (setRow_other w5 T w.heap.size _ hbXT).trans HX5.out
  generalize w5.setRow T (rc (byt (C i) 0 (y i).s) (G i)).toArray = w6 at *
  have c6 := HM6.out.c0
  have v2 : w6.cell? ⟨w.heap.size, 2, none⟩ = some (.int .i64 (a : Int)) := (cell_of_row w6 w.heap.size 2 _ 29 _ HX6.out).trans rfl
  have v4 : w6.cell? ⟨w.heap.size, 4, none⟩ = some (.slice A 0 c) := (cell_of_row w6 w.heap.size 4 _ 29 _ HX6.out).trans rfl
  clear HS5 HM5 HT5 HX5 HN5
  have q0 : ¬ (a : Int) < 0 := by omega
  have HRG : Hid (w6.rangeAt b (3 + i * 77) (rc (byt (C i) 0 (y i).s) (G i))) := by have := HM6.out.range hi; rw [Nat.mul_comm] at this; exact this
  have hi2 : (i : Int) < 2 := by omega
  go_upto_region 27 with (first | (refine wpList_load_mid rfl 46 _ rfl b (3 + i * 77) rfl (rc (byt (C i) 0 (y i).s) (G i)) _ HRG.out Tryz.underlying46 rfl (s46l _ _) ?_) | (refine D.wpList_store_row rfl 46 _ _ rfl T _ (rc (byt (C i) 0 (y i).s) (G i)).toArray 46 rfl rfl HT6.out (s46 _ _) (rcz _ _ _ _) (all_oneCell_toArray (rc_one _ _)) ?_) | fail)
  have HS7 := Lib.hid (side_ HS6.out (chg_setRow w6 T (rc (byt (C i) 0 (y i).s) (G i)).toArray) HPT.out)
  have HT7 : Hid (RF (w6.setRow T (rc (byt (C i) 0 (y i).s) (G i)).toArray) T (byt (C i) 0 (y i).s) (G i)) := D.setRow_in _ _ _ _ _ HT6.out
  have HM7 : Hid (GM (w6.setRow T (rc (byt (C i) 0 (y i).s) (G i)).toArray) b p (fun i => byt (C i) 0 (y i).s) G) := HM6.out.keep (setRow_other w6 T b _ (Ne.symm hbT))
  generalize w6.setRow T (rc (byt (C i) 0 (y i).s) (G i)).toArray = w7 at *
  have c7 := HM7.out.c0
  clear HS6 HT6 HM6 HRG c6 v2 v4 HX6
  have hi3 : (i : Int) < 2 := by omega
  have hs46 := s46l (byt (C i) 0 (y i).s) (G i)
  have HR8 : Hid (w7.drew.rangeAt T 0 (rc (byt (C i) 0 (y i).s) (G i))) := fun k v hv => by rw [Nat.zero_add, cell_of_row w7.drew T k _ 46 _ HT7.out, List.getElem?_toArray]; exact hv
  have HTH : Hid (w7.drew.there b (3 + i * 77) (rc (byt (C i) 0 (y i).s) (G i)).toArray.size) := by have := HM7.out.there hi (byt (C i) 0 (y i).s) (G i); rw [Nat.mul_comm] at this; exact this
  have HM8 : Hid (GM (w7.drew.setCells b (3 + i * 77) (rc (byt (C i) 0 (y i).s) (G i)).toArray.toList) b p (fun i => byt (C i) 0 (y i).s) G) := by
    have h7 := GM.store (w := w7.drew) HM7.out hi (byt (C i) 0 (y i).s) (G i)
    rw [Nat.mul_comm, setf_self (fun i => byt (C i) 0 (y i).s) i, setf_self G i] at h7
    exact h7
  have hcg : Chg [b] w7.drew (w7.drew.setCells b (3 + i * 77) (rc (byt (C i) 0 (y i).s) (G i)).toArray.toList) := (Chg.refl _ _).setCells (.inl (by simp)) _ _
  have HS8 := Lib.hid (side_ (HS7.out.below (w' := w7.drew) (Below.refl _ _).drew) hcg HP.out)
  have HR9 : Hid ((w7.drew.setCells b (3 + i * 77) (rc (byt (C i) 0 (y i).s) (G i)).toArray.toList).rangeAt T 0 (rc (byt (C i) 0 (y i).s) (G i))) := World.rangeAt_setCells_apart HR8.out _ _ _ (.inl hbT)
  clear hcg HS7 HM7 HT7
  go_upto_region 35 with fail
  refine wp_region_noPanic ?_
  refine wp_region_held_drew (S := fun W => W.rangeAt T 0 (rc (byt (C i) 0 (y i).s) (G i))) (by kernel_rfl) HR8.out (fun hHeld => ?_)
  refine wpAnyH_take (i := 0) (oi := { dst := some 198, op := Op.move (Operand.tmp 0), type := 23, pos := "law.go:148", after := #[], guard := none }) (v := ?_) rfl (by kernel_rfl) (by kernel_rfl) (by kernel_rfl) (fun _ _ _ h => h) (Or.inl ⟨by rfl, ?_⟩) (by assumption) ?_
  rotate_left
  · intro w hSw; (try dsimp only at hSw); go_simp <;> with_reducible rfl
  try simp only [Act.put, List.setIfInBounds_toArray, List.set_cons_zero, List.set_cons_succ]
  refine wpAnyH_take (i := 1) (oi := { dst := some 199, op := Op.move (Operand.tmp 7), type := 3, pos := "law.go:148", after := #[], guard := none }) (v := ?_) rfl (by kernel_rfl) (by kernel_rfl) (by kernel_rfl) (fun _ _ _ h => h) (Or.inl ⟨by rfl, ?_⟩) (by assumption) ?_
  rotate_left
  · intro w hSw; (try dsimp only at hSw); go_simp <;> with_reducible rfl
  try simp only [Act.put, List.setIfInBounds_toArray, List.set_cons_zero, List.set_cons_succ]
  refine wpAnyH_take (i := 2) (oi := { dst := some 200, op := Op.load 46 (Operand.tmp 11), type := 46, pos := "law.go:148", after := #[], guard := none }) (v := .agg (rc (byt (C i) 0 (y i).s) (G i)).toArray) rfl (by kernel_rfl) (by kernel_rfl) (by kernel_rfl) (fun _ _ _ h => h) (yieldsIf_load_mid (by rfl) 46 _ rfl T (0) rfl (rc (byt (C i) 0 (y i).s) (G i)) _ (fun w hw => hw) Tryz.underlying46 rfl hs46) (by assumption) ?_
  try simp only [Act.put, List.setIfInBounds_toArray, List.set_cons_zero, List.set_cons_succ]
  refine wpAnyH_take (i := 3) (oi := { dst := some 201, op := Op.nilCheck (Operand.tmp 198), type := 0, pos := "law.go:148", after := #[{ on := 0, ground := Ground.data }], guard := none }) (v := ?_) rfl (by kernel_rfl) (by kernel_rfl) (by kernel_rfl) (fun _ _ _ h => h) (Or.inl ⟨by rfl, ?_⟩) (by assumption) ?_
  rotate_left
  · intro w hSw; (try dsimp only at hSw); go_simp <;> with_reducible rfl
  try simp only [Act.put, List.setIfInBounds_toArray, List.set_cons_zero, List.set_cons_succ]
  refine wpAnyH_take (i := 4) (oi := { dst := some 202, op := Op.fieldAddr 67 (Operand.tmp 201) 2, type := 0, pos := "law.go:148", after := #[{ on := 3, ground := Ground.data }], guard := none }) (v := ?_) rfl (by kernel_rfl) (by kernel_rfl) (by kernel_rfl) (fun _ _ _ h => h) (Or.inl ⟨by rfl, ?_⟩) (by assumption) ?_
  rotate_left
  · intro w hSw; (try dsimp only at hSw); go_simp <;> with_reducible rfl
  try simp only [Act.put, List.setIfInBounds_toArray, List.set_cons_zero, List.set_cons_succ]
  refine wpAnyH_take (i := 5) (oi := { dst := some 203, op := Op.indexAddr 65 (Operand.tmp 202) (Operand.tmp 199), type := 0, pos := "law.go:148", after := #[{ on := 4, ground := Ground.data }, { on := 1, ground := Ground.data }, { on := 0, ground := Ground.phase }, { on := 1, ground := Ground.phase }, { on := 2, ground := Ground.phase }], guard := none }) (v := ?_) rfl (by kernel_rfl) (by kernel_rfl) (by kernel_rfl) (fun _ _ _ h => h) (Or.inl ⟨by rfl, ?_⟩) (by assumption) ?_
  rotate_left
  · intro w hSw; (try dsimp only at hSw); go_simp <;> with_reducible rfl
  try simp only [Act.put, List.setIfInBounds_toArray, List.set_cons_zero, List.set_cons_succ]
  refine wpAnyH_ready (rs := [6]) (by kernel_rfl) (by simp) ?_
  refine AllReadyH.cons (o := { dst := none, op := Op.store 46 (Operand.tmp 203) (Operand.tmp 200), type := 0, pos := "law.go:148", after := #[{ on := 5, ground := Ground.data }, { on := 2, ground := Ground.data }, { on := 0, ground := Ground.phase }, { on := 1, ground := Ground.phase }, { on := 2, ground := Ground.phase }], guard := none }) rfl (fun K hK => ?_) AllReadyH.nil
  rw [if_pos (by rfl)]
  refine wp_store_mid 46 _ _ rfl b (3 + i * 77) (rc (byt (C i) 0 (y i).s) (G i)).toArray rfl rfl HTH.out (s46 _ _) (all_oneCell_toArray (rc_one _ _)) ?_
  simp only [Act.put]
  refine hK.out _ _ HR9.out (fun hHeld => ?_)
  clear hK K
  refine wpAnyH_done (by kernel_rfl) ?_ _
  refine NoPanic.normal ?_
  generalize w7.drew.setCells b (3 + i * 77) (rc (byt (C i) 0 (y i).s) (G i)).toArray.toList = w8 at *
  have c8 := HM8.out.c0
  go_wp2_with fail
  refine (commit_view HS8.out).mono ?_
  rintro e w9 ⟨rfl, O9, s9, X9, h9, hv9, hc9, ho9⟩
  have HF9 : Hid (Fls N (view X9 []) y f C G) := by show Fls _ _ _ _ _ _; rw [hv9]; exact HF.out
  have HE : Hid (PInv w0 w9 b p d q N) := ⟨O9, s9, X9, _, _, _, _, h9, HF9.out, HM8.out.keep (hc9.block b HM8.out.lt (by simp; exact ⟨HP.out.2.2.1, HP.out.1⟩)), fun hm => (ho9 _ hm).elim HP.out.1 fun h => by have := HM8.out.lt; omega, HP.out.2⟩
  clear h9 hv9 hc9 ho9 HF9 HM8 HS8
  go_wp2_with fail
  go_ret
  exact ⟨rfl, HE.out⟩
end Go.Proofs.YtijbgdihnjnllaaGreat.V
