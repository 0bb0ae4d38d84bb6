/- 'play', walked: a Write. -/
import Derived.Test.YtijbgdihnjnllaaGreatVPlayR
namespace Go.Proofs.YtijbgdihnjnllaaGreat.V
open Go.RowKit
set_option linter.unusedVariables false
set_option maxRecDepth 20000
theorem write_e {w0 w : World} {p d N q nn a n c : Nat} {O : List Nat} {s : DS} {X : Secs2} {m : List Wr} {G : Nat → Prop} {y : D.Nn} {f : Nat → Nat} {C : Nat → UInt8} {low : List Int} {Tx : List Nat} {A : Option Addr} {l : List UInt8} {M : Nat → Prop} (hs : Sto w0 w p d O N s X q m) (h : Fl N G (view X m) nn y f C) (hnn : nn < 32) (hbud : Bud low Tx m f) (h35 : ((35 + nn / 4 : Nat) : Int) ∈ low) (hn : 0 < n) (han : a + n ≤ 9728) (hd : Bts w M A n c l) (hM : ∀ b, M b → b < w.heap.size ∧ b ≠ q)
    (hx : ∀ j, j < T.np a n → ∀ i ∈ path (nb a j), i ∈ Tx) :
    Calls Tryz.prog 16 #[.pointer (some ⟨p, 0, none⟩), .int .i64 nn, .int .i64 (a : Int), .slice A n c] w fun e w' => ∃ er : Int, e = .returned (.int .i64 er) ∧ Chg [q] w w' ∧
      ((er = 0 ∧ ∃ m' y' f', Aft w0 w p d N q nn O s X m G f low Tx m' y' f' (ovr C a l n) w' ∧ y'.s = max y.s (a + n) ∧ ∀ i, f' i ≠ 0 ↔ f i ≠ 0 ∨ ∃ b, Tch a n b ∧ i ∈ path b) ∨ (er = 10 ∧ ∃ bf m2, FNo w0 w' p d N q bf nn O s X m2 G f low Tx a n)) := by
  refine (write_yes hs h hnn hbud h35 hn han hd hM hx).mono ?_
  rintro e w' (⟨rfl, m', y', f', haft, hsz, hext, hnew, hall⟩ | ⟨rfl, ⟨bf, m2, hno⟩, hc⟩)
  · exact ⟨0, rfl, haft.chg, .inl ⟨rfl, m', y', f', haft, hsz, fun i => write_nz haft.fl.mid hn han hext hnew hall i⟩⟩
  · exact ⟨10, rfl, hc, .inr ⟨rfl, bf, m2, hno⟩⟩
theorem FNo.sto_ {w0 w' : World} {p d N q bf nn a n : Nat} {O : List Nat} {s : DS} {X : Secs2} {m : List Wr} {G : Nat → Prop} {f : Nat → Nat} {low : List Int} {Tx : List Nat} (h : FNo w0 w' p d N q bf nn O s X m G f low Tx a n) : Sto w0 w' p d O N s X q h.choose_spec.choose := h.choose_spec.choose_spec.choose_spec.choose_spec.1.sto
set_option maxHeartbeats 20000000 in
theorem play_do {w0 w : World} {b p d q N : Nat} {x1 x3 : Int} {a : Nat} {A : Option Addr} {n c : Nat} {xs : List UInt8} (h : PInv w0 w b p d q N) (hx : I64 x1) (hB : F.Bts w0 w0.heap.size A n c xs) (hlen : n ≤ 600) (q2 : a + n ≤ 9728) (q3 : 0 < n) :
    Calls Tryz.prog 10 #[.pointer (some ⟨b, 0, none⟩), .agg #[.int .i64 0, .int .i64 x1, .int .i64 (a : Int), .int .i64 x3, .slice A n c], .int .i64 (N : Int)] w fun e w' => e = .returned (.bool true) ∧ PInv w0 w' b p d q N := by
  have HD := Lib.hid hB
  have hnl := hB.len
  clear hB
  obtain ⟨O, s, X, y, f, C, G, hs, hf, hm, hp⟩ := h
  obtain ⟨i, hi, hand⟩ := and_one x1
  obtain ⟨nd, hnd⟩ : ∃ nd : Int, ((2 + i : Nat) : Int) = nd := ⟨_, rfl⟩
  have HS := Lib.hid hs
  have HF := Lib.hid hf
  have HM := Lib.hid hm
  have HP := Lib.hid hp
  clear hs hf hm hp hx
  go_enter Tryz.func10, Tryz.ntmps10
  go_upto_region 1 with fail
  obtain ⟨a0, a1, a2⟩ := D.box1 w (Obj.cells #[.int .i64 0, .int .i64 x1, .int .i64 (a : Int), .int .i64 x3, .slice A n c] 29)
  have HM1 : Hid (GM (w.alloc (Obj.cells #[.int .i64 0, .int .i64 x1, .int .i64 (a : Int), .int .i64 x3, .slice A n c] 29)) b p (fun i => byt (C i) 0 (y i).s) G) := HM.out.keep (a1.block b HM.out.lt)
  have HS1 := Lib.hid (HS.out.below a1)
  have HXB := Lib.hid a0
  have HBl := Lib.hid a1
  generalize w.alloc (Obj.cells #[.int .i64 0, .int .i64 x1, .int .i64 (a : Int), .int .i64 x3, .slice A n c] 29) = w1 at *
  have c0 := HM1.out.c0
  have c1 := HM1.out.cn hi
  rw [hnd] at c1
  have HNE := Lib.hid hnd
  have e0 : w1.cell? ⟨w.heap.size, 0, none⟩ = some (.int .i64 0) := (cell_of_row w1 w.heap.size 0 _ 29 _ HXB.out).trans rfl
  have e1 : w1.cell? ⟨w.heap.size, 1, none⟩ = some (.int .i64 x1) := (cell_of_row w1 w.heap.size 1 _ 29 _ HXB.out).trans rfl
  have hbx : w.heap.size < w1.heap.size := (Array.getElem?_eq_some_iff.1 HXB.out).1
  have HRG : Hid (w1.rangeAt b (3 + i * 77) (rc (byt (C i) 0 (y i).s) (G i))) := by have := HM1.out.range hi; rw [Nat.mul_comm] at this; exact this
  clear a0 a1 a2 hnd
  go_upto_region 5 with (first | (refine wpList_load_mid rfl 46 _ rfl b (3 + i * 77) rfl (rc (byt (C i) 0 (y i).s) (G i)) _ HRG.out Tryz.underlying46 rfl (s46l _ _) ?_) | (refine D.wpList_store_new rfl 46 _ _ rfl w1 Tryz.zeroCells46 (rc (byt (C i) 0 (y i).s) (G i)).toArray rfl rfl (s46 _ _) (z46z' _ _) (all_oneCell_toArray (rc_one _ _)) ?_) | fail)
  obtain ⟨b0, b1, b2⟩ := D.box1 w1 (Obj.cells (rc (byt (C i) 0 (y i).s) (G i)).toArray 46)
  have HS2 := Lib.hid (HS1.out.below b1)
  have HM2 : Hid (GM (w1.alloc (Obj.cells (rc (byt (C i) 0 (y i).s) (G i)).toArray 46)) b p (fun i => byt (C i) 0 (y i).s) G) := HM1.out.keep (b1.block b HM1.out.lt)
  have HXB2 : Hid ((w1.alloc (Obj.cells (rc (byt (C i) 0 (y i).s) (G i)).toArray 46)).heap[w.heap.size]? = some (Obj.cells #[.int .i64 0, .int .i64 x1, .int .i64 (a : Int), .int .i64 x3, .slice A n c] 29)) := (b1.block _ hbx).trans HXB.out
  have HT2 : Hid (RF (w1.alloc (Obj.cells (rc (byt (C i) 0 (y i).s) (G i)).toArray 46)) w1.heap.size (byt (C i) 0 (y i).s) (G i)) := b0
  have hbT : w1.heap.size ≠ b := by have := HM1.out.lt; omega
  generalize w1.alloc (Obj.cells (rc (byt (C i) 0 (y i).s) (G i)).toArray 46) = w2 at *
  have f0 : w2.cell? ⟨w.heap.size, 0, none⟩ = some (.int .i64 0) := (cell_of_row w2 w.heap.size 0 _ 29 _ HXB2.out).trans rfl
  have HC : Hid (∀ W, Below w2.heap.size w2 W → W.cell? ⟨b, 0, none⟩ = some (.pointer (some ⟨p, 0, none⟩)) ∧ W.cell? ⟨w.heap.size, 2, none⟩ = some (.int .i64 (a : Int)) ∧ W.cell? ⟨w.heap.size, 4, none⟩ = some (.slice A n c)) := fun W hW => ⟨(HM2.out.keep (hW.block b HM2.out.lt)).c0,
    (cell_of_row W w.heap.size 2 _ 29 _ ((hW.block _ (Array.getElem?_eq_some_iff.1 HXB2.out).1).trans HXB2.out)).trans rfl, (cell_of_row W w.heap.size 4 _ 29 _ ((hW.block _ (Array.getElem?_eq_some_iff.1 HXB2.out).1).trans HXB2.out)).trans rfl⟩
  have HPT := Lib.hid (newer HS1.out (Nat.le_refl w1.heap.size))
  have HPX := Lib.hid (newer HS.out (Nat.le_refl w.heap.size))
  have HQT : Hid (w1.heap.size ≠ q) := HPT.out.2.2.1
  have HQX : Hid (w.heap.size ≠ q) := HPX.out.2.2.1
  have hbXT : w.heap.size ≠ w1.heap.size := by omega
  generalize w1.heap.size = T at *
  clear b0 b1 b2 e0 e1 c0 c1 hand HM1 HS1 HXB HRG HBl HM hbx
  have HW0 : Hid (Below w2.heap.size w2 w2.drew) := (Below.refl _ _).drew
  have HEN : Hid (∀ w', Below w2.heap.size w2 w' → PInv w0 w' b p d q N) := fun w' hb => ⟨O, s, X, y, f, C, G, HS2.out.below hb, HF.out, HM2.out.keep (hb.block b HM2.out.lt), HP.out⟩
  have hlx : ¬ 600 < n := by omega
  have han : a + n ≤ 9728 := by omega
  have hys := (ok_size (HF.out.fl i hi).ok (HF.out.fl i hi).kind).1
  have htl := tx_len (a := a) (n := n) (k := 5) (by omega)
  have hbu : Bud [34, 35] (tx a n) [] (f i) := ⟨fun k hk => absurd hk (by simp [keys]), by simp only [List.length_cons, List.length_nil]; omega, by simp⟩
  have h35 : ((35 + (2 + i) / 4 : Nat) : Int) ∈ ([34, 35] : List Int) := by
    have h01 : i = 0 ∨ i = 1 := by omega
    rcases h01 with rfl | rfl <;> simp
  have hwr := write_e (nn := 2 + i) (a := a) (n := n) (HS2.out.below HW0.out) (HF.out.fl i hi) (by omega) hbu h35 q3 han (arg_bts (HS2.out.below HW0.out) HD.out) (arg_out (HS2.out.below HW0.out)) (tx_mem a n)
  rw [HNE.out] at hwr
  have HWR := Lib.hid hwr
  clear hwr hbu htl
  obtain ⟨kn, hK⟩ : ∃ kn, (a + n - 1) / 128 + 1 - a / 128 = kn := ⟨_, rfl⟩
  have HKK := Lib.hid hK
  have HRW : Hid (∀ W, Calls Tryz.prog 18 #[.agg (rc (byt (C i) 0 (y i).s) (G i)).toArray, .int .i64 (a : Int), .string (sb xs)] W fun e w' => e = .returned (.tuple #[.agg (rc (wrL (byt (C i) 0 (y i).s) a xs) (wrG (G i) a n kn)).toArray, .bool true]) ∧ Below W.heap.size W w') := fun W => rfWrite_some (byt (C i) 0 (y i).s) xs (G i) a n kn W (by rw [byt_len]; exact hys) hnl q3 han hK
  clear hK
  obtain ⟨_, p2, p4⟩ := HC.out _ (Below.refl _ _)
  go_wp2_with fail
  go_region_held3 (fun W => W.cell? ⟨b, 0, none⟩ = some (.pointer (some ⟨p, 0, none⟩)) ∧ W.cell? ⟨w.heap.size, 2, none⟩ = some (.int .i64 (a : Int)) ∧ W.cell? ⟨w.heap.size, 4, none⟩ = some (.slice A n c)) (first | with_reducible exact HC.out _ HW0.out | with_reducible exact HC3.out)
    (first
    | (go_at_call 16; (with_reducible refine HWR.out.mono ?_); rintro e w3 ⟨er, rfl, hcg, hq⟩; have HQ := Lib.hid hq; have HM3 : Hid (GM w3 b p (fun i => byt (C i) 0 (y i).s) G) := (HM2.out.keep (HW0.out.block b HM2.out.lt)).keep (hcg.block b HM2.out.lt (by simp; exact HP.out.2.2.1)); have HX3 : Hid (w3.heap[w.heap.size]? = some (Obj.cells #[.int .i64 0, .int .i64 x1, .int .i64 (a : Int), .int .i64 x3, .slice A n c] 29)) := (hcg.block w.heap.size (Array.getElem?_eq_some_iff.1 HXB2.out).1 (by simp; exact HQX.out)).trans HXB2.out; have HT3 : Hid (RF w3 T (byt (C i) 0 (y i).s) (G i)) := HT2.out.keep (hcg.block T HT2.out.lt (by simp; exact HQT.out)); have HC3 : Hid (w3.cell? ⟨b, 0, none⟩ = some (.pointer (some ⟨p, 0, none⟩)) ∧ w3.cell? ⟨w.heap.size, 2, none⟩ = some (.int .i64 (a : Int)) ∧ w3.cell? ⟨w.heap.size, 4, none⟩ = some (.slice A n c)) := ⟨HM3.out.c0, (cell_of_row w3 w.heap.size 2 _ 29 _ HX3.out).trans rfl, (cell_of_row w3 w.heap.size 4 _ 29 _ HX3.out).trans rfl⟩; clear hcg hq))
  obtain ⟨g0, g2, g4⟩ := HC3.out
  clear HEN HC HW0 HWR HM2 HXB2 HT2 p2 p4 HC3
  have q0 : ¬ (a : Int) < 0 := by omega
  have q5 : ¬ n = 0 := by omega
  rcases HQ.out with ⟨rfl, m3, y', f', haft, hsz, hnz⟩ | ⟨rfl, bf, m3, hno⟩
  · have HS3 := Lib.hid haft.sto
    have HTW := Lib.hid ((HF.out.two hi).aft (HS2.out.below (w' := w2.drew) (Below.refl _ _).drew) (by omega) (by omega) (by omega) haft)
    have HF4 : Hid (Fls N (view X m3) (setf y i y') (setf f i f') (setf C i (ovr (C i) a xs n)) (setf G i (wrG (G i) a n kn))) := by
      show Fls _ _ _ _ _ _
      rw [← HKK.out]
      exact HF.out.of_two hi HTW.out (wrG_bl q3 (HF.out.bl i hi) hnz)
    have HLB : Hid ((wrL (byt (C i) 0 (y i).s) a xs) = byt (ovr (C i) a xs n) 0 y'.s) := by show _ = _; rw [hsz]; exact wrL_byt (HF.out.fl i hi).zero hnl
    have hcv : (convert 27 9 (.slice A n c)).run Tryz.prog w3 = .ok (.string (sb xs)) w3 := (HD.out.below HS3.out.ons.sit.bel).str w3 fun _ _ => rfl
    clear haft hsz hnz HTW HQ HS2
    go_wp2_with (first | (refine D.wpList_load_row rfl 46 _ rfl T rfl _ _ _ HT3.out _ Tryz.underlying46 rfl (s46 _ _) ?_) | fail)
    refine (HRW.out w3).mono ?_
    rintro e w4 ⟨rfl, hb4⟩
    go_upto_region 15 with (first | (refine D.wpList_store_new rfl 46 _ _ rfl w4 Tryz.zeroCells46 (rc (wrL (byt (C i) 0 (y i).s) a xs) (wrG (G i) a n kn)).toArray rfl rfl (s46 _ _) (z46z' _ _) (all_oneCell_toArray (rc_one _ _)) ?_) | fail)
    obtain ⟨d0, d1, d2⟩ := D.box1 w4 (Obj.cells (rc (wrL (byt (C i) 0 (y i).s) a xs) (wrG (G i) a n kn)).toArray 46)
    have hbb := hb4.trans (d1.mono hb4.size)
    have HS5 := Lib.hid (HS3.out.below hbb)
    have HM5 : Hid (GM (w4.alloc (Obj.cells (rc (wrL (byt (C i) 0 (y i).s) a xs) (wrG (G i) a n kn)).toArray 46)) b p (fun i => byt (C i) 0 (y i).s) G) := HM3.out.keep (hbb.block b HM3.out.lt)
    have HT5 : Hid (RF (w4.alloc (Obj.cells (rc (wrL (byt (C i) 0 (y i).s) a xs) (wrG (G i) a n kn)).toArray 46)) T (byt (C i) 0 (y i).s) (G i)) := HT3.out.keep (hbb.block T HT3.out.lt)
    have HX5 : Hid ((w4.alloc (Obj.cells (rc (wrL (byt (C i) 0 (y i).s) a xs) (wrG (G i) a n kn)).toArray 46)).heap[w.heap.size]? = some (Obj.cells #[.int .i64 0, .int .i64 x1, .int .i64 (a : Int), .int .i64 x3, .slice A n c] 29)) := (hbb.block w.heap.size (Array.getElem?_eq_some_iff.1 HX3.out).1).trans HX3.out
    have HN5 : Hid (RF (w4.alloc (Obj.cells (rc (wrL (byt (C i) 0 (y i).s) a xs) (wrG (G i) a n kn)).toArray 46)) w4.heap.size (wrL (byt (C i) 0 (y i).s) a xs) (wrG (G i) a n kn)) := d0
    generalize w4.alloc (Obj.cells (rc (wrL (byt (C i) 0 (y i).s) a xs) (wrG (G i) a n kn)).toArray 46) = w5 at *
    clear hb4 d0 d1 d2 hbb HS3 HM3 HT3 HX3 HRW hcv g0 g2 g4
    go_upto_region 16 with (first | (refine D.wpList_load_row rfl 46 _ rfl w4.heap.size rfl _ _ _ HN5.out _ Tryz.underlying46 rfl (s46 _ _) ?_) | (refine D.wpList_store_row rfl 46 _ _ rfl T _ (rc (wrL (byt (C i) 0 (y i).s) a xs) (wrG (G i) a n kn)).toArray 46 rfl rfl HT5.out (s46 _ _) (rcz _ _ _ _) (all_oneCell_toArray (rc_one _ _)) ?_) | fail)
    have HS6 := Lib.hid (side_ HS5.out (chg_setRow w5 T (rc (wrL (byt (C i) 0 (y i).s) a xs) (wrG (G i) a n kn)).toArray) HPT.out)
    have HT6 : Hid (RF (w5.setRow T (rc (wrL (byt (C i) 0 (y i).s) a xs) (wrG (G i) a n kn)).toArray) T (wrL (byt (C i) 0 (y i).s) a xs) (wrG (G i) a n kn)) := D.setRow_in _ _ _ _ _ HT5.out
    have HM6 : Hid (GM (w5.setRow T (rc (wrL (byt (C i) 0 (y i).s) a xs) (wrG (G i) a n kn)).toArray) b p (fun i => byt (C i) 0 (y i).s) G) := HM5.out.keep (setRow_other w5 T b _ (Ne.symm hbT))
    have HX6 : Hid ((w5.setRow T (rc (wrL (byt (C i) 0 (y i).s) a xs) (wrG (G i) a n kn)).toArray).heap[w.heap.size]? = some (Obj.cells #[.int .i64 0, .int .i64 x1, .int .i64 (a : Int), .int .i64 x3, .slice A n c] 29)) := (setRow_other w5 T w.heap.size _ hbXT).trans HX5.out
    generalize w5.setRow T (rc (wrL (byt (C i) 0 (y i).s) a xs) (wrG (G i) a n kn)).toArray = w6 at *
    have c6 := HM6.out.c0
    have v2 : w6.cell? ⟨w.heap.size, 2, none⟩ = some (.int .i64 (a : Int)) := (cell_of_row w6 w.heap.size 2 _ 29 _ HX6.out).trans rfl
    have v4 : w6.cell? ⟨w.heap.size, 4, none⟩ = some (.slice A n c) := (cell_of_row w6 w.heap.size 4 _ 29 _ HX6.out).trans rfl
    clear HS5 HM5 HT5 HX5 HN5
    go_upto_region 27 with fail
    have hi3 : (i : Int) < 2 := by omega
    have hs46 := s46l (wrL (byt (C i) 0 (y i).s) a xs) (wrG (G i) a n kn)
    have HR8 : Hid (w6.drew.rangeAt T 0 (rc (wrL (byt (C i) 0 (y i).s) a xs) (wrG (G i) a n kn))) := fun k v hv => by rw [Nat.zero_add, cell_of_row w6.drew T k _ 46 _ HT6.out, List.getElem?_toArray]; exact hv
    have HTH : Hid (w6.drew.there b (3 + i * 77) (rc (wrL (byt (C i) 0 (y i).s) a xs) (wrG (G i) a n kn)).toArray.size) := by have := HM6.out.there hi (wrL (byt (C i) 0 (y i).s) a xs) (wrG (G i) a n kn); rw [Nat.mul_comm] at this; exact this
    have HM8 : Hid (GM (w6.drew.setCells b (3 + i * 77) (rc (wrL (byt (C i) 0 (y i).s) a xs) (wrG (G i) a n kn)).toArray.toList) b p (fun j => byt (setf C i (ovr (C i) a xs n) j) 0 (setf y i y' j).s) (setf G i (wrG (G i) a n kn))) := by
      have h7 := GM.store (w := w6.drew) HM6.out hi (wrL (byt (C i) 0 (y i).s) a xs) (wrG (G i) a n kn)
      rw [Nat.mul_comm] at h7
      show GM _ _ _ _ _
      rw [← setf_byt, ← HLB.out]
      exact h7
    have hcg : Chg [b] w6.drew (w6.drew.setCells b (3 + i * 77) (rc (wrL (byt (C i) 0 (y i).s) a xs) (wrG (G i) a n kn)).toArray.toList) := (Chg.refl _ _).setCells (.inl (by simp)) _ _
    have HS8 := Lib.hid (side_ (HS6.out.below (w' := w6.drew) (Below.refl _ _).drew) hcg HP.out)
    have HR9 : Hid ((w6.drew.setCells b (3 + i * 77) (rc (wrL (byt (C i) 0 (y i).s) a xs) (wrG (G i) a n kn)).toArray.toList).rangeAt T 0 (rc (wrL (byt (C i) 0 (y i).s) a xs) (wrG (G i) a n kn))) := World.rangeAt_setCells_apart HR8.out _ _ _ (.inl hbT)
    clear hcg HS6 HM6 HT6
    go_upto_region 35 with fail
    refine wp_region_noPanic ?_
    refine wp_region_held_drew (S := fun W => W.rangeAt T 0 (rc (wrL (byt (C i) 0 (y i).s) a xs) (wrG (G i) a n kn))) (by kernel_rfl) HR8.out (fun hHeld => ?_)
    refine wpAnyH_take (i := 0) (oi := { dst := some 198, op := Op.move (Operand.tmp 0), type := 23, pos := "law.go:148", after := #[], guard := none }) (v := ?_) rfl (by kernel_rfl) (by kernel_rfl) (by kernel_rfl) (fun _ _ _ h => h) (Or.inl ⟨by rfl, ?_⟩) (by assumption) ?_
    rotate_left
    · intro w hSw; (try dsimp only at hSw); go_simp <;> with_reducible rfl
    try simp only [Act.put, List.setIfInBounds_toArray, List.set_cons_zero, List.set_cons_succ]
    refine wpAnyH_take (i := 1) (oi := { dst := some 199, op := Op.move (Operand.tmp 7), type := 3, pos := "law.go:148", after := #[], guard := none }) (v := ?_) rfl (by kernel_rfl) (by kernel_rfl) (by kernel_rfl) (fun _ _ _ h => h) (Or.inl ⟨by rfl, ?_⟩) (by assumption) ?_
    rotate_left
    · intro w hSw; (try dsimp only at hSw); go_simp <;> with_reducible rfl
    try simp only [Act.put, List.setIfInBounds_toArray, List.set_cons_zero, List.set_cons_succ]
    refine wpAnyH_take (i := 2) (oi := { dst := some 200, op := Op.load 46 (Operand.tmp 11), type := 46, pos := "law.go:148", after := #[], guard := none }) (v := .agg (rc (wrL (byt (C i) 0 (y i).s) a xs) (wrG (G i) a n kn)).toArray) rfl (by kernel_rfl) (by kernel_rfl) (by kernel_rfl) (fun _ _ _ h => h) (yieldsIf_load_mid (by rfl) 46 _ rfl T (0) rfl (rc (wrL (byt (C i) 0 (y i).s) a xs) (wrG (G i) a n kn)) _ (fun w hw => hw) Tryz.underlying46 rfl hs46) (by assumption) ?_
    try simp only [Act.put, List.setIfInBounds_toArray, List.set_cons_zero, List.set_cons_succ]
    refine wpAnyH_take (i := 3) (oi := { dst := some 201, op := Op.nilCheck (Operand.tmp 198), type := 0, pos := "law.go:148", after := #[{ on := 0, ground := Ground.data }], guard := none }) (v := ?_) rfl (by kernel_rfl) (by kernel_rfl) (by kernel_rfl) (fun _ _ _ h => h) (Or.inl ⟨by rfl, ?_⟩) (by assumption) ?_
    rotate_left
    · intro w hSw; (try dsimp only at hSw); go_simp <;> with_reducible rfl
    try simp only [Act.put, List.setIfInBounds_toArray, List.set_cons_zero, List.set_cons_succ]
    refine wpAnyH_take (i := 4) (oi := { dst := some 202, op := Op.fieldAddr 67 (Operand.tmp 201) 2, type := 0, pos := "law.go:148", after := #[{ on := 3, ground := Ground.data }], guard := none }) (v := ?_) rfl (by kernel_rfl) (by kernel_rfl) (by kernel_rfl) (fun _ _ _ h => h) (Or.inl ⟨by rfl, ?_⟩) (by assumption) ?_
    rotate_left
    · intro w hSw; (try dsimp only at hSw); go_simp <;> with_reducible rfl
    try simp only [Act.put, List.setIfInBounds_toArray, List.set_cons_zero, List.set_cons_succ]
    refine wpAnyH_take (i := 5) (oi := { dst := some 203, op := Op.indexAddr 65 (Operand.tmp 202) (Operand.tmp 199), type := 0, pos := "law.go:148", after := #[{ on := 4, ground := Ground.data }, { on := 1, ground := Ground.data }, { on := 0, ground := Ground.phase }, { on := 1, ground := Ground.phase }, { on := 2, ground := Ground.phase }], guard := none }) (v := ?_) rfl (by kernel_rfl) (by kernel_rfl) (by kernel_rfl) (fun _ _ _ h => h) (Or.inl ⟨by rfl, ?_⟩) (by assumption) ?_
    rotate_left
    · intro w hSw; (try dsimp only at hSw); go_simp <;> with_reducible rfl
    try simp only [Act.put, List.setIfInBounds_toArray, List.set_cons_zero, List.set_cons_succ]
    refine wpAnyH_ready (rs := [6]) (by kernel_rfl) (by simp) ?_
    refine AllReadyH.cons (o := { dst := none, op := Op.store 46 (Operand.tmp 203) (Operand.tmp 200), type := 0, pos := "law.go:148", after := #[{ on := 5, ground := Ground.data }, { on := 2, ground := Ground.data }, { on := 0, ground := Ground.phase }, { on := 1, ground := Ground.phase }, { on := 2, ground := Ground.phase }], guard := none }) rfl (fun K hK => ?_) AllReadyH.nil
    rw [if_pos (by rfl)]
    refine wp_store_mid 46 _ _ rfl b (3 + i * 77) (rc (wrL (byt (C i) 0 (y i).s) a xs) (wrG (G i) a n kn)).toArray rfl rfl HTH.out (s46 _ _) (all_oneCell_toArray (rc_one _ _)) ?_
    simp only [Act.put]
    refine hK.out _ _ HR9.out (fun hHeld => ?_)
    clear hK K
    refine wpAnyH_done (by kernel_rfl) ?_ _
    refine NoPanic.normal ?_
    generalize w6.drew.setCells b (3 + i * 77) (rc (wrL (byt (C i) 0 (y i).s) a xs) (wrG (G i) a n kn)).toArray.toList = w8 at *
    have c8 := HM8.out.c0
    go_wp2_with fail
    refine (commit_view HS8.out).mono ?_
    rintro e w9 ⟨rfl, O9, s9, X9, h9, hv9, hc9, ho9⟩
    have HF9 : Hid (Fls N (view X9 []) (setf y i y') (setf f i f') (setf C i (ovr (C i) a xs n)) (setf G i (wrG (G i) a n kn))) := by show Fls _ _ _ _ _ _; rw [hv9]; exact HF4.out
    have HE : Hid (PInv w0 w9 b p d q N) := ⟨O9, s9, X9, _, _, _, _, h9, HF9.out, HM8.out.keep (hc9.block b HM8.out.lt (by simp; exact ⟨HP.out.2.2.1, HP.out.1⟩)), fun hm => (ho9 _ hm).elim HP.out.1 fun h => by have := HM8.out.lt; omega, HP.out.2⟩
    clear h9 hv9 hc9 ho9 HF9 HM8 HS8 HF4
    go_wp2_with fail
    go_ret
    exact ⟨rfl, HE.out⟩
  · obtain ⟨m4, hm4⟩ : ∃ m4, Sto w0 w3 p d O N s X q m4 := ⟨_, hno.sto_⟩
    have HS3 := Lib.hid hm4
    have HTF : Hid (nzn (f i) + (N - 43 - (nzn (f i) + nzn (f (1 - i)))) < sct (wrG (G i) a n kn) ∧ sct (G i) = nzn (f i) ∧ sct (wrG (G i) a n kn) ≤ 86) := by
      show _ ∧ _
      rw [← HKK.out, ← gl_len (f (1 - i))]
      obtain ⟨t1, t2⟩ := too_few hno (gl_nodup (HF.out.two hi).b.mid) (HF.out.fl i hi).mid (HF.out.fl i hi).min (HF.out.bl i hi) q3 han HS2.out.n64
      exact ⟨t1, t2, by rw [fW_sct (HF.out.fl i hi).mid (HF.out.fl i hi).min (HF.out.bl i hi) q3]; exact nzn_86 _⟩
    have hcv : (convert 27 9 (.slice A n c)).run Tryz.prog w3 = .ok (.string (sb xs)) w3 := (HD.out.below HS3.out.ons.sit.bel).str w3 fun _ _ => rfl
    clear hno hm4 HQ HS2
    go_wp2_with (first | (refine D.wpList_load_row rfl 46 _ rfl T rfl _ _ _ HT3.out _ Tryz.underlying46 rfl (s46 _ _) ?_) | fail)
    refine (HRW.out w3).mono ?_
    rintro e w4 ⟨rfl, hb4⟩
    go_upto_region 15 with (first | (refine D.wpList_store_new rfl 46 _ _ rfl w4 Tryz.zeroCells46 (rc (wrL (byt (C i) 0 (y i).s) a xs) (wrG (G i) a n kn)).toArray rfl rfl (s46 _ _) (z46z' _ _) (all_oneCell_toArray (rc_one _ _)) ?_) | fail)
    obtain ⟨d0, d1, d2⟩ := D.box1 w4 (Obj.cells (rc (wrL (byt (C i) 0 (y i).s) a xs) (wrG (G i) a n kn)).toArray 46)
    have hbb := hb4.trans (d1.mono hb4.size)
    have HS5 := Lib.hid (HS3.out.below hbb)
    have HM5 : Hid (GM (w4.alloc (Obj.cells (rc (wrL (byt (C i) 0 (y i).s) a xs) (wrG (G i) a n kn)).toArray 46)) b p (fun i => byt (C i) 0 (y i).s) G) := HM3.out.keep (hbb.block b HM3.out.lt)
    have HT5 : Hid (RF (w4.alloc (Obj.cells (rc (wrL (byt (C i) 0 (y i).s) a xs) (wrG (G i) a n kn)).toArray 46)) T (byt (C i) 0 (y i).s) (G i)) := HT3.out.keep (hbb.block T HT3.out.lt)
    have HX5 : Hid ((w4.alloc (Obj.cells (rc (wrL (byt (C i) 0 (y i).s) a xs) (wrG (G i) a n kn)).toArray 46)).heap[w.heap.size]? = some (Obj.cells #[.int .i64 0, .int .i64 x1, .int .i64 (a : Int), .int .i64 x3, .slice A n c] 29)) := (hbb.block w.heap.size (Array.getElem?_eq_some_iff.1 HX3.out).1).trans HX3.out
    have HN5 : Hid (RF (w4.alloc (Obj.cells (rc (wrL (byt (C i) 0 (y i).s) a xs) (wrG (G i) a n kn)).toArray 46)) w4.heap.size (wrL (byt (C i) 0 (y i).s) a xs) (wrG (G i) a n kn)) := d0
    generalize w4.alloc (Obj.cells (rc (wrL (byt (C i) 0 (y i).s) a xs) (wrG (G i) a n kn)).toArray 46) = w5 at *
    clear hb4 d0 d1 d2 hbb HS3 HM3 HT3 HX3 HRW hcv g0 g2 g4
    go_upto_region 16 with (first | (refine D.wpList_load_row rfl 46 _ rfl w4.heap.size rfl _ _ _ HN5.out _ Tryz.underlying46 rfl (s46 _ _) ?_) | (refine D.wpList_store_row rfl 46 _ _ rfl T _ (rc (wrL (byt (C i) 0 (y i).s) a xs) (wrG (G i) a n kn)).toArray 46 rfl rfl HT5.out (s46 _ _) (rcz _ _ _ _) (all_oneCell_toArray (rc_one _ _)) ?_) | fail)
    have HS6 := Lib.hid (side_ HS5.out (chg_setRow w5 T (rc (wrL (byt (C i) 0 (y i).s) a xs) (wrG (G i) a n kn)).toArray) HPT.out)
    have HT6 : Hid (RF (w5.setRow T (rc (wrL (byt (C i) 0 (y i).s) a xs) (wrG (G i) a n kn)).toArray) T (wrL (byt (C i) 0 (y i).s) a xs) (wrG (G i) a n kn)) := D.setRow_in _ _ _ _ _ HT5.out
    have HM6 : Hid (GM (w5.setRow T (rc (wrL (byt (C i) 0 (y i).s) a xs) (wrG (G i) a n kn)).toArray) b p (fun i => byt (C i) 0 (y i).s) G) := HM5.out.keep (setRow_other w5 T b _ (Ne.symm hbT))
    have HX6 : Hid ((w5.setRow T (rc (wrL (byt (C i) 0 (y i).s) a xs) (wrG (G i) a n kn)).toArray).heap[w.heap.size]? = some (Obj.cells #[.int .i64 0, .int .i64 x1, .int .i64 (a : Int), .int .i64 x3, .slice A n c] 29)) := (setRow_other w5 T w.heap.size _ hbXT).trans HX5.out
    generalize w5.setRow T (rc (wrL (byt (C i) 0 (y i).s) a xs) (wrG (G i) a n kn)).toArray = w6 at *
    have c6 := HM6.out.c0
    have v2 : w6.cell? ⟨w.heap.size, 2, none⟩ = some (.int .i64 (a : Int)) := (cell_of_row w6 w.heap.size 2 _ 29 _ HX6.out).trans rfl
    have v4 : w6.cell? ⟨w.heap.size, 4, none⟩ = some (.slice A n c) := (cell_of_row w6 w.heap.size 4 _ 29 _ HX6.out).trans rfl
    clear HS5 HM5 HT5 HX5 HN5
    go_wp2_with fail
    refine (drop_any HS6.out).mono ?_
    rintro e w9 ⟨rfl, hs9, hc9⟩
    have HS9 := Lib.hid hs9
    have HM9 : Hid (GM w9 b p (fun i => byt (C i) 0 (y i).s) G) := HM6.out.keep (hc9.block b HM6.out.lt (by simp; exact HP.out.2.2.1))
    have HT9 : Hid (RF w9 T (wrL (byt (C i) 0 (y i).s) a xs) (wrG (G i) a n kn)) := HT6.out.keep (hc9.block T HT6.out.lt (by simp; exact HQT.out))
    have HX9 : Hid (w9.heap[w.heap.size]? = some (Obj.cells #[.int .i64 0, .int .i64 x1, .int .i64 (a : Int), .int .i64 x3, .slice A n c] 29)) := (hc9.block w.heap.size (Array.getElem?_eq_some_iff.1 HX6.out).1 (by simp; exact HQX.out)).trans HX6.out
    obtain ⟨s1, hs1⟩ : ∃ s1, sct (wrG (G i) a n kn) = s1 := ⟨_, rfl⟩
    obtain ⟨s0, hs0⟩ : ∃ s0, sct (G i) = s0 := ⟨_, rfl⟩
    obtain ⟨fr, hfr⟩ : ∃ fr, N - 43 - (nzn (f i) + nzn (f (1 - i))) = fr := ⟨_, rfl⟩
    have htf := HTF.out
    rw [hs1, hs0, hfr] at htf
    have h86 : s1 ≤ 86 := htf.2.2
    have hlt : fr + s0 < s1 := by omega
    have hgt : (fr : Int) < (s1 : Int) - (s0 : Int) := by omega
    have HR1 : Hid (∀ W, Calls Tryz.prog 29 #[.agg (rc (wrL (byt (C i) 0 (y i).s) a xs) (wrG (G i) a n kn)).toArray] W fun e w' => e = .returned (.int .i64 (s1 : Int)) ∧ Below W.heap.size W w') := fun W => by have h := rfSectors_any (wrL (byt (C i) 0 (y i).s) a xs) (wrG (G i) a n kn) W; rw [hs1] at h; exact h
    have HR0 : Hid (∀ W, Calls Tryz.prog 29 #[.agg (rc (byt (C i) 0 (y i).s) (G i)).toArray] W fun e w' => e = .returned (.int .i64 (s0 : Int)) ∧ Below W.heap.size W w') := fun W => by have h := rfSectors_any (byt (C i) 0 (y i).s) (G i) W; rw [hs0] at h; exact h
    have HFR : Hid (∀ W, Below w9.heap.size w9 W → Calls Tryz.prog 26 #[.pointer (some ⟨p, 0, none⟩)] W fun e w' => e = .returned (.int .i64 (fr : Int)) ∧ Below W.heap.size W w') := fun W hW => by have h := (HF.out.two hi).free (HS9.out.below hW); rw [hfr] at h; exact h
    have HV9 : Hid (∀ W, Below w9.heap.size w9 W → W.cell? ⟨w.heap.size, 0, none⟩ = some (.int .i64 0) ∧ W.rangeAt T 0 (rc (wrL (byt (C i) 0 (y i).s) a xs) (wrG (G i) a n kn)) ∧ W.rangeAt b (3 + i * 77) (rc (byt (C i) 0 (y i).s) (G i)) ∧ W.cell? ⟨b, 0, none⟩ = some (.pointer (some ⟨p, 0, none⟩))) := fun W hW => by
      have hM : GM W b p (fun i => byt (C i) 0 (y i).s) G := HM9.out.keep (hW.block b HM9.out.lt)
      have hr := hM.range hi
      rw [Nat.mul_comm] at hr
      exact ⟨(cell_of_row W w.heap.size 0 _ 29 _ ((hW.block w.heap.size (Array.getElem?_eq_some_iff.1 HX9.out).1).trans HX9.out)).trans rfl, fun k v hv => by rw [Nat.zero_add, cell_of_row W T k _ 46 _ (HT9.out.keep (hW.block T HT9.out.lt)), List.getElem?_toArray]; exact hv, hr, hM.c0⟩
    have HE : Hid (∀ W, Below w9.heap.size w9 W → PInv w0 W b p d q N) := fun W hW => ⟨O, s, X, y, f, C, G, HS9.out.below hW, HF.out, HM9.out.keep (hW.block b HM9.out.lt), HP.out⟩
    have HWd : Hid (Below w9.heap.size w9 w9.drew) := (Below.refl _ _).drew
    have hs46 := s46l (wrL (byt (C i) 0 (y i).s) a xs) (wrG (G i) a n kn)
    have hs46' := s46l (byt (C i) 0 (y i).s) (G i)
    have hi3 : (i : Int) < 2 := by omega
    clear hs9 hc9 htf hs1 hs0 hfr HS9 HM9 HT9 HX9 HTF HS6 HM6 HT6 HX6 v2 v4 c6
    go_upto_region 29 with fail
    refine wp_region_noPanic ?_
    refine wp_region_held_drew (S := fun W => W.cell? ⟨w.heap.size, 0, none⟩ = some (.int .i64 0) ∧ W.rangeAt T 0 (rc (wrL (byt (C i) 0 (y i).s) a xs) (wrG (G i) a n kn)) ∧ W.rangeAt b (3 + i * 77) (rc (byt (C i) 0 (y i).s) (G i)) ∧ W.cell? ⟨b, 0, none⟩ = some (.pointer (some ⟨p, 0, none⟩))) (by kernel_rfl) (HV9.out _ HWd.out) (fun hHeld => ?_)
    refine wpAnyH_take (i := 0) (oi := { dst := some 167, op := Op.fieldAddr 29 (Operand.tmp 4) 0, type := 0, pos := "law.go:139", after := #[], guard := none }) (v := ?_) rfl (by kernel_rfl) (by kernel_rfl) (by kernel_rfl) (fun _ _ _ h => h) (Or.inl ⟨by rfl, ?_⟩) (by assumption) ?_
    rotate_left
    · intro w hSw; (try dsimp only at hSw); go_simp <;> with_reducible rfl
    try simp only [Act.put, List.setIfInBounds_toArray, List.set_cons_zero, List.set_cons_succ]
    refine wpAnyH_take (i := 1) (oi := { dst := some 168, op := Op.load 3 (Operand.tmp 167), type := 3, pos := "law.go:139", after := #[{ on := 0, ground := Ground.data }], guard := none }) (v := ?_) rfl (by kernel_rfl) (by kernel_rfl) (by kernel_rfl) (fun _ _ _ h => h) (Or.inl ⟨by rfl, ?_⟩) (by assumption) ?_
    rotate_left
    · intro w hSw; (try dsimp only at hSw); go_simp <;> with_reducible rfl
    try simp only [Act.put, List.setIfInBounds_toArray, List.set_cons_zero, List.set_cons_succ]
    refine wpAnyH_take (i := 2) (oi := { dst := some 169, op := Op.binOp BinOp.eql 3 (Operand.tmp 168) (Operand.const (Value.int IntKind.i64 0)) 3, type := 4, pos := "law.go:139", after := #[{ on := 1, ground := Ground.data }], guard := none }) (v := ?_) rfl (by kernel_rfl) (by kernel_rfl) (by kernel_rfl) (fun _ _ _ h => h) (Or.inl ⟨by rfl, ?_⟩) (by assumption) ?_
    rotate_left
    · intro w hSw; (try dsimp only at hSw); go_simp <;> with_reducible rfl
    try simp only [Act.put, List.setIfInBounds_toArray, List.set_cons_zero, List.set_cons_succ]
    refine wpAnyH_take (i := 3) (oi := { dst := some 170, op := Op.move (Operand.tmp 169), type := 4, pos := "law.go:139", after := #[{ on := 2, ground := Ground.data }], guard := none }) (v := ?_) rfl (by kernel_rfl) (by kernel_rfl) (by kernel_rfl) (fun _ _ _ h => h) (Or.inl ⟨by rfl, ?_⟩) (by assumption) ?_
    rotate_left
    · intro w hSw; (try dsimp only at hSw); go_simp <;> with_reducible rfl
    try simp only [Act.put, List.setIfInBounds_toArray, List.set_cons_zero, List.set_cons_succ]
    refine wpAnyH_take (i := 4) (oi := { dst := some 171, op := Op.load 46 (Operand.tmp 11), type := 46, pos := "law.go:139", after := #[{ on := 3, ground := Ground.guard }], guard := some (3, true) }) (v := .agg (rc (wrL (byt (C i) 0 (y i).s) a xs) (wrG (G i) a n kn)).toArray) rfl (by kernel_rfl) (by kernel_rfl) (by kernel_rfl) (fun _ _ _ h => h) (yieldsIf_load_mid (by rfl) 46 _ rfl T (0) rfl (rc (wrL (byt (C i) 0 (y i).s) a xs) (wrG (G i) a n kn)) _ (fun w hw => hw.2.1) Tryz.underlying46 rfl hs46) (by assumption) ?_
    try simp only [Act.put, List.setIfInBounds_toArray, List.set_cons_zero, List.set_cons_succ]
    refine wpAnyH_take (i := 6) (oi := { dst := some 173, op := Op.move (Operand.tmp 0), type := 23, pos := "law.go:139", after := #[{ on := 3, ground := Ground.guard }], guard := some (3, true) }) (v := ?_) rfl (by kernel_rfl) (by kernel_rfl) (by kernel_rfl) (fun _ _ _ h => h) (Or.inl ⟨by rfl, ?_⟩) (by assumption) ?_
    rotate_left
    · intro w hSw; (try dsimp only at hSw); go_simp <;> with_reducible rfl
    try simp only [Act.put, List.setIfInBounds_toArray, List.set_cons_zero, List.set_cons_succ]
    refine wpAnyH_take (i := 7) (oi := { dst := some 174, op := Op.move (Operand.tmp 7), type := 3, pos := "law.go:139", after := #[{ on := 3, ground := Ground.guard }], guard := some (3, true) }) (v := ?_) rfl (by kernel_rfl) (by kernel_rfl) (by kernel_rfl) (fun _ _ _ h => h) (Or.inl ⟨by rfl, ?_⟩) (by assumption) ?_
    rotate_left
    · intro w hSw; (try dsimp only at hSw); go_simp <;> with_reducible rfl
    try simp only [Act.put, List.setIfInBounds_toArray, List.set_cons_zero, List.set_cons_succ]
    refine wpAnyH_take (i := 8) (oi := { dst := some 175, op := Op.nilCheck (Operand.tmp 173), type := 0, pos := "law.go:139", after := #[{ on := 6, ground := Ground.data }, { on := 3, ground := Ground.guard }], guard := some (3, true) }) (v := ?_) rfl (by kernel_rfl) (by kernel_rfl) (by kernel_rfl) (fun _ _ _ h => h) (Or.inl ⟨by rfl, ?_⟩) (by assumption) ?_
    rotate_left
    · intro w hSw; (try dsimp only at hSw); go_simp <;> with_reducible rfl
    try simp only [Act.put, List.setIfInBounds_toArray, List.set_cons_zero, List.set_cons_succ]
    refine wpAnyH_take (i := 9) (oi := { dst := some 176, op := Op.fieldAddr 67 (Operand.tmp 175) 2, type := 0, pos := "law.go:139", after := #[{ on := 8, ground := Ground.data }, { on := 3, ground := Ground.guard }], guard := some (3, true) }) (v := ?_) rfl (by kernel_rfl) (by kernel_rfl) (by kernel_rfl) (fun _ _ _ h => h) (Or.inl ⟨by rfl, ?_⟩) (by assumption) ?_
    rotate_left
    · intro w hSw; (try dsimp only at hSw); go_simp <;> with_reducible rfl
    try simp only [Act.put, List.setIfInBounds_toArray, List.set_cons_zero, List.set_cons_succ]
    refine wpAnyH_take (i := 10) (oi := { dst := some 177, op := Op.indexAddr 65 (Operand.tmp 176) (Operand.tmp 174), type := 0, pos := "law.go:139", after := #[{ on := 9, ground := Ground.data }, { on := 7, ground := Ground.data }, { on := 3, ground := Ground.guard }], guard := some (3, true) }) (v := ?_) rfl (by kernel_rfl) (by kernel_rfl) (by kernel_rfl) (fun _ _ _ h => h) (Or.inl ⟨by rfl, ?_⟩) (by assumption) ?_
    rotate_left
    · intro w hSw; (try dsimp only at hSw); go_simp <;> with_reducible rfl
    try simp only [Act.put, List.setIfInBounds_toArray, List.set_cons_zero, List.set_cons_succ]
    refine wpAnyH_take (i := 11) (oi := { dst := some 178, op := Op.load 46 (Operand.tmp 177), type := 46, pos := "law.go:139", after := #[{ on := 10, ground := Ground.data }, { on := 3, ground := Ground.guard }], guard := some (3, true) }) (v := .agg (rc (byt (C i) 0 (y i).s) (G i)).toArray) rfl (by kernel_rfl) (by kernel_rfl) (by kernel_rfl) (fun _ _ _ h => h) (yieldsIf_load_mid (by rfl) 46 _ rfl b (3 + i * 77) rfl (rc (byt (C i) 0 (y i).s) (G i)) _ (fun w hw => hw.2.2.1) Tryz.underlying46 rfl hs46') (by assumption) ?_
    try simp only [Act.put, List.setIfInBounds_toArray, List.set_cons_zero, List.set_cons_succ]
    refine wpAnyH_take (i := 14) (oi := { dst := some 181, op := Op.move (Operand.tmp 0), type := 23, pos := "law.go:139", after := #[{ on := 3, ground := Ground.guard }], guard := some (3, true) }) (v := ?_) rfl (by kernel_rfl) (by kernel_rfl) (by kernel_rfl) (fun _ _ _ h => h) (Or.inl ⟨by rfl, ?_⟩) (by assumption) ?_
    rotate_left
    · intro w hSw; (try dsimp only at hSw); go_simp <;> with_reducible rfl
    try simp only [Act.put, List.setIfInBounds_toArray, List.set_cons_zero, List.set_cons_succ]
    refine wpAnyH_take (i := 15) (oi := { dst := some 182, op := Op.nilCheck (Operand.tmp 181), type := 0, pos := "law.go:139", after := #[{ on := 14, ground := Ground.data }, { on := 3, ground := Ground.guard }], guard := some (3, true) }) (v := ?_) rfl (by kernel_rfl) (by kernel_rfl) (by kernel_rfl) (fun _ _ _ h => h) (Or.inl ⟨by rfl, ?_⟩) (by assumption) ?_
    rotate_left
    · intro w hSw; (try dsimp only at hSw); go_simp <;> with_reducible rfl
    try simp only [Act.put, List.setIfInBounds_toArray, List.set_cons_zero, List.set_cons_succ]
    refine wpAnyH_take (i := 16) (oi := { dst := some 183, op := Op.fieldAddr 67 (Operand.tmp 182) 0, type := 0, pos := "law.go:139", after := #[{ on := 15, ground := Ground.data }, { on := 3, ground := Ground.guard }], guard := some (3, true) }) (v := ?_) rfl (by kernel_rfl) (by kernel_rfl) (by kernel_rfl) (fun _ _ _ h => h) (Or.inl ⟨by rfl, ?_⟩) (by assumption) ?_
    rotate_left
    · intro w hSw; (try dsimp only at hSw); go_simp <;> with_reducible rfl
    try simp only [Act.put, List.setIfInBounds_toArray, List.set_cons_zero, List.set_cons_succ]
    refine wpAnyH_take (i := 17) (oi := { dst := some 184, op := Op.load 37 (Operand.tmp 183), type := 37, pos := "law.go:139", after := #[{ on := 16, ground := Ground.data }, { on := 3, ground := Ground.guard }], guard := some (3, true) }) (v := ?_) rfl (by kernel_rfl) (by kernel_rfl) (by kernel_rfl) (fun _ _ _ h => h) (Or.inl ⟨by rfl, ?_⟩) (by assumption) ?_
    rotate_left
    · intro w hSw; (try dsimp only at hSw); go_simp <;> with_reducible rfl
    try simp only [Act.put, List.setIfInBounds_toArray, List.set_cons_zero, List.set_cons_succ]
    refine wpAnyH_ready (rs := [5]) (by kernel_rfl) (by simp) ?_
    refine AllReadyH.cons (o := { dst := some 172, op := Op.call { callee := Callee.value (Operand.func 29), args := #[Operand.tmp 171], argTypes := #[46] }, type := 3, pos := "law.go:139", after := #[{ on := 4, ground := Ground.data }, { on := 3, ground := Ground.chain }, { on := 3, ground := Ground.guard }], guard := some (3, true) }) rfl (fun K hK => ?_) AllReadyH.nil
    go_simp
    go_at_call 29
    refine (HR1.out _).mono ?_
    rintro e w10 ⟨rfl, hb⟩
    have HB10 := Lib.hid (HWd.out.trans (hb.mono HWd.out.size))
    clear hb
    go_wp2_with fail
    refine hK.out _ _ (HV9.out _ HB10.out) (fun hHeld => ?_)
    clear hK K
    refine wpAnyH_ready (rs := [12]) (by kernel_rfl) (by simp) ?_
    refine AllReadyH.cons (o := { dst := some 179, op := Op.call { callee := Callee.value (Operand.func 29), args := #[Operand.tmp 178], argTypes := #[46] }, type := 3, pos := "law.go:139", after := #[{ on := 11, ground := Ground.data }, { on := 5, ground := Ground.chain }, { on := 3, ground := Ground.guard }], guard := some (3, true) }) rfl (fun K hK => ?_) AllReadyH.nil
    go_simp
    go_at_call 29
    refine (HR0.out _).mono ?_
    rintro e w11 ⟨rfl, hb⟩
    have HB11 := Lib.hid (HB10.out.trans (hb.mono HB10.out.size))
    clear hb
    go_wp2_with fail
    refine hK.out _ _ (HV9.out _ HB11.out) (fun hHeld => ?_)
    clear hK K
    refine wpAnyH_take (i := 13) (oi := { dst := some 180, op := Op.binOp BinOp.sub 3 (Operand.tmp 172) (Operand.tmp 179) 3, type := 3, pos := "law.go:139", after := #[{ on := 5, ground := Ground.data }, { on := 12, ground := Ground.data }, { on := 3, ground := Ground.guard }], guard := some (3, true) }) (v := ?_) rfl (by kernel_rfl) (by kernel_rfl) (by kernel_rfl) (fun _ _ _ h => h) (Or.inl ⟨by rfl, ?_⟩) (by assumption) ?_
    rotate_left
    · intro w hSw; (try dsimp only at hSw); go_simp <;> with_reducible rfl
    try simp only [Act.put, List.setIfInBounds_toArray, List.set_cons_zero, List.set_cons_succ]
    refine wpAnyH_ready (rs := [18]) (by kernel_rfl) (by simp) ?_
    refine AllReadyH.cons (o := { dst := some 185, op := Op.call { callee := Callee.value (Operand.func 26), args := #[Operand.tmp 184], argTypes := #[37] }, type := 3, pos := "law.go:139", after := #[{ on := 17, ground := Ground.data }, { on := 12, ground := Ground.chain }, { on := 3, ground := Ground.guard }], guard := some (3, true) }) rfl (fun K hK => ?_) AllReadyH.nil
    go_simp
    go_at_call 26
    refine (HFR.out _ HB11.out).mono ?_
    rintro e w12 ⟨rfl, hb⟩
    have HB12 := Lib.hid (HB11.out.trans (hb.mono HB11.out.size))
    clear hb
    go_wp2_with fail
    refine hK.out _ _ (HV9.out _ HB12.out) (fun hHeld => ?_)
    clear hK K
    refine wpAnyH_take (i := 19) (oi := { dst := some 186, op := Op.binOp BinOp.gtr 3 (Operand.tmp 180) (Operand.tmp 185) 3, type := 4, pos := "law.go:139", after := #[{ on := 13, ground := Ground.data }, { on := 18, ground := Ground.data }, { on := 3, ground := Ground.guard }], guard := some (3, true) }) (v := ?_) rfl (by kernel_rfl) (by kernel_rfl) (by kernel_rfl) (fun _ _ _ h => h) (Or.inl ⟨by rfl, ?_⟩) (by assumption) ?_
    rotate_left
    · intro w hSw; (try dsimp only at hSw); go_simp <;> with_reducible rfl
    try simp only [Act.put, List.setIfInBounds_toArray, List.set_cons_zero, List.set_cons_succ]
    refine wpAnyH_take (i := 20) (oi := { dst := some 187, op := Op.pick (Operand.tmp 170) (Operand.tmp 186) (Operand.const (Value.bool false)), type := 4, pos := "law.go:139", after := #[{ on := 3, ground := Ground.data }, { on := 19, ground := Ground.data }], guard := none }) (v := ?_) rfl (by kernel_rfl) (by kernel_rfl) (by kernel_rfl) (fun _ _ _ h => h) (Or.inl ⟨by rfl, ?_⟩) (by assumption) ?_
    rotate_left
    · intro w hSw; (try dsimp only at hSw); go_simp <;> with_reducible rfl
    try simp only [Act.put, List.setIfInBounds_toArray, List.set_cons_zero, List.set_cons_succ]
    refine wpAnyH_take (i := 21) (oi := { dst := some 6, op := Op.assign (Operand.tmp 187), type := 4, pos := "law.go:139", after := #[{ on := 20, ground := Ground.data }, { on := 18, ground := Ground.chain }, { on := 0, ground := Ground.phase }, { on := 1, ground := Ground.phase }, { on := 2, ground := Ground.phase }, { on := 3, ground := Ground.phase }, { on := 4, ground := Ground.phase }, { on := 5, ground := Ground.phase }, { on := 6, ground := Ground.phase }, { on := 7, ground := Ground.phase }, { on := 8, ground := Ground.phase }, { on := 9, ground := Ground.phase }, { on := 10, ground := Ground.phase }, { on := 11, ground := Ground.phase }, { on := 12, ground := Ground.phase }, { on := 13, ground := Ground.phase }, { on := 14, ground := Ground.phase }, { on := 15, ground := Ground.phase }, { on := 16, ground := Ground.phase }, { on := 17, ground := Ground.phase }, { on := 18, ground := Ground.phase }, { on := 19, ground := Ground.phase }, { on := 20, ground := Ground.phase }], guard := none }) (v := ?_) rfl (by kernel_rfl) (by kernel_rfl) (by kernel_rfl) (fun _ _ _ h => h) (Or.inl ⟨by rfl, ?_⟩) (by assumption) ?_
    rotate_left
    · intro w hSw; (try dsimp only at hSw); go_simp <;> with_reducible rfl
    try simp only [Act.put, List.setIfInBounds_toArray, List.set_cons_zero, List.set_cons_succ]
    refine wpAnyH_done (by kernel_rfl) ?_ _
    refine NoPanic.normal ?_
    go_wp2_with fail
    go_ret
    refine ⟨?_, HE.out _ HB12.out⟩
    have hw : IntKind.i64.wrap ((s1 : Int) - (s0 : Int)) = (s1 : Int) - (s0 : Int) := by rw [IntKind.wrap_i64]; omega
    show Ending.returned (.bool (decide ((fr : Int) < IntKind.i64.wrap ((s1 : Int) - (s0 : Int))))) = _
    rw [hw, decide_eq_true hgt]
end Go.Proofs.YtijbgdihnjnllaaGreat.V
