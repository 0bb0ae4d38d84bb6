/- 'spare', 'New', where the first two nodes behind 0 are taken. -/
import Derived.Test.YtijbgdihnjnllaaGreatSNew
namespace Go.Proofs.YtijbgdihnjnllaaGreat
open Go.RowKit
set_option linter.unusedVariables false
set_option maxRecDepth 20000
section
variable {w0 w : World} {p d N q : Nat} {O : List Nat} {s : DS} {X : Secs2} {m : List Wr}
def SpR3 (w : World) (y : D.Nn) (e : Ending) (w' : World) : Prop := e = .returned (.tuple #[.int .i64 3, .agg (D.nc y.up).toArray, .int .i64 0]) ∧ Below w.heap.size w w'
set_option maxHeartbeats 1000000 in
theorem spare_three (h : Sto w0 w p d O N s X q m) {y1 y2 y3 : D.Nn} (n1 : ∀ w', Below w.heap.size w w' → Calls Tryz.prog 30 #[.pointer (some ⟨p, 0, none⟩), .int .i64 1] w' (NodeR w' y1)) (n2 : ∀ w', Below w.heap.size w w' → Calls Tryz.prog 30 #[.pointer (some ⟨p, 0, none⟩), .int .i64 2] w' (NodeR w' y2)) (n3 : ∀ w', Below w.heap.size w w' → Calls Tryz.prog 30 #[.pointer (some ⟨p, 0, none⟩), .int .i64 3] w' (NodeR w' y3)) (h1 : y1.k ≠ 0) (h2 : y2.k ≠ 0) (h3 : y3.k = 0) :
    Calls Tryz.prog 40 #[.pointer (some ⟨p, 0, none⟩)] w (SpR3 w y3) := by
  have N1 := Lib.hid n1
  have N2 := Lib.hid n2
  have N3 := Lib.hid n3
  have HK1 : Hid ((y1.up.k == 0) = false) := by show _ = _; rw [beq_eq_false_iff_ne]; show (y1.k : Int) ≠ 0; omega
  have HK2 : Hid ((y2.up.k == 0) = false) := by show _ = _; rw [beq_eq_false_iff_ne]; show (y2.k : Int) ≠ 0; omega
  have HK3 : Hid ((y3.up.k == 0) = true) := by show _ = _; rw [beq_iff_eq]; show (y3.k : Int) = 0; omega
  obtain ⟨a0, a1, a2⟩ := D.box1 w (Obj.cells D.z11 72)
  have A0 := Lib.hid a0
  have A1 := Lib.hid a1
  have A2 := Lib.hid a2
  clear h n1 n2 n3 h1 h2 h3 a0 a1 a2
  go_enter Tryz.func40, Tryz.ntmps40
  go_wp2_with fail
  go_loopw [5] (fun i wr => ∃ k : Nat, (k = 1 ∨ k = 2 ∨ k = 3) ∧ i = .int .i64 k ∧ Hid (Below (w.heap.size + 1) (w.alloc (Obj.cells D.z11 72)) wr)) (fun i _ => 4 - (intOf i).toNat)
  case atStart => exact ⟨1, .inl rfl, rfl, Below.refl _ _⟩
  case round =>
    obtain ⟨k, hk, rfl, HB⟩ := hrel
    have GB := Lib.hid (A1.out.trans (HB.out.mono (by omega)))
    have G0 := Lib.hid ((HB.out.block w.heap.size (by omega)).trans A0.out)
    have hs0 : w.heap.size + 1 ≤ wr.heap.size := by have := HB.out.size; rw [A2.out] at this; exact this
    rcases hk with rfl | rfl | rfl
    · rw [show ((1 : Nat) : Int) = 1 from rfl]
      go_wp2_with fail
      refine (N1.out wr GB.out).mono ?_
      rintro e w1 ⟨rfl, hb⟩
      obtain ⟨b0, b1, b2⟩ := D.box1 w1 (Obj.cells (D.nc y1.up).toArray 72)
      have hs1 := hb.size
      have HB1 : Hid (Below (w.heap.size + 1) (w.alloc (Obj.cells D.z11 72)) (w1.alloc (Obj.cells (D.nc y1.up).toArray 72))) := (HB.out.trans (hb.mono hs0)).trans (b1.mono (by omega))
      have B0 := Lib.hid b0
      clear hb b0 b1 b2
      go_upto_region 5 with (first | (refine wpList_store_new rfl 72 _ _ rfl w1 D.z11 (D.nc y1.up).toArray rfl rfl s47 rfl (all_oneCell_toArray (D.nc_one _)) ?_) | fail)
      generalize w1.alloc (Obj.cells (D.nc y1.up).toArray 72) = W at *
      have c0 : W.cell? ⟨w1.heap.size, 0, none⟩ = some (.int .i64 y1.up.k) := cell_of_row _ _ 0 _ _ _ B0.out
      have hk1 := HK1.out
      go_wp2_with fail
      go_roundw
      case rel => exact ⟨2, .inr (.inl rfl), rfl, HB1⟩
      case measure => decide
    · rw [show ((2 : Nat) : Int) = 2 from rfl]
      go_wp2_with fail
      refine (N2.out wr GB.out).mono ?_
      rintro e w1 ⟨rfl, hb⟩
      obtain ⟨b0, b1, b2⟩ := D.box1 w1 (Obj.cells (D.nc y2.up).toArray 72)
      have hs1 := hb.size
      have HB1 : Hid (Below (w.heap.size + 1) (w.alloc (Obj.cells D.z11 72)) (w1.alloc (Obj.cells (D.nc y2.up).toArray 72))) := (HB.out.trans (hb.mono hs0)).trans (b1.mono (by omega))
      have B0 := Lib.hid b0
      clear hb b0 b1 b2
      go_upto_region 5 with (first | (refine wpList_store_new rfl 72 _ _ rfl w1 D.z11 (D.nc y2.up).toArray rfl rfl s47 rfl (all_oneCell_toArray (D.nc_one _)) ?_) | fail)
      generalize w1.alloc (Obj.cells (D.nc y2.up).toArray 72) = W at *
      have c0 : W.cell? ⟨w1.heap.size, 0, none⟩ = some (.int .i64 y2.up.k) := cell_of_row _ _ 0 _ _ _ B0.out
      have hk1 := HK2.out
      go_wp2_with fail
      go_roundw
      case rel => exact ⟨3, .inr (.inr rfl), rfl, HB1⟩
      case measure => decide
    · rw [show ((3 : Nat) : Int) = 3 from rfl]
      go_wp2_with fail
      refine (N3.out wr GB.out).mono ?_
      rintro e w1 ⟨rfl, hb⟩
      obtain ⟨b0, b1, b2⟩ := D.box1 w1 (Obj.cells (D.nc y3.up).toArray 72)
      have hs1 := hb.size
      have GB1 := Lib.hid ((GB.out.trans (hb.mono (by omega))).trans (b1.mono (by omega)))
      have G1 := Lib.hid ((b1.block w.heap.size (by omega)).trans ((hb.block w.heap.size (by omega)).trans G0.out))
      have B0 := Lib.hid b0
      clear hb b0 b1 b2
      go_upto_region 5 with (first | (refine wpList_store_new rfl 72 _ _ rfl w1 D.z11 (D.nc y3.up).toArray rfl rfl s47 rfl (all_oneCell_toArray (D.nc_one _)) ?_) | fail)
      generalize w1.alloc (Obj.cells (D.nc y3.up).toArray 72) = W at *
      have c0 : W.cell? ⟨w1.heap.size, 0, none⟩ = some (.int .i64 y3.up.k) := cell_of_row _ _ 0 _ _ _ B0.out
      have hk3 := HK3.out
      go_upto_region 8 with fail
      have e1 : W.cell? ⟨w1.heap.size, 1, none⟩ = some (.int .i64 y3.up.l) := cell_of_row _ _ 1 _ _ _ B0.out
      have e2 : W.cell? ⟨w1.heap.size, 2, none⟩ = some (.int .i64 y3.up.g) := cell_of_row _ _ 2 _ _ _ B0.out
      have e3 : W.cell? ⟨w1.heap.size, 3, none⟩ = some (.int .i64 y3.up.s) := cell_of_row _ _ 3 _ _ _ B0.out
      have e4 : W.cell? ⟨w1.heap.size, 4, none⟩ = some (.int .i64 y3.up.c) := cell_of_row _ _ 4 _ _ _ B0.out
      have e5 : W.cell? ⟨w1.heap.size, 5, none⟩ = some (.int .i64 y3.up.d0) := cell_of_row _ _ 5 _ _ _ B0.out
      have e6 : W.cell? ⟨w1.heap.size, 6, none⟩ = some (.int .i64 y3.up.d1) := cell_of_row _ _ 6 _ _ _ B0.out
      have e7 : W.cell? ⟨w1.heap.size, 7, none⟩ = some (.int .i64 y3.up.d2) := cell_of_row _ _ 7 _ _ _ B0.out
      have e8 : W.cell? ⟨w1.heap.size, 8, none⟩ = some (.int .i64 y3.up.d3) := cell_of_row _ _ 8 _ _ _ B0.out
      have e9 : W.cell? ⟨w1.heap.size, 9, none⟩ = some (.int .i64 y3.up.o) := cell_of_row _ _ 9 _ _ _ B0.out
      have e10 : W.cell? ⟨w1.heap.size, 10, none⟩ = some (.int .i64 y3.up.t) := cell_of_row _ _ 10 _ _ _ B0.out
      go_still_tail 3, (by kernel_rfl)
      change wpList _ _ _ _ _ W.drew
      clear c0 e1 e2 e3 e4 e5 e6 e7 e8 e9 e10
      have G2 : Hid (W.drew.heap[w.heap.size]? = some (.cells D.z11 72 (0, 0))) := G1.out
      have B2 : Hid (W.drew.heap[w1.heap.size]? = some (.cells (D.nc y3.up).toArray 72 (0, 0))) := B0.out
      have GB2 := Lib.hid GB1.out.drew
      generalize W.drew = V at *
      go_wp2_with (first | (refine D.wpList_store_row rfl 72 _ _ rfl w.heap.size D.z11 (D.nc y3.up).toArray 72 rfl rfl G2.out s47 rfl (all_oneCell_toArray (D.nc_one _)) ?_) | fail)
      refine bodyPost_ret (ret_tct rfl rfl (D.setRow_in _ _ _ (D.nc y3.up).toArray _ G2.out) Tryz.underlying72 rfl s47) rfl ?_
      exact ⟨rfl, below_setRow GB2.out (Nat.le_refl _) _⟩
def NewQ3 (w0 w : World) (p d : Nat) (O : List Nat) (N : Nat) (s : DS) (X : Secs2) (q : Nat) (m' : List Wr) (e : Ending) (w' : World) : Prop := e = .returned (.tuple #[.int .i64 3, .int .i64 0]) ∧ Sto w0 w' p d O N s X q m' ∧ Chg [q] w w'
set_option maxHeartbeats 2000000 in
theorem new_three (h : Sto w0 w p d O N s X q m) {a b c : Nat} (hv : view X m 0 = U.sec a b c) (hok : U.ok a b c = true) (hc : c < 1073741824) {k : Nat} (hk : k = 1 ∨ k = 2) {y1 : D.Nn}
    (g1 : D.good (nodeB X m 1) = true) (r1 : (D.rd (nodeB X m 1)).k ≠ 0) (g2 : D.good (nodeB X m 2) = true) (r2 : (D.rd (nodeB X m 2)).k ≠ 0) (g3 : D.good (nodeB X m 3) = true) (r3 : D.rd (nodeB X m 3) = D.zeroN) (hn : (nn k (c + 1)).up.ok = true)
    (hr : Room N m [(0, U.sec a b (c + 1)), (35, putN X m 3 (nn k (c + 1)))]) :
    Calls Tryz.prog 15 #[.pointer (some ⟨p, 0, none⟩), .int .i64 k] w (NewQ3 w0 w p d O N s X q (insAll [(0, U.sec a b (c + 1)), (35, putN X m 3 (nn k (c + 1)))] m)) := by
  have H := Lib.hid h
  have HR := Lib.hid hr
  have HN := Lib.hid hn
  have HSP : Hid (∀ w', Below w.heap.size w w' → Calls Tryz.prog 40 #[.pointer (some ⟨p, 0, none⟩)] w' (SpR3 w' D.zeroN)) := fun w' hb => by
    rw [← r3]
    refine spare_three (h.below hb) (fun w2 hb2 => ?_) (fun w2 hb2 => ?_) (fun w2 hb2 => ?_) r1 r2 (by rw [r3]; rfl)
    · exact node_yes (n := 1) ((h.below hb).below hb2) (by omega) g1
    · exact node_yes (n := 2) ((h.below hb).below hb2) (by omega) g2
    · exact node_yes (n := 3) ((h.below hb).below hb2) (by omega) g3
  have HCT : Hid (∀ w', Below w.heap.size w w' → Calls Tryz.prog 41 #[.pointer (some ⟨p, 0, none⟩)] w' (CntR w' a b c)) := fun w' hb => counted_yes (h.below hb) hv hok hc
  have HPL := Lib.hid (putN_len h (n := 3) (by omega) (nn k (c + 1)))
  have HWN : Hid (∀ w', Below w.heap.size w w' → Calls Tryz.prog 42 #[.pointer (some ⟨p, 0, none⟩), .int .i64 3, .agg #[.int .i64 (k : Int), .int .i64 1, .int .i64 ((c + 1 : Nat) : Int), .int .i64 0, .int .i64 1, .int .i64 0, .int .i64 0, .int .i64 0, .int .i64 0, .int .i64 0, .int .i64 0]] w' (WrR w' 35 (putN X m 3 (nn k (c + 1))))) := fun w' hb => withNode_yes (n := 3) (h.below hb) (by omega) (nn k (c + 1)) hn
  have hkk : ((k : Int) != 1 && (k : Int) != 2) = false := by rcases hk with rfl | rfl <;> rfl
  have hk1 : ((k : Int) != 1) = decide (k ≠ 1) := by rcases hk with rfl | rfl <;> rfl
  have hc1' : ((c + 1 : Nat) : Int) ≤ 1073741824 := by omega
  obtain ⟨c1, hc1⟩ : ∃ c1, c + 1 = c1 := ⟨_, rfl⟩
  unfold CntR at HCT
  simp only [hc1] at HR HN HCT HPL HWN hc1' ⊢
  clear h hr hn hv hok hc g1 r1 g2 r2 g3 r3 hc1
  go_enter Tryz.func15, Tryz.ntmps15
  go_wp2_with fail
  refine (barred_ok H.out.st).mono ?_
  rintro e w1 ⟨rfl, rfl⟩
  have HBK : Hid (k = 1 ∨ k = 2) := hk
  rcases hk with rfl | rfl
  all_goals
    go_wp2_with fail
    refine (HSP.out w (Below.refl _ _)).mono ?_
    rintro e w1 ⟨rfl, hb⟩
    have HB1 := Lib.hid hb
    clear hb
    obtain ⟨b0, b1, b2⟩ := D.box1 w1 (Obj.cells (D.nc D.zeroN.up).toArray 72)
    have B0 := Lib.hid b0
    have HB2 := Lib.hid (HB1.out.trans (b1.mono HB1.out.size))
    have hs1 : w1.heap.size < (w1.alloc (Obj.cells (D.nc D.zeroN.up).toArray 72)).heap.size := by rw [b2]; omega
    clear b0 b1 b2
    go_upto_region 7 with (first | (refine wpList_store_new rfl 72 _ _ rfl w1 D.z11 (D.nc D.zeroN.up).toArray rfl rfl s47 rfl (all_oneCell_toArray (D.nc_one _)) ?_) | fail)
    generalize w1.alloc (Obj.cells (D.nc D.zeroN.up).toArray 72) = W1 at *
    go_wp2_with fail
    refine (HCT.out W1 HB2.out).mono ?_
    rintro e w2 ⟨g, cap, rfl, hbt, hg1, hg2, hb⟩
    have HBT := Lib.hid hbt
    have B1 := Lib.hid ((hb.block w1.heap.size hs1).trans B0.out)
    have HB3 := Lib.hid (HB2.out.trans (hb.mono HB2.out.size))
    have hs2 := hb.size
    clear hbt hb B0
    obtain ⟨b0, b1, b2⟩ := D.box1 w2 (Obj.cells #[.int .i64 0, .slice (some ⟨g, 0, none⟩) 128 cap] 87)
    have C0 := Lib.hid b0
    have B2 := Lib.hid ((b1.block w1.heap.size (by omega)).trans B1.out)
    have HBT2 := Lib.hid (HBT.out.keep fun b hb => by cases hb; exact b1.block g hg2)
    have HB4 := Lib.hid (HB3.out.trans (b1.mono HB3.out.size))
    have hs3 : w2.heap.size < (w2.alloc (Obj.cells #[.int .i64 0, .slice (some ⟨g, 0, none⟩) 128 cap] 87)).heap.size := by rw [b2]; omega
    clear b0 b1 b2 B1 HBT HB3
    go_upto_region 10 with (first | (refine wpList_store_new rfl 87 _ _ rfl w2 #[.int .i64 0, .slice none 0 0] #[.int .i64 0, .slice (some ⟨g, 0, none⟩) 128 cap] rfl rfl s34 rfl (oc2 _ _ _ _) ?_) | fail)
    generalize w2.alloc (Obj.cells #[.int .i64 0, .slice (some ⟨g, 0, none⟩) 128 cap] 87) = W2 at *
    have c4 : W2.cell? ⟨w1.heap.size, 4, none⟩ = some (.int .i64 0) := cell_of_row _ _ 4 _ _ _ B2.out
    go_wp2_with fail
    rw [show (min 1 1073741824 : Int) = 1 from rfl]
    refine (HWN.out W2 HB4.out).mono ?_
    rintro e w3 ⟨g', cap', rfl, hbt, hg1', hg2', hb⟩
    have HBT' := Lib.hid hbt
    have C1 := Lib.hid ((hb.block w2.heap.size hs3).trans C0.out)
    have HBT3 := Lib.hid (HBT2.out.keep fun b hb' => by cases hb'; exact hb.block g (by omega))
    have HB5 := Lib.hid (HB4.out.trans (hb.mono HB4.out.size))
    have hs4 := hb.size
    clear hbt hb C0 HBT2 HB4 c4 B2
    obtain ⟨b0, b1, b2⟩ := D.box1 w3 (Obj.cells #[.int .i64 35, .slice (some ⟨g', 0, none⟩) 128 cap'] 87)
    have E0 := Lib.hid b0
    have C2 := Lib.hid ((b1.block w2.heap.size (by omega)).trans C1.out)
    have HBT4 := Lib.hid (HBT3.out.keep fun b hb => by cases hb; exact b1.block g (by omega))
    have HBT5 := Lib.hid (HBT'.out.keep fun b hb => by cases hb; exact b1.block g' hg2')
    have HB6 := Lib.hid (HB5.out.trans (b1.mono HB5.out.size))
    have hs5 : w3.heap.size < (w3.alloc (Obj.cells #[.int .i64 35, .slice (some ⟨g', 0, none⟩) 128 cap'] 87)).heap.size := by rw [b2]; omega
    clear b0 b1 b2 C1 HBT3 HBT' HB5
    go_upto_region 13 with (first | (refine wpList_store_new rfl 87 _ _ rfl w3 #[.int .i64 0, .slice none 0 0] #[.int .i64 35, .slice (some ⟨g', 0, none⟩) 128 cap'] rfl rfl s34 rfl (oc2 _ _ _ _) ?_) | fail)
    generalize w3.alloc (Obj.cells #[.int .i64 35, .slice (some ⟨g', 0, none⟩) 128 cap'] 87) = W3 at *
    have H6 := Lib.hid (H.out.below HB6.out)
    have hqw := H.out.map.lt
    have hwW := HB2.out.size
    go_wp2_with (first | (refine D.wpList_load_row rfl 87 _ rfl w2.heap.size rfl _ _ _ C2.out _ Tryz.underlying87 rfl s34 ?_) | (refine D.wpList_load_row rfl 87 _ rfl w3.heap.size rfl _ _ _ E0.out _ Tryz.underlying87 rfl s34 ?_) | fail)
    have hbx := (Below.refl W3.heap.size W3).alloc (Nat.le_refl _) (.cells #[.int .i64 0, .slice (some ⟨g, 0, none⟩) 128 cap, .int .i64 35, .slice (some ⟨g', 0, none⟩) 128 cap'] 87)
    refine (change_any (H6.out.below hbx) (wrs_2 0 35 HBT4.out HBT5.out (fun b hb => by cases hb; omega) (fun b hb => by cases hb; omega)) ?_ HR.out).mono ?_
    · rintro b ((hb | hb) | rfl)
      · cases hb; exact ⟨by simp; omega, by omega⟩
      · cases hb; exact ⟨by simp; omega, by omega⟩
      · exact ⟨by simp, by have := H6.out.map.lt; omega⟩
    · rintro e w4 ⟨rfl, hs, hc⟩
      have HS := Lib.hid hs
      have HC := Lib.hid (((Chg.of_below HB6.out).tr (Chg.of_below hbx)).tr hc)
      clear hs hc hbx
      go_wp2_with fail
      go_ret2
      exact ⟨rfl, HS.out, HC.out⟩
end
end Go.Proofs.YtijbgdihnjnllaaGreat
