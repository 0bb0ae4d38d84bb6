/- 'withNode', 'SetNode', 'counted', 'spare', 'New', of a store at rest. -/
import Derived.Test.YtijbgdihnjnllaaGreatSRead
namespace Go.Proofs.YtijbgdihnjnllaaGreat
open Go.RowKit
set_option linter.unusedVariables false
set_option maxRecDepth 20000

theorem oc2 (x : Int) (A : Option Addr) (n c : Nat) : (#[.int .i64 x, .slice A n c] : Array Value).all (·.oneCell') = true := all_oneCell_toArray (cs := [.int .i64 x, .slice A n c]) (by simp [Value.oneCell'])
/-- A write that is handed back, its bytes in a block of its own. -/
def WrR (w : World) (k : Nat) (x : List UInt8) (e : Ending) (w' : World) : Prop := ∃ g cap, e = .returned (.tuple #[.agg #[.int .i64 k, .slice (some ⟨g, 0, none⟩) 128 cap], .int .i64 0]) ∧ Bts w' (IM g) (some ⟨g, 0, none⟩) 128 cap x ∧ w.heap.size ≤ g ∧ g < w'.heap.size ∧ Below w.heap.size w w'
def putN (X : Secs2) (m : List Wr) (n : Nat) (y : D.Nn) : List UInt8 := D.put (view X m (35 + n / 4)) (n % 4) y.img
section
variable {w0 w : World} {p d N q : Nat} {O : List Nat} {s : DS} {X : Secs2} {m : List Wr}
theorem putN_len (h : Sto w0 w p d O N s X q m) {n : Nat} (hn : n < 32) (y : D.Nn) : (putN X m n y).length = 128 :=
  D.put_len (h.view_len (by have := h.n64; omega) (by unfold inLog; omega)) (by omega) y.img_len
set_option maxHeartbeats 1000000 in
theorem withNode_yes (h : Sto w0 w p d O N s X q m) {n : Nat} (hn : n < 32) (y : D.Nn) (hy : y.up.ok = true) :
    Calls Tryz.prog 42 #[.pointer (some ⟨p, 0, none⟩), .int .i64 n, .agg (D.nc y.up).toArray] w (WrR w (35 + n / 4) (putN X m n y)) := by
  obtain ⟨a0, a1, a2, a3⟩ := D.box2 w (Obj.cells (D.nc y.up).toArray 72) (Obj.cells #[.int .i64 0, .slice none 0 0] 87)
  have A0 := Lib.hid a0
  have A1 := Lib.hid a1
  have A2 := Lib.hid a2
  have A3 := Lib.hid a3
  have H := Lib.hid (h.below a2)
  have HY := Lib.hid hy
  have HPL := Lib.hid (putN_len h hn y)
  have HL := Lib.hid (h.view_len (n := 35 + n / 4) (by have := h.n64; omega) (by unfold inLog; omega))
  have HP : Hid (putN X m n y = D.put (view X m (35 + n / 4)) (n % 4) y.img) := rfl
  clear a0 a1 a2 a3 h hy
  have hm4 := mod4 n
  have hm5 : IntKind.i64.wrap ((n : Int).tmod 4) = ((n % 4 : Nat) : Int) := by rw [hm4, IntKind.wrap_i64]; omega
  go_enter Tryz.func42, Tryz.ntmps42
  go_wp2_with fail
  refine (around_yes H.out hn).mono ?_
  rintro e w1 ⟨b, rfl, hb1, hb2, hb3⟩
  have HB := Lib.hid (fb hb2 HL.out)
  have G0 := Lib.hid ((hb3.block w.heap.size (by rw [A3.out]; omega)).trans A0.out)
  have G1 := Lib.hid ((hb3.block (w.heap.size + 1) (by rw [A3.out]; omega)).trans A1.out)
  have GB := Lib.hid (A2.out.trans (hb3.mono (by rw [A3.out]; omega)))
  have hs1 : w.heap.size + 1 + 1 ≤ w1.heap.size := by have := hb3.size; rw [A3.out] at this; exact this
  clear hb1 hb2 hb3 A0 A1 A2 A3
  go_wp2_with (first | (refine D.wpList_load_row rfl 72 _ rfl w.heap.size rfl _ _ _ G0.out _ Tryz.underlying72 rfl s47 ?_) | fail)
  refine (D.put_yes (i := n % 4) y HB.out (Nat.le_refl _) (by omega) HY.out).mono ?_
  rintro e w2 ⟨v, rfl, hm⟩
  rw [← HP.out] at hm
  obtain ⟨g, cap, rfl, hg1, hg2, hbt⟩ := mine_bts hm (by rw [HPL.out]; omega)
  rw [HPL.out] at hbt ⊢
  have HBT := Lib.hid hbt
  have G2 := Lib.hid ((hm.bel.block (w.heap.size + 1) (by omega)).trans G1.out)
  have GB2 := Lib.hid (GB.out.trans (hm.bel.mono (by omega)))
  have hs2 := hm.bel.size
  clear hm hbt G0 G1 GB HB
  go_wp2_with fail
  refine (holder_any n _ hn).mono ?_
  rintro e w3 ⟨rfl, rfl⟩
  go_wp2_with (first | (refine D.wpList_store_row rfl 87 _ _ rfl (w.heap.size + 1) #[.int .i64 0, .slice none 0 0] #[.int .i64 ((35 + n / 4 : Nat) : Int), .slice (some ⟨g, 0, none⟩) 128 cap] 87 rfl rfl G2.out s34 rfl (oc2 _ _ _ _) ?_) | fail)
  refine bodyPost_ret (D.ret_row2 rfl rfl (D.setRow_in _ _ _ #[.int .i64 ((35 + n / 4 : Nat) : Int), .slice (some ⟨g, 0, none⟩) 128 cap] _ G2.out) Tryz.underlying87 rfl s34) rfl ?_
  refine ⟨g, cap, rfl, HBT.out.keep fun b hb => ?_, by omega, by simp [World.setRow]; exact hg2, below_setRow GB2.out (by omega) _⟩
  cases hb
  exact setRow_other w2 (w.heap.size + 1) g _ (by omega)
set_option maxHeartbeats 1000000 in
theorem setNode_yes (h : Sto w0 w p d O N s X q m) {n : Nat} (hn : n < 32) (y : D.Nn) (hy : y.up.ok = true) (hr : find m ((35 + n / 4 : Nat) : Int) ≠ none ∨ m.length < 24) :
    Calls Tryz.prog 71 #[.pointer (some ⟨p, 0, none⟩), .int .i64 n, .agg (D.nc y.up).toArray] w (Put1 w0 w p d O N s X q (ins ((35 + n / 4 : Nat) : Int) (putN X m n y) m)) := by
  obtain ⟨k, hk⟩ : ∃ k, 35 + n / 4 = k := ⟨_, rfl⟩
  have HW := Lib.hid (fun (w' : World) (hb : Below w.heap.size w w') => withNode_yes (h.below hb) hn y hy)
  rw [hk] at hr HW ⊢
  have hk1 : 35 ≤ k ∧ k < 43 := by omega
  obtain ⟨a0, a1, a2⟩ := D.box1 w (Obj.cells (D.nc y.up).toArray 72)
  have A0 := Lib.hid a0
  have A1 := Lib.hid a1
  have H := Lib.hid (h.below a1)
  have HY := Lib.hid hy
  have HR := Lib.hid hr
  have HPL := Lib.hid (putN_len h hn y)
  clear a0 a1 a2 h hy hr hk
  go_enter Tryz.func71, Tryz.ntmps71
  go_wp2_with (first | (refine D.wpList_load_row rfl 72 _ rfl w.heap.size rfl _ _ _ A0.out _ Tryz.underlying72 rfl s47 ?_) | fail)
  refine (HW.out _ A1.out).mono ?_
  rintro e w1 ⟨g, cap, rfl, hbt, hg1, hg2, hb⟩
  have H1 := Lib.hid (H.out.below hb)
  have HBT := Lib.hid hbt
  have GB := Lib.hid (A1.out.trans (hb.mono A1.out.size))
  have hgq : g ≠ q := by have := H.out.map.lt; omega
  clear hbt hb
  obtain ⟨b0, b1, b2⟩ := D.box1 w1 (Obj.cells #[.int .i64 (k : Int), .slice (some ⟨g, 0, none⟩) 128 cap] 87)
  have B1 := Lib.hid b1
  have B0 := Lib.hid b0
  clear b0 b1
  go_upto_region 4 with (first | (refine wpList_store_new rfl 87 _ _ rfl w1 #[.int .i64 0, .slice none 0 0] #[.int .i64 (k : Int), .slice (some ⟨g, 0, none⟩) 128 cap] rfl rfl s34 rfl (oc2 _ _ _ _) ?_) | fail)
  have H2 := Lib.hid (H1.out.below B1.out)
  have HB2 := Lib.hid (HBT.out.keep (w' := w1.alloc (Obj.cells #[.int .i64 (k : Int), .slice (some ⟨g, 0, none⟩) 128 cap] 87)) fun b hb => by cases hb; exact B1.out.block g hg2)
  have GB2 := Lib.hid (GB.out.trans (B1.out.mono GB.out.size))
  have hg3 : g < (w1.alloc (Obj.cells #[.int .i64 (k : Int), .slice (some ⟨g, 0, none⟩) 128 cap] 87)).heap.size := by rw [b2]; omega
  clear b2 B1 H1 HBT GB
  generalize w1.alloc (Obj.cells #[.int .i64 (k : Int), .slice (some ⟨g, 0, none⟩) 128 cap] 87) = W at *
  go_wp2_with (first | (refine D.wpList_load_row rfl 87 _ rfl w1.heap.size rfl _ _ _ B0.out _ Tryz.underlying87 rfl s34 ?_) | fail)
  have hbx := (Below.refl W.heap.size W).alloc (Nat.le_refl _) (.cells #[.int .i64 (k : Int), .slice (some ⟨g, 0, none⟩) 128 cap] 87)
  refine (change_any (ws := [((k : Int), putN X m n y)]) (H2.out.below hbx) (wrs_1 _ HB2.out (fun b hb => by cases hb; exact hg3)) ?_ ?_).mono ?_
  · rintro b (hb | rfl)
    · cases hb; exact ⟨by simp; omega, hgq⟩
    · exact ⟨by simp, by have := H2.out.map.lt; omega⟩
  · refine ⟨H2.out.mok, fun r hr => ?_, ?_⟩
    · simp at hr
      subst hr
      exact ⟨okn_of H2.out.n1 (n := k) (by have := H2.out.n64; omega) (by unfold inLog; omega), by have := H2.out.n64; simp; omega, HPL.out⟩
    · have := H2.out.mok.len
      unfold newk
      cases hf : find m (k : Int) with
      | some z => simp only [List.filter_cons, hf]; simp; omega
      | none =>
        rcases HR.out with g | g
        · exact absurd hf g
        · simp only [List.filter_cons, hf]; simp; omega
  · rintro e w2 ⟨rfl, hs, hc⟩
    have HS := Lib.hid hs
    have HC := Lib.hid (((Chg.of_below GB2.out).tr (Chg.of_below hbx)).tr hc)
    clear hs hc hbx
    go_wp2_with fail
    go_ret
    exact ⟨rfl, HS.out, HC.out⟩
/-- The beginning, one node more: (write, gen, error). -/
def CntR (w : World) (a b c : Nat) (e : Ending) (w' : World) : Prop := ∃ g cap, e = .returned (.tuple #[.agg #[.int .i64 0, .slice (some ⟨g, 0, none⟩) 128 cap], .int .i64 ((c + 1 : Nat) : Int), .int .i64 0]) ∧ Bts w' (IM g) (some ⟨g, 0, none⟩) 128 cap (U.sec a b (c + 1)) ∧ w.heap.size ≤ g ∧ g < w'.heap.size ∧ Below w.heap.size w w'
theorem ret_row3 {fn : Func} {p u t : Tmp} {ty : TypeId} (h : fn.results = #[.cell p ty, .tmp u, .tmp t]) {tmps : Array Value} {W : World} {g : Nat} {cs : Array Value} {ty' : TypeId} {fr : Nat × Nat} {d : TypeDesc} (hp : tmps.getD p undef = .pointer (some ⟨g, 0, none⟩)) (hg : W.heap[g]? = some (.cells cs ty' fr))
    (hu : Tryz.prog.underlying ty = some d) (hd : d.isRow = true) (hi : (Tryz.prog.info? ty).map (·.size) = some cs.size) : (results fn tmps).run Tryz.prog W = .ok (.tuple #[.agg cs, tmps.getD u undef, tmps.getD t undef]) W := by
  have hl := D.load_row (P := Tryz.prog) W g ty' ty cs fr d hg hu hd hi
  have hp' : tmps[p]?.getD undef = .pointer (some ⟨g, 0, none⟩) := by simpa using hp
  simp only [results, h]
  simp [hp', asAddr, hl]
set_option maxHeartbeats 1000000 in
theorem counted_yes (h : Sto w0 w p d O N s X q m) {a b c : Nat} (hv : view X m 0 = U.sec a b c) (hok : U.ok a b c = true) (hc : c < 1073741824) : Calls Tryz.prog 41 #[.pointer (some ⟨p, 0, none⟩)] w (CntR w a b c) := by
  have hs : U.IsSec (view X m 0) := by rw [hv]; exact U.isSec_sec hok
  have ho1 := U.ok_iff.1 hok
  have HB := Lib.hid (fun (w' : World) (hb : Below w.heap.size w w') => begins_yes (h.below hb) hs)
  rw [hv, U.num_sec0 a b c (by omega), U.num_sec1 a b c (by omega), U.num_sec2 a b c (by omega)] at HB
  have HOK : Hid (U.ok a b (c + 1 : Nat) = true) := U.ok_iff.2 (by omega)
  obtain ⟨a0, a1, a2⟩ := D.box1 w (Obj.cells #[.int .i64 0, .slice none 0 0] 87)
  have A0 := Lib.hid a0
  have A1 := Lib.hid a1
  have A2 := Lib.hid a2
  obtain ⟨c1, hc1⟩ : ∃ c1, c + 1 = c1 := ⟨_, rfl⟩
  have hcc : ((c : Int) == 1073741824) = false := by rw [beq_eq_false_iff_ne]; omega
  have hw1 : IntKind.i64.wrap ((c : Int) + 1) = (c1 : Int) := by rw [IntKind.wrap_i64]; omega
  unfold CntR
  rw [hc1] at HOK ⊢
  clear h hs hv hok a0 a1 a2 ho1 hc hc1
  go_enter Tryz.func41, Tryz.ntmps41
  go_wp2_with fail
  refine (HB.out _ A1.out).mono ?_
  rintro e w1 ⟨rfl, hb3⟩
  have G1 := Lib.hid ((hb3.block w.heap.size (by rw [A2.out]; omega)).trans A0.out)
  have GB := Lib.hid (A1.out.trans (hb3.mono (by rw [A2.out]; omega)))
  have hs1 : w.heap.size + 1 ≤ w1.heap.size := by have := hb3.size; rw [A2.out] at this; exact this
  clear hb3 A0 A1 A2
  obtain ⟨b0, b1, b2⟩ := D.box1 w1 (Obj.cells #[.int .i64 (a : Int), .int .i64 (b : Int), .int .i64 (c : Int)] 81)
  have B0 := Lib.hid b0
  have B1 := Lib.hid b1
  clear b0 b1
  go_upto_region 4 with (first | (refine wpList_store_new rfl 81 _ _ rfl w1 #[.int .i64 0, .int .i64 0, .int .i64 0] #[.int .i64 (a : Int), .int .i64 (b : Int), .int .i64 (c : Int)] rfl rfl s42 rfl (oc3 _ _ _) ?_) | fail)
  have G2 := Lib.hid ((B1.out.block w.heap.size (by omega)).trans G1.out)
  have GB2 := Lib.hid (GB.out.trans (B1.out.mono (by omega)))
  have hs2 : w1.heap.size < (w1.alloc (Obj.cells #[.int .i64 (a : Int), .int .i64 (b : Int), .int .i64 (c : Int)] 81)).heap.size := by rw [b2]; omega
  clear b2 B1 G1 GB
  generalize w1.alloc (Obj.cells #[.int .i64 (a : Int), .int .i64 (b : Int), .int .i64 (c : Int)] 81) = W at *
  have c2 : W.cell? ⟨w1.heap.size, 2, none⟩ = some (.int .i64 (c : Int)) := cell_of_row _ _ 2 _ _ _ B0.out
  have f2 := F.free_in B0.out 2
  go_upto_region 7 with fail
  have C0 : Hid ((W.setCell ⟨w1.heap.size, 2, none⟩ (.int .i64 (c1 : Int))).heap[w1.heap.size]? = some (.cells #[.int .i64 (a : Int), .int .i64 (b : Int), .int .i64 (c1 : Int)] 81 (0, 0))) := F.heap_set B0.out 2 _
  have G3 : Hid ((W.setCell ⟨w1.heap.size, 2, none⟩ (.int .i64 (c1 : Int))).heap[w.heap.size]? = some (.cells #[.int .i64 0, .slice none 0 0] 87 (0, 0))) := (Below.heap_setCell _ _ _ _ (by show w.heap.size ≠ w1.heap.size; omega)).trans G2.out
  have GB3 : Hid (Below w.heap.size w (W.setCell ⟨w1.heap.size, 2, none⟩ (.int .i64 (c1 : Int)))) := GB2.out.setCell (p := ⟨w1.heap.size, 2, none⟩) (by show w.heap.size ≤ w1.heap.size; omega) _
  have hs3 : w1.heap.size < (W.setCell ⟨w1.heap.size, 2, none⟩ (.int .i64 (c1 : Int))).heap.size := by simp; exact hs2
  clear c2 f2 G2 GB2 B0 hs2 hw1
  generalize W.setCell ⟨w1.heap.size, 2, none⟩ (.int .i64 (c1 : Int)) = V at *
  generalize hT : w1.heap.size = T at *
  clear hT
  go_wp2_with (first | (refine D.wpList_load_row rfl 81 _ rfl T rfl _ _ _ C0.out _ Tryz.underlying81 rfl s42 ?_) | fail)
  refine (U.encode_yes a b c1 _ HOK.out).mono ?_
  rintro e w2 ⟨v, rfl, hm⟩
  obtain ⟨g, cap, rfl, hg1, hg2, hbt⟩ := mine_bts hm (by rw [lt_sec HOK.out]; omega)
  rw [lt_sec HOK.out] at hbt ⊢
  have HBT := Lib.hid hbt
  have G4 := Lib.hid ((hm.bel.block w.heap.size (by omega)).trans G3.out)
  have C4 := Lib.hid ((hm.bel.block T (by omega)).trans C0.out)
  have GB4 := Lib.hid (GB3.out.trans (hm.bel.mono (by omega)))
  have hs4 := hm.bel.size
  clear hm hbt G3 GB3 C0
  have c2 : w2.cell? ⟨T, 2, none⟩ = some (.int .i64 (c1 : Int)) := cell_of_row _ _ 2 _ _ _ C4.out
  have d0 : w2.cell? ⟨w.heap.size, 0, none⟩ = some (.int .i64 0) := cell_of_row _ _ 0 _ _ _ G4.out
  have d1 : w2.cell? ⟨w.heap.size, 1, none⟩ = some (.slice none 0 0) := cell_of_row _ _ 1 _ _ _ G4.out
  have e0 := F.free_in G4.out 0
  have e1 := F.free_in G4.out 1
  have hTw : T ≠ w.heap.size := by omega
  go_upto_region 8 with fail
  go_region
  go_wp2_with fail
  have G5 : Hid (((w2.setCell ⟨w.heap.size, 0, none⟩ (.int .i64 0)).setCell ⟨w.heap.size, 1, none⟩ (.slice (some ⟨g, 0, none⟩) 128 cap)).drew.heap[w.heap.size]? = some (.cells #[.int .i64 0, .slice (some ⟨g, 0, none⟩) 128 cap] 87 (0, 0))) := F.heap_set (F.heap_set G4.out 0 _) 1 _
  refine bodyPost_ret (ret_row3 rfl rfl G5.out Tryz.underlying87 rfl s34) rfl ?_
  have hgw : g ≠ w.heap.size := by omega
  refine ⟨g, cap, rfl, HBT.out.keep fun b hb => ?_, by omega, ?_, ((GB4.out.setCell (p := ⟨w.heap.size, 0, none⟩) (Nat.le_refl _) _).setCell (p := ⟨w.heap.size, 1, none⟩) (Nat.le_refl _) _).drew⟩
  · cases hb
    show ((w2.setCell _ _).setCell _ _).heap[g]? = _
    rw [Below.heap_setCell _ _ _ _ (by exact hgw), Below.heap_setCell _ _ _ _ (by exact hgw)]
  · show g < ((w2.setCell _ _).setCell _ _).heap.size
    simp
    exact hg2
end
end Go.Proofs.YtijbgdihnjnllaaGreat
