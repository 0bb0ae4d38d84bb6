/- The law SpaceDrops, walked. -/
import Derived.Test.YtijbgdihnjnllaaGreatVReadO
namespace Go.Proofs.YtijbgdihnjnllaaGreat.V
open Go.RowKit
set_option linter.unusedVariables false
set_option maxRecDepth 20000
/-- The blocks that a step touches. -/
def bl (x : SStep) : List Nat := if 0 ≤ x.pos ∧ x.pos ≤ 5000 ∧ x.data.length ≤ 200 then (List.range (T.np x.pos.toNat x.data.length)).map fun j => ixb (nb x.pos.toNat j) else []
def td (l : List SStep) : List Nat := [4, 5, 14, 15, 16, 17] ++ ((l.take 4).map bl).flatten
theorem bl_len (x : SStep) : (bl x).length ≤ 3 := by
  unfold bl
  split
  · rename_i h
    rw [List.length_map, List.length_range]
    unfold T.np
    split <;> omega
  · simp
theorem td_len (l : List SStep) : (td l).length ≤ 18 := by
  have h := flat_len (L := (l.take 4).map bl) fun x hx => by obtain ⟨y, _, rfl⟩ := List.mem_map.1 hx; exact bl_len y
  rw [List.length_map, List.length_take] at h
  unfold td
  rw [List.length_append]
  simp only [List.length_cons, List.length_nil]
  omega
theorem td_mem {l : List SStep} {i : Nat} {x : SStep} (hi : i < 4) (hx : l[i]? = some x) {a n : Nat} (ha : x.pos = (a : Int)) (ha2 : a ≤ 5000) (hn : x.data.length = n) (hn2 : n ≤ 200) : ∀ j, j < T.np a n → ∀ k ∈ path (nb a j), k ∈ td l := by
  intro j hj k hk
  have hb := nb_in hj
  have hm : ixb (nb a j) ∈ td l := by
    unfold td
    refine List.mem_append_right _ (List.mem_flatten.2 ⟨bl x, List.mem_map.2 ⟨x, ?_, rfl⟩, ?_⟩)
    · exact List.mem_of_getElem? (i := i) (by rw [List.getElem?_take, if_pos hi]; exact hx)
    · unfold bl
      rw [if_pos (by omega), ha, hn]
      exact List.mem_map.2 ⟨j, List.mem_range.2 hj, rfl⟩
  have hs : ∀ z, z ∈ [4, 5, 14, 15, 16, 17] → z ∈ td l := fun z hz => List.mem_append_left _ hz
  generalize nb a j = b at *
  unfold path at hk
  unfold ixb at hm
  split at hk
  · rw [if_pos (by assumption)] at hm; simp at hk; rw [hk]; exact hm
  · rw [if_neg (by assumption)] at hm
    split at hk
    · rw [if_pos (by assumption)] at hm
      simp at hk
      rcases hk with rfl | rfl
      · exact hs 4 (by simp)
      · exact hm
    · rw [if_neg (by assumption)] at hm
      simp at hk
      rcases hk with rfl | rfl | rfl
      · exact hs 5 (by simp)
      · refine hs _ ?_
        have : (b - 12) / 8 = 0 ∨ (b - 12) / 8 = 1 ∨ (b - 12) / 8 = 2 ∨ (b - 12) / 8 = 3 := by omega
        rcases this with e | e | e | e <;> rw [e] <;> simp
      · exact hm
theorem m1_bas {N : Nat} (hs : Std N (Xb N) 1 0 root0 (markL 43)) : Bas N (view (Xb N) (m1 N 1 0 1)) 1 1 :=
  ⟨by rw [view_m1, if_neg (by omega), if_pos rfl], fun i hi => by rw [view_m1, if_neg (by omega), if_neg (by omega)]; exact hs.seat i hi⟩
theorem fb_bts {w : World} {B n c : Nat} {A : Option Addr} {l : List UInt8} (hB : F.Bts w B A n c l) : Bts w (fun b => b < B) A n c l :=
  ⟨hB.len, hB.cap, hB.lim, fun hn => by
    obtain ⟨b, off, e, hb, hc⟩ := hB.at_ hn
    refine ⟨b, off, e, hb, fun j v hj => ?_⟩
    have hjl : j < l.length := by have := (List.getElem?_eq_some_iff.1 hj).1; rwa [bc_len] at this
    rw [bc_get hjl] at hj
    rw [hc j (by rw [← hB.len]; exact hjl), hj]⟩
/-- What the loop keeps. -/
def DInv (w0 wr : World) (p d q : Nat) (O : List Nat) (s : DS) (X : Secs2) (b1 b2 : Nat) (Tx : List Nat) (L1 : List UInt8) : Prop :=
  ∃ m y f C g1 g2, Sto w0 wr p d O 120 s X q m ∧ Fl 120 (GL []) (view X m) 2 y f C ∧ Bud [34, 35] Tx m f ∧ Bas 120 (view X m) 1 1 ∧ RF wr b2 (byt C 0 y.s) g2 ∧ RF wr b1 L1 g1
theorem z46s : (Tryz.prog.info? 46).map (·.size) = some Tryz.zeroCells46.size := by rw [z46]; exact s46 _ _
theorem z46o : Tryz.zeroCells46.all (·.oneCell') = true := by rw [z46]; exact all_oneCell_toArray (rc_one _ _)
theorem rc_sz (l l' : List UInt8) (g g' : Nat → Bool) : (rc l g).toArray.size = (rc l' g').toArray.size := by rw [List.size_toArray, List.size_toArray, rc_len, rc_len]
theorem z46z (l : List UInt8) (g : Nat → Bool) : Tryz.zeroCells46.size = (rc l g).toArray.size := by rw [z46]; exact rc_sz _ _ _ _
theorem side {w0 w w' : World} {p d N q P : Nat} {O : List Nat} {s : DS} {X : Secs2} {m : List Wr} (h : Sto w0 w p d O N s X q m) (hc : Chg [P] w w') (hP : P ∉ O ∧ P ≠ p ∧ P ≠ q ∧ w0.heap.size ≤ P) : Sto w0 w' p d O N s X q m := by
  have hw0 : w0.heap.size ≤ w.heap.size := h.ons.sit.bel.size
  refine h.keep_ (fun b hb => ?_) (hc.below hw0 fun b hb => by simp at hb; omega)
  rcases hb with hb | hb | hb
  · exact hc.block b (h.ons.sit.drv.lt _ hb) (by simp; rintro rfl; exact hP.1 hb)
  · exact hc.block b (by rw [hb]; exact h.st.lt) (by simp; omega)
  · exact hc.block b (by rw [hb]; exact h.map.lt) (by simp; omega)
theorem fresh_ {w0 w : World} {p d N q P : Nat} {O : List Nat} {s : DS} {X : Secs2} {m : List Wr} (h : Sto w0 w p d O N s X q m) (hP : w.heap.size ≤ P) : P ∉ O ∧ P ≠ p ∧ P ≠ q ∧ w0.heap.size ≤ P := by
  have h1 := h.st.lt
  have h2 := h.map.lt
  have h3 := h.pf
  exact ⟨fun hm => by have := h.ons.sit.drv.lt _ hm; omega, by omega, by omega, by omega⟩
theorem begin_path : ∀ j, j < T.np 0 5 → ∀ i ∈ path (nb 0 j), i ∈ [0] := fun j hj i hi => by
  obtain rfl : j = 0 := by have : T.np 0 5 = 1 := rfl; omega
  exact hi
set_option maxHeartbeats 4000000 in
theorem spaceDrops.walk (w : World) (A : Option Addr) (n c : Nat) (l : List SStep) (hB : Stps w w.heap.size A n c l) (keep : Bool) : Calls Tryz.prog 4 #[.slice A n c, .bool keep] w fun e w' => e = .returned (.bool true) ∧ Below w.heap.size w w' := by
  have HST := Lib.hid hB
  have hcap := hB.cap
  have hlim := hB.lim
  unfold maxLen at hlim
  clear hB
  go_enter Tryz.func4, Tryz.ntmps4
  go_wp2_with fail
  refine (new_any 120 w (by omega) (by omega)).mono ?_
  rintro e w1 ⟨d, O, rfl, hd1, hf1, hb1⟩
  have HS : Hid (Sit w w1 d O 120 (newS 120)) := ⟨hd1, hf1, hb1⟩
  clear hd1 hf1 hb1
  go_wp2_with fail
  refine (awake_any w1).mono ?_
  rintro e w1' ⟨rfl, hb⟩
  have HS' := Lib.hid (HS.out.below hb)
  clear hb HS
  go_wp2_with fail
  refine (make_new HS'.out (by omega)).mono ?_
  rintro e w2 ⟨rfl, O2, s2, h2, _, _⟩
  have H2 := Lib.hid h2
  clear h2 HS'
  go_wp2_with fail
  refine (mount_std H2.out (Std.made (by omega) (by omega)) (U.ok_iff.2 (by omega)) (by omega)).mono ?_
  rintro e w3 ⟨p, q, O3, s3, rfl, h3, _, _, _, _⟩
  have H3 : Hid (Sto w w3 p d O3 120 s3 (Xb 120) q []) := h3
  have HSD := Lib.hid (Xb_std (N := 120) (by omega) (by omega))
  clear h3 H2
  go_wp2_with fail
  refine (new_std (k := 1) H3.out HSD.out (by decide) (by omega) (.inl rfl)).mono ?_
  rintro e w4 ⟨rfl, h4, _⟩
  have H4 := Lib.hid h4
  have HF4 := Lib.hid (fl_m1 (N := 120) (gN := by omega) (by omega) HSD.out (by omega))
  have HA4 := Lib.hid (m1_bas HSD.out)
  have HBU : Hid (Bud [0, 34, 35] [0] (m1 120 1 0 1) (fun _ => 0)) := ⟨fun k hk => by rcases m1_keys _ _ _ _ k hk with rfl | rfl <;> simp, by simp, by simp⟩
  obtain ⟨b0, b1, b2⟩ := D.box1 w4 (Obj.cells #[.int .u8 98, .int .u8 101, .int .u8 103, .int .u8 105, .int .u8 110] 5 (5, 6))
  have HW := Lib.hid (write_yes (nn := 2) (a := 0) (n := 5) (c := 5) (l := [98, 101, 103, 105, 110]) (H4.out.below b1) HF4.out (by omega) HBU.out (by simp) (by omega) (by omega) (bts_lit w4 [98, 101, 103, 105, 110] (5, 6) (by simp)) (fun b hb => by subst hb; exact ⟨by omega, by have := H4.out.map.lt; omega⟩)
    begin_path)
  have kc := fun (w : World) (C : Array Value) (n c : Nat) => Lib.run_convert_bytes_const (P := Tryz.prog) w 27 5 C n c Tryz.underlying27 Tryz.underlying5
  clear b0 b1 b2 h4 H3 HSD
  rw [show ((2 : Nat) : Int) = 2 from rfl, show ((0 : Nat) : Int) = 0 from rfl] at HW
  go_wp2_with fail
  refine HW.out.mono ?_
  rintro e w5 (⟨rfl, m5, y5, f5, haft, hsz, _, _, _⟩ | ⟨rfl, ⟨bf, m3, hno⟩, _⟩)
  case inr => exact absurd hno (FNo.not (Tx := [0]) List.nodup_nil begin_path (.inl (by rw [nzn_zero]; simp)))
  have H5 := Lib.hid haft.sto
  have HF5 := Lib.hid haft.fl
  have HA5 := Lib.hid (HA4.out.aft (nn := 2) (by omega) (fun i _ h0 => absurd rfl h0) haft)
  have hs5 : y5.s = 5 := hsz
  clear haft hsz HW HBU HF4 HA4 H4 kc
  go_wp2_with fail
  refine (commit_view H5.out).mono ?_
  rintro e w6 ⟨rfl, O6, s6, X6, h6, hv6, _, _⟩
  have H6 := Lib.hid h6
  have HF6 : Hid (Fl 120 (GL []) (view X6 []) 2 y5 f5 (ovr (fun _ => 0) 0 [98, 101, 103, 105, 110] 5)) := by rw [hv6]; exact HF5.out
  have HA6 : Hid (Bas 120 (view X6 []) 1 1) := by rw [hv6]; exact HA5.out
  clear h6 hv6 H5 HF5 HA5
  go_upto_region 11 with (first | (refine D.wpList_store_new rfl 46 _ _ rfl w6 Tryz.zeroCells46 Tryz.zeroCells46 rfl rfl z46s rfl z46o ?_) | fail)
  rw [z46]
  obtain ⟨a0, a1, a2⟩ := D.box1 w6 (Obj.cells (rc [] fun _ => false).toArray 46)
  have HP1 := Lib.hid (fresh_ H6.out (Nat.le_refl w6.heap.size))
  generalize w6.alloc (Obj.cells (rc [] fun _ => false).toArray 46) = w7 at *
  have H7 := Lib.hid (H6.out.below a1)
  have R7 : Hid (RF w7 w6.heap.size [] fun _ => false) := a0
  generalize w6.heap.size = B1 at *
  have hB1 : B1 < w7.heap.size := R7.out.lt
  clear a0 a1 a2 H6
  have HW7 := Lib.hid (rfWrite_some [] [98, 101, 103, 105, 110] (fun _ => false) 0 5 1 w7 (by simp) rfl (by omega) (by omega) rfl)
  rw [show wrL [] 0 [98, 101, 103, 105, 110] = byt (ovr (fun _ => 0) 0 [98, 101, 103, 105, 110] 5) 0 5 from wrL_byt (s := 0) (fun _ _ => rfl) rfl, show ((0 : Nat) : Int) = 0 from rfl] at HW7
  have hL : byt (ovr (fun _ => 0) 0 [98, 101, 103, 105, 110] 5) 0 5 = byt (ovr (fun _ => 0) 0 [98, 101, 103, 105, 110] 5) 0 y5.s := by rw [hs5]
  rw [hL] at HW7
  clear hL
  have hz5 : y5.s ≤ 9728 := by omega
  generalize ovr (fun _ => 0) 0 [98, 101, 103, 105, 110] 5 = C5 at *
  generalize wrG (fun _ => false) 0 5 1 = g5 at *
  clear hs5
  go_wp2_with (first | (refine D.wpList_load_row rfl 46 _ rfl B1 rfl _ _ _ R7.out _ Tryz.underlying46 rfl (s46 _ _) ?_) | fail)
  refine HW7.out.mono ?_
  rintro e w8 ⟨rfl, hb⟩
  have H8 := Lib.hid (H7.out.below hb)
  have R8 : Hid (RF w8 B1 [] fun _ => false) := R7.out.keep (hb.block _ hB1)
  have hB1 : B1 < w8.heap.size := R8.out.lt
  clear hb HW7 H7 R7
  go_upto_region 12 with (first | (refine D.wpList_store_row rfl 46 _ _ rfl B1 _ (rc (byt C5 0 y5.s) g5).toArray 46 rfl rfl R8.out (s46 _ _) (rc_sz _ _ _ _) (all_oneCell_toArray (rc_one _ _)) ?_) | fail)
  have H9 := Lib.hid (side H8.out (chg_setRow w8 B1 (rc (byt C5 0 y5.s) g5).toArray) HP1.out)
  have R9 : Hid (RF (w8.setRow B1 (rc (byt C5 0 y5.s) g5).toArray) B1 (byt C5 0 y5.s) g5) := D.setRow_in _ _ _ _ _ R8.out
  clear H8 R8
  generalize w8.setRow B1 (rc (byt C5 0 y5.s) g5).toArray = w9 at *
  go_upto_region 13 with (first | (refine D.wpList_load_row rfl 46 _ rfl B1 rfl _ _ _ R9.out _ Tryz.underlying46 rfl (s46 _ _) ?_) | (refine D.wpList_store_new rfl 46 _ _ rfl w9 Tryz.zeroCells46 (rc (byt C5 0 y5.s) g5).toArray rfl rfl (s46 _ _) (z46z _ _) (all_oneCell_toArray (rc_one _ _)) ?_) | fail)
  obtain ⟨a0, a1, a2⟩ := D.box1 w9 (Obj.cells (rc (byt C5 0 y5.s) g5).toArray 46)
  have HP2 := Lib.hid (fresh_ H9.out (Nat.le_refl w9.heap.size))
  have hB12 : B1 ≠ w9.heap.size := by have := R9.out.lt; omega
  have H10 := Lib.hid (H9.out.below a1)
  have R10 : Hid (RF (w9.alloc (Obj.cells (rc (byt C5 0 y5.s) g5).toArray 46)) B1 (byt C5 0 y5.s) g5) := R9.out.keep (a1.block _ R9.out.lt)
  have Q10 : Hid (RF (w9.alloc (Obj.cells (rc (byt C5 0 y5.s) g5).toArray 46)) w9.heap.size (byt C5 0 y5.s) g5) := a0
  generalize w9.alloc (Obj.cells (rc (byt C5 0 y5.s) g5).toArray 46) = w10 at *
  generalize w9.heap.size = B2 at *
  clear a0 a1 a2 H9 R9 hB1 hz5
  have htd := td_len l
  have HB0 : Hid (Bud [34, 35] (td l) [] f5) := ⟨fun k hk => absurd hk (by simp [keys]), by simp only [List.length_cons, List.length_nil]; omega, by simp⟩
  have HD : Hid (DInv w w10 p d q O6 s6 X6 B1 B2 (td l) (byt C5 0 y5.s)) := ⟨[], y5, f5, C5, g5, g5, H10.out, HF6.out, HB0.out, HA6.out, Q10.out, R10.out⟩
  clear H10 R10 Q10 HB0 htd
  go_wp2_with fail
  go_loopw [13] (fun i wr => ∃ j : Nat, j ≤ n ∧ i = .int .i64 j ∧ Hid (DInv w wr p d q O6 s6 X6 B1 B2 (td l) (byt C5 0 y5.s))) (fun i _ => n - (intOf i).toNat)
  case atStart => exact ⟨0, Nat.zero_le _, rfl, HD.out⟩
  case round =>
    clear HD
    obtain ⟨j, hj, rfl, HD⟩ := hrel
    by_cases hlt : j < n ∧ j < 4
    · obtain ⟨h1, h2⟩ := hlt
      obtain ⟨m, y, f, C, g1, g2, hs, hf, hbu, hba, hr2, hr1⟩ := HD.out
      obtain ⟨b, off, rfl, hbB, hc⟩ := (HST.out.below hs.ons.sit.bel).at_ (by omega)
      obtain ⟨x, hx⟩ : ∃ x, l[j]? = some x := ⟨_, List.getElem?_eq_getElem (by rw [HST.out.len]; exact h1)⟩
      obtain ⟨A', n', c', k1, k2, k3, k4, k5, k6, _, _, i1, _⟩ := hc j x hx
      have HM := Lib.hid (fun a ha hp => td_mem (l := l) (i := j) h2 hx (a := a) (n := n') hp ha (by rw [k6.len]))
      have HX := Lib.hid hx
      have HS := Lib.hid hs
      have HF := Lib.hid hf
      have HBu := Lib.hid hbu
      have HBa := Lib.hid hba
      have HR2 := Lib.hid hr2
      have HR1 := Lib.hid hr1
      have K6 := Lib.hid k6
      have hl2 := k6.cap
      have hl3 := k6.lim
      unfold maxLen at hl3
      have HLN := Lib.hid k6.len
      obtain ⟨x0, x1, x2, x3, xs⟩ := x
      clear hc hs hf hbu hba hr2 hr1 hx k6
      unfold I64 at i1
      simp only at k1 k2 k3 k4 i1
      go_upto_region 17 with fail
      obtain ⟨a0, a1, a2⟩ := D.box1 wr (Obj.cells #[.int .i64 x0, .int .i64 x1, .int .i64 x2, .int .i64 x3, .slice A' n' c'] 29)
      have HPX := Lib.hid (fresh_ HS.out (Nat.le_refl wr.heap.size))
      have HS1 := Lib.hid (HS.out.below a1)
      have HR2' : Hid (RF (wr.alloc (Obj.cells #[.int .i64 x0, .int .i64 x1, .int .i64 x2, .int .i64 x3, .slice A' n' c'] 29)) B2 (byt C 0 y.s) g2) := HR2.out.keep (a1.block _ HR2.out.lt)
      have HR1' : Hid (RF (wr.alloc (Obj.cells #[.int .i64 x0, .int .i64 x1, .int .i64 x2, .int .i64 x3, .slice A' n' c'] 29)) B1 (byt C5 0 y5.s) g1) := HR1.out.keep (a1.block _ HR1.out.lt)
      have K61 := Lib.hid (K6.out.below (a1.mono HS.out.ons.sit.bel.size))
      have hXB2 : wr.heap.size ≠ B2 := by have := HR2.out.lt; omega
      generalize wr.alloc (Obj.cells #[.int .i64 x0, .int .i64 x1, .int .i64 x2, .int .i64 x3, .slice A' n' c'] 29) = w11 at *
      have XB := Lib.hid a0
      generalize wr.heap.size = BX at *
      have e2 : w11.cell? ⟨BX, 2, none⟩ = some (.int .i64 x2) := by rw [cell_of_row w11 BX 2 _ 29 _ XB.out]; rfl
      have e4 : w11.cell? ⟨BX, 4, none⟩ = some (.slice A' n' c') := by rw [cell_of_row w11 BX 4 _ 29 _ XB.out]; rfl
      clear a0 a1 a2 k1 k2 k3 k4 k5 HS HR2 HR1 K6 HD
      by_cases q1 : x2 < 0
      · go_wp2_with fail
        go_roundw
        case rel => exact ⟨j + 1, by omega, by go_num, ⟨m, y, f, C, g1, g2, HS1.out, HF.out, HBu.out, HBa.out, HR2'.out, HR1'.out⟩⟩
        case measure => simp [intOf]; omega
      by_cases q2 : 5000 < x2
      · go_wp2_with fail
        go_roundw
        case rel => exact ⟨j + 1, by omega, by go_num, ⟨m, y, f, C, g1, g2, HS1.out, HF.out, HBu.out, HBa.out, HR2'.out, HR1'.out⟩⟩
        case measure => simp [intOf]; omega
      by_cases q3 : 200 < n'
      · go_wp2_with fail
        go_roundw
        case rel => exact ⟨j + 1, by omega, by go_num, ⟨m, y, f, C, g1, g2, HS1.out, HF.out, HBu.out, HBa.out, HR2'.out, HR1'.out⟩⟩
        case measure => simp [intOf]; omega
      obtain ⟨a, rfl⟩ : ∃ a : Nat, x2 = (a : Int) := ⟨x2.toNat, by omega⟩
      by_cases q4 : n' = 0
      · subst q4
        have hxs : xs = [] := List.length_eq_zero_iff.1 HLN.out
        subst hxs
        have HWN := Lib.hid (write_none (HF.out.open_ HS1.out (by omega)) (a := (a : Int)) (by omega) A' c')
        rw [show ((2 : Nat) : Int) = 2 from rfl] at HWN
        go_wp2_with fail
        refine HWN.out.mono ?_
        rintro e w12 ⟨rfl, hb⟩
        have HS2 := Lib.hid (HS1.out.below hb)
        have HR22 : Hid (RF w12 B2 (byt C 0 y.s) g2) := HR2'.out.keep (hb.block _ HR2'.out.lt)
        have HR12 : Hid (RF w12 B1 (byt C5 0 y5.s) g1) := HR1'.out.keep (hb.block _ HR1'.out.lt)
        have XB2 : Hid (w12.heap[BX]? = some (.cells #[.int .i64 x0, .int .i64 x1, .int .i64 (a : Int), .int .i64 x3, .slice A' 0 c'] 29 (0, 0))) := (hb.block _ (Array.getElem?_eq_some_iff.1 XB.out).1).trans XB.out
        have e2' : w12.cell? ⟨BX, 2, none⟩ = some (.int .i64 (a : Int)) := by rw [cell_of_row w12 BX 2 _ 29 _ XB2.out]; rfl
        have e4' : w12.cell? ⟨BX, 4, none⟩ = some (.slice A' 0 c') := by rw [cell_of_row w12 BX 4 _ 29 _ XB2.out]; rfl
        have hcv : (convert 27 9 (.slice A' 0 c')).run Tryz.prog w12 = .ok (.string (sb [])) w12 := (K61.out.below (hb.mono HS1.out.ons.sit.bel.size)).str w12 fun _ _ => rfl
        have HRW := Lib.hid (rfWrite_nil (byt C 0 y.s) g2 a w12 (by omega))
        clear hb HWN HS1 HR2' HR1' XB e2 e4 K61
        go_wp2_with (first | (refine D.wpList_load_row rfl 46 _ rfl B2 rfl _ _ _ HR22.out _ Tryz.underlying46 rfl (s46 _ _) ?_) | fail)
        refine HRW.out.mono ?_
        rintro e w13 ⟨rfl, hb⟩
        have HS3 := Lib.hid (HS2.out.below hb)
        have HR23 : Hid (RF w13 B2 (byt C 0 y.s) g2) := HR22.out.keep (hb.block _ HR22.out.lt)
        have HR13 : Hid (RF w13 B1 (byt C5 0 y5.s) g1) := HR12.out.keep (hb.block _ HR12.out.lt)
        have HR24 : Hid (RF (w13.setRow B2 (rc (byt C 0 y.s) g2).toArray) B2 (byt C 0 y.s) g2) := D.setRow_in _ _ _ _ _ HR23.out
        have HR14 : Hid (RF (w13.setRow B2 (rc (byt C 0 y.s) g2).toArray) B1 (byt C5 0 y5.s) g1) := HR13.out.keep (setRow_other w13 B2 B1 _ hB12)
        have HS4 := Lib.hid (side HS3.out (chg_setRow w13 B2 (rc (byt C 0 y.s) g2).toArray) HP2.out)
        clear hb HRW HS2 HR22 HR12 XB2 e2' e4' hcv
        go_wp2_with (first | (refine D.wpList_store_row rfl 46 _ _ rfl B2 _ (rc (byt C 0 y.s) g2).toArray 46 rfl rfl HR23.out (s46 _ _) (rc_sz _ _ _ _) (all_oneCell_toArray (rc_one _ _)) ?_) | fail)
        go_roundw
        case rel => exact ⟨j + 1, by omega, by go_num, ⟨m, y, f, C, g1, g2, HS4.out, HF.out, HBu.out, HBa.out, HR24.out, HR14.out⟩⟩
        case measure => simp [intOf]; omega
      · have HWY := Lib.hid (write_yes (nn := 2) (a := a) (n := n') HS1.out HF.out (by omega) HBu.out (by simp) (by omega) (by omega) (fb_bts K61.out) (arg_out HS1.out) (HM.out a (by omega) rfl (by omega)))
        have hqX : BX ≠ q := HPX.out.2.2.1
        have hq1 : B1 ≠ q := HP1.out.2.2.1
        have hq2 : B2 ≠ q := HP2.out.2.2.1
        have hys := (ok_size HF.out.ok HF.out.kind).1
        have hr43 : Hid (∀ i, i < 86 → f i ≠ 0 → 43 ≤ f i) := fun i hi h0 => by have := HF.out.mid.rng i hi; omega
        rw [show ((2 : Nat) : Int) = 2 from rfl] at HWY
        go_wp2_with fail
        refine HWY.out.mono ?_
        rintro e w12 (⟨rfl, m', y', f', haft, hsz, _, _, _⟩ | ⟨rfl, _, hcg⟩)
        case inr =>
          have HE := Lib.hid (HS1.out.ons.sit.bel.trans (hcg.below HS1.out.ons.sit.bel.size fun b hb => by simp at hb; rw [hb]; exact HS1.out.qf))
          clear hcg
          go_wp2_with fail
          go_ret
          exact ⟨rfl, HE.out⟩
        have HS2 := Lib.hid haft.sto
        have HF2 := Lib.hid haft.fl
        have HBu2 := Lib.hid haft.bud
        have HBa2 := Lib.hid (HBa.out.aft (nn := 2) (by omega) hr43.out haft)
        have hcg := haft.chg
        have HR22 : Hid (RF w12 B2 (byt C 0 y.s) g2) := HR2'.out.keep (hcg.block _ HR2'.out.lt (by simp; exact hq2))
        have HR12 : Hid (RF w12 B1 (byt C5 0 y5.s) g1) := HR1'.out.keep (hcg.block _ HR1'.out.lt (by simp; exact hq1))
        have XB2 : Hid (w12.heap[BX]? = some (.cells #[.int .i64 x0, .int .i64 x1, .int .i64 (a : Int), .int .i64 x3, .slice A' n' c'] 29 (0, 0))) := (hcg.block _ (Array.getElem?_eq_some_iff.1 XB.out).1 (by simp; exact hqX)).trans XB.out
        have e2' : w12.cell? ⟨BX, 2, none⟩ = some (.int .i64 (a : Int)) := by rw [cell_of_row w12 BX 2 _ 29 _ XB2.out]; rfl
        have e4' : w12.cell? ⟨BX, 4, none⟩ = some (.slice A' n' c') := by rw [cell_of_row w12 BX 4 _ 29 _ XB2.out]; rfl
        have hbw : Below w.heap.size w11 w12 := hcg.below HS1.out.ons.sit.bel.size fun b hb => by simp at hb; rw [hb]; exact HS1.out.qf
        have hcv : (convert 27 9 (.slice A' n' c')).run Tryz.prog w12 = .ok (.string (sb xs)) w12 := (K61.out.below hbw).str w12 fun _ _ => rfl
        obtain ⟨K, hK⟩ : ∃ K, (a + n' - 1) / 128 + 1 - a / 128 = K := ⟨_, rfl⟩
        have HRW := Lib.hid (rfWrite_some (byt C 0 y.s) xs g2 a n' K w12 (by rw [byt_len]; exact hys) HLN.out (by omega) (by omega) hK)
        rw [wrL_byt HF.out.zero HLN.out, ← hsz] at HRW
        clear haft hsz hcg hbw HWY HS1 HR2' HR1' XB e2 e4 K61 hys hK
        generalize ovr C a xs n' = C' at *
        generalize wrG g2 a n' K = g' at *
        go_wp2_with (first | (refine D.wpList_load_row rfl 46 _ rfl B2 rfl _ _ _ HR22.out _ Tryz.underlying46 rfl (s46 _ _) ?_) | fail)
        refine HRW.out.mono ?_
        rintro e w13 ⟨rfl, hb⟩
        have HS3 := Lib.hid (HS2.out.below hb)
        have HR23 : Hid (RF w13 B2 (byt C 0 y.s) g2) := HR22.out.keep (hb.block _ HR22.out.lt)
        have HR13 : Hid (RF w13 B1 (byt C5 0 y5.s) g1) := HR12.out.keep (hb.block _ HR12.out.lt)
        have HR24 : Hid (RF (w13.setRow B2 (rc (byt C' 0 y'.s) g').toArray) B2 (byt C' 0 y'.s) g') := D.setRow_in _ _ _ _ _ HR23.out
        have HR14 : Hid (RF (w13.setRow B2 (rc (byt C' 0 y'.s) g').toArray) B1 (byt C5 0 y5.s) g1) := HR13.out.keep (setRow_other w13 B2 B1 _ hB12)
        have HS4 := Lib.hid (side HS3.out (chg_setRow w13 B2 (rc (byt C' 0 y'.s) g').toArray) HP2.out)
        clear hb HRW HS2 HR22 HR12 XB2 e2' e4' hcv
        go_wp2_with (first | (refine D.wpList_store_row rfl 46 _ _ rfl B2 _ (rc (byt C' 0 y'.s) g').toArray 46 rfl rfl HR23.out (s46 _ _) (rc_sz _ _ _ _) (all_oneCell_toArray (rc_one _ _)) ?_) | fail)
        go_roundw
        case rel => exact ⟨j + 1, by omega, by go_num, ⟨m', y', f', C', g1, g', HS4.out, HF2.out, HBu2.out, HBa2.out, HR24.out, HR14.out⟩⟩
        case measure => simp [intOf]; omega
    · obtain ⟨m, y, f, C, g1, g2, hs, hf, hbu, hba, hr2, hr1⟩ := HD.out
      have HS := Lib.hid hs
      have HF := Lib.hid hf
      have HBa := Lib.hid hba
      have HR2 := Lib.hid hr2
      have HR1 := Lib.hid hr1
      clear hs hf hbu hba hr2 hr1 HD
      by_cases h1 : j < n
      · have h2 : ¬ j < 4 := fun h => hlt ⟨h1, h⟩
        clear hlt
        cases keep with
        | true =>
        go_wp2_with fail
        refine (commit_view HS.out).mono ?_
        rintro e w12 ⟨rfl, OX, sX, XX, hs, hv, hcg, ho⟩
        have HSA := Lib.hid hs
        have HFX : Hid (Fl 120 (GL []) (view XX []) 2 y f C) := by rw [hv]; exact HF.out
        have HAX : Hid (Bas 120 (view XX []) 1 1) := by rw [hv]; exact HBa.out
        have RA1 : Hid (RF w12 B1 (byt C5 0 y5.s) g1) := HR1.out.keep (hcg.block _ HR1.out.lt (by simp; exact ⟨HP1.out.2.2.1, HP1.out.1⟩))
        have RA2 : Hid (RF w12 B2 (byt C 0 y.s) g2) := HR2.out.keep (hcg.block _ HR2.out.lt (by simp; exact ⟨HP2.out.2.2.1, HP2.out.1⟩))
        have HPX : Hid (B1 ∉ OX) := fun hm => (ho _ hm).elim HP1.out.1 fun h => by have := HR1.out.lt; omega
        have RX : Hid (RF (w12.setRow B1 (rc (byt C 0 y.s) g2).toArray) B1 (byt C 0 y.s) g2) := D.setRow_in _ _ _ _ _ RA1.out
        have HSX := Lib.hid (side HSA.out (chg_setRow w12 B1 (rc (byt C 0 y.s) g2).toArray) ⟨HPX.out, HP1.out.2⟩)
        clear hs hv hcg ho HS HF HBa HR1 HR2 HSA
        go_wp2_with (first | (refine D.wpList_load_row rfl 46 _ rfl B2 rfl _ _ _ RA2.out _ Tryz.underlying46 rfl (s46 _ _) ?_) | (refine D.wpList_store_row rfl 46 _ _ rfl B1 _ (rc (byt C 0 y.s) g2).toArray 46 rfl rfl RA1.out (s46 _ _) (rc_sz _ _ _ _) (all_oneCell_toArray (rc_one _ _)) ?_) | fail)
        generalize w12.setRow B1 (rc (byt C 0 y.s) g2).toArray = w13 at *
        clear RA1 RA2
        have HO1 : Hid (B1 ∉ OX) := HPX.out
        have HR := Lib.hid (read_flo (a := 0) (z := 9728) (s' := y.s) HSX.out HFX.out (by omega) (by omega) (by have := (ok_size HFX.out.ok HFX.out.kind).1; omega))
        rw [show ((2 : Nat) : Int) = 2 from rfl, show ((0 : Nat) : Int) = 0 from rfl, show ((9728 : Nat) : Int) = 9728 from rfl] at HR
        go_wp2_with fail
        refine HR.out.mono ?_
        rintro e w14 ⟨A1, n1, c1, rfl, hb1, hbl, hown⟩
        have HS1 := Lib.hid (HSX.out.below hbl)
        have R14 : Hid (RF w14 B1 (byt C 0 y.s) g2) := RX.out.keep (hbl.block _ RX.out.lt)
        have HBB := Lib.hid hb1
        have HOW : Hid (∀ g o, A1 = some ⟨g, o, none⟩ → g ∉ OX) := fun g o e hm => by have h1 := hown g o e; have := HSX.out.ons.sit.drv.lt g hm; omega
        clear hb1 hbl hown HR RX
        go_wp2_with fail
        refine (restartO HS1.out.ons (ints_none w14 (fun _ => False)) (fun _ hf => hf.elim)).mono ?_
        rintro e w15 ⟨rfl, O15, s15, h15, hc15, ho15⟩
        have H15 := Lib.hid h15
        have R15 : Hid (RF w15 B1 (byt C 0 y.s) g2) := R14.out.keep (hc15.block _ R14.out.lt HO1.out)
        have HBB2 := Lib.hid (bts_apart (B := w14.heap.size) (g := 0) (o := 0) HBB.out (Nat.le_refl _) hc15 HOW.out)
        have HO15 : Hid (B1 ∉ O15) := fun hm => (ho15 _ hm).elim HO1.out fun h => by have := R14.out.lt; omega
        have HOW2 : Hid (∀ g o, A1 = some ⟨g, o, none⟩ → 0 < n1 → g ∉ O15) := fun g o e hn hm => (ho15 _ hm).elim (HOW.out g o e) fun h => by
          obtain ⟨b, off, e2, hb2, _⟩ := HBB.out.at_ hn
          rw [e] at e2; cases e2; omega
        have hsz15 := hc15.size
        clear h15 hc15 ho15 HS1 R14 HO1 HOW
        go_wp2_with fail
        refine (mount_bas H15.out HAX.out (U.ok_iff.2 (by omega)) (by omega)).mono ?_
        rintro e w16 ⟨p2, q2, O16, s16, rfl, h16, _, _, hc16, _⟩
        have H16 := Lib.hid h16
        have HF16 := Lib.hid (HFX.out.mounted (ep := 1) (g := 1) HSX.out.ons.len (by omega) (U.ok_iff.2 (by omega)))
        have R16 : Hid (RF w16 B1 (byt C 0 y.s) g2) := R15.out.keep (hc16.block _ R15.out.lt HO15.out)
        have HBB3 : Hid (T.Bts w16 w14.heap.size A1 n1 c1 (byt C 0 y.s)) := by
          by_cases hn : 0 < n1
          · exact bts_apart (B := w14.heap.size) (g := 0) (o := 0) HBB2.out hsz15 hc16 fun g o e => HOW2.out g o e hn
          · exact ⟨HBB2.out.len, HBB2.out.cap, HBB2.out.lim, HBB2.out.nil, fun h => absurd h hn⟩
        have hsz16 := hc16.size
        clear h16 hc16 H15 HO15 HOW2 R15 HBB HBB2 HFX HAX HSX
        have HR := Lib.hid (read_flo (a := 0) (z := 9728) (s' := y.s) H16.out HF16.out (by omega) (by omega) (by have := (ok_size HF16.out.ok HF16.out.kind).1; omega))
        rw [show ((2 : Nat) : Int) = 2 from rfl, show ((0 : Nat) : Int) = 0 from rfl, show ((9728 : Nat) : Int) = 9728 from rfl] at HR
        go_wp2_with fail
        refine HR.out.mono ?_
        rintro e w17 ⟨A2, n2, c2, rfl, hb2, hbl, _⟩
        have hv1 : (convert 27 9 (.slice A1 n1 c1)).run Tryz.prog w17 = .ok (.string (sb (byt C 0 y.s))) w17 := HBB3.out.str w17 fun p hp => hbl.cell (by omega)
        have hv2 : (convert 27 9 (.slice A2 n2 c2)).run Tryz.prog w17 = .ok (.string (sb (byt C 0 y.s))) w17 := hb2.str w17 fun _ _ => rfl
        have R17 : RF w17 B1 (byt C 0 y.s) g2 := R16.out.keep (hbl.block _ R16.out.lt)
        have hc0 := R17.c0
        have HE := Lib.hid (H16.out.below hbl).ons.sit.bel
        have heq : ((sb (byt C 0 y.s)).toList == (sb (byt C 0 y.s)).toList) = true := by simp
        clear hb2 hbl HR H16 R16 R17 HBB3 HF16
        generalize byt C 0 y.s = L at *
        go_wp2_with fail
        go_ret
        exact ⟨rfl, HE.out⟩
        | false =>
        go_wp2_with fail
        refine (drop_any HS.out).mono ?_
        rintro e w12 ⟨rfl, hs, hcg⟩
        have HSX := Lib.hid hs
        have RX : Hid (RF w12 B1 (byt C5 0 y5.s) g1) := HR1.out.keep (hcg.block _ HR1.out.lt (by simp; exact HP1.out.2.2.1))
        have HPX : Hid (B1 ∉ O6) := HP1.out.1
        clear hs hcg HS HF HBa HR1 HR2
        have HO1 : Hid (B1 ∉ O6) := HPX.out
        have HR := Lib.hid (read_flo (a := 0) (z := 9728) (s' := y5.s) HSX.out HF6.out (by omega) (by omega) (by have := (ok_size HF6.out.ok HF6.out.kind).1; omega))
        rw [show ((2 : Nat) : Int) = 2 from rfl, show ((0 : Nat) : Int) = 0 from rfl, show ((9728 : Nat) : Int) = 9728 from rfl] at HR
        go_wp2_with fail
        refine HR.out.mono ?_
        rintro e w14 ⟨A1, n1, c1, rfl, hb1, hbl, hown⟩
        have HS1 := Lib.hid (HSX.out.below hbl)
        have R14 : Hid (RF w14 B1 (byt C5 0 y5.s) g1) := RX.out.keep (hbl.block _ RX.out.lt)
        have HBB := Lib.hid hb1
        have HOW : Hid (∀ g o, A1 = some ⟨g, o, none⟩ → g ∉ O6) := fun g o e hm => by have h1 := hown g o e; have := HSX.out.ons.sit.drv.lt g hm; omega
        clear hb1 hbl hown HR RX
        go_wp2_with fail
        refine (restartO HS1.out.ons (ints_none w14 (fun _ => False)) (fun _ hf => hf.elim)).mono ?_
        rintro e w15 ⟨rfl, O15, s15, h15, hc15, ho15⟩
        have H15 := Lib.hid h15
        have R15 : Hid (RF w15 B1 (byt C5 0 y5.s) g1) := R14.out.keep (hc15.block _ R14.out.lt HO1.out)
        have HBB2 := Lib.hid (bts_apart (B := w14.heap.size) (g := 0) (o := 0) HBB.out (Nat.le_refl _) hc15 HOW.out)
        have HO15 : Hid (B1 ∉ O15) := fun hm => (ho15 _ hm).elim HO1.out fun h => by have := R14.out.lt; omega
        have HOW2 : Hid (∀ g o, A1 = some ⟨g, o, none⟩ → 0 < n1 → g ∉ O15) := fun g o e hn hm => (ho15 _ hm).elim (HOW.out g o e) fun h => by
          obtain ⟨b, off, e2, hb2, _⟩ := HBB.out.at_ hn
          rw [e] at e2; cases e2; omega
        have hsz15 := hc15.size
        clear h15 hc15 ho15 HS1 R14 HO1 HOW
        go_wp2_with fail
        refine (mount_bas H15.out HA6.out (U.ok_iff.2 (by omega)) (by omega)).mono ?_
        rintro e w16 ⟨p2, q2, O16, s16, rfl, h16, _, _, hc16, _⟩
        have H16 := Lib.hid h16
        have HF16 := Lib.hid (HF6.out.mounted (ep := 1) (g := 1) HSX.out.ons.len (by omega) (U.ok_iff.2 (by omega)))
        have R16 : Hid (RF w16 B1 (byt C5 0 y5.s) g1) := R15.out.keep (hc16.block _ R15.out.lt HO15.out)
        have HBB3 : Hid (T.Bts w16 w14.heap.size A1 n1 c1 (byt C5 0 y5.s)) := by
          by_cases hn : 0 < n1
          · exact bts_apart (B := w14.heap.size) (g := 0) (o := 0) HBB2.out hsz15 hc16 fun g o e => HOW2.out g o e hn
          · exact ⟨HBB2.out.len, HBB2.out.cap, HBB2.out.lim, HBB2.out.nil, fun h => absurd h hn⟩
        have hsz16 := hc16.size
        clear h16 hc16 H15 HO15 HOW2 R15 HBB HBB2 HF6 HA6 HSX
        have HR := Lib.hid (read_flo (a := 0) (z := 9728) (s' := y5.s) H16.out HF16.out (by omega) (by omega) (by have := (ok_size HF16.out.ok HF16.out.kind).1; omega))
        rw [show ((2 : Nat) : Int) = 2 from rfl, show ((0 : Nat) : Int) = 0 from rfl, show ((9728 : Nat) : Int) = 9728 from rfl] at HR
        go_wp2_with fail
        refine HR.out.mono ?_
        rintro e w17 ⟨A2, n2, c2, rfl, hb2, hbl, _⟩
        have hv1 : (convert 27 9 (.slice A1 n1 c1)).run Tryz.prog w17 = .ok (.string (sb (byt C5 0 y5.s))) w17 := HBB3.out.str w17 fun p hp => hbl.cell (by omega)
        have hv2 : (convert 27 9 (.slice A2 n2 c2)).run Tryz.prog w17 = .ok (.string (sb (byt C5 0 y5.s))) w17 := hb2.str w17 fun _ _ => rfl
        have R17 : RF w17 B1 (byt C5 0 y5.s) g1 := R16.out.keep (hbl.block _ R16.out.lt)
        have hc0 := R17.c0
        have HE := Lib.hid (H16.out.below hbl).ons.sit.bel
        have heq : ((sb (byt C5 0 y5.s)).toList == (sb (byt C5 0 y5.s)).toList) = true := by simp
        clear hb2 hbl HR H16 R16 R17 HBB3 HF16
        generalize byt C5 0 y5.s = L at *
        go_wp2_with fail
        go_ret
        exact ⟨rfl, HE.out⟩
      · clear hlt
        cases keep with
        | true =>
        go_wp2_with fail
        refine (commit_view HS.out).mono ?_
        rintro e w12 ⟨rfl, OX, sX, XX, hs, hv, hcg, ho⟩
        have HSA := Lib.hid hs
        have HFX : Hid (Fl 120 (GL []) (view XX []) 2 y f C) := by rw [hv]; exact HF.out
        have HAX : Hid (Bas 120 (view XX []) 1 1) := by rw [hv]; exact HBa.out
        have RA1 : Hid (RF w12 B1 (byt C5 0 y5.s) g1) := HR1.out.keep (hcg.block _ HR1.out.lt (by simp; exact ⟨HP1.out.2.2.1, HP1.out.1⟩))
        have RA2 : Hid (RF w12 B2 (byt C 0 y.s) g2) := HR2.out.keep (hcg.block _ HR2.out.lt (by simp; exact ⟨HP2.out.2.2.1, HP2.out.1⟩))
        have HPX : Hid (B1 ∉ OX) := fun hm => (ho _ hm).elim HP1.out.1 fun h => by have := HR1.out.lt; omega
        have RX : Hid (RF (w12.setRow B1 (rc (byt C 0 y.s) g2).toArray) B1 (byt C 0 y.s) g2) := D.setRow_in _ _ _ _ _ RA1.out
        have HSX := Lib.hid (side HSA.out (chg_setRow w12 B1 (rc (byt C 0 y.s) g2).toArray) ⟨HPX.out, HP1.out.2⟩)
        clear hs hv hcg ho HS HF HBa HR1 HR2 HSA
        go_wp2_with (first | (refine D.wpList_load_row rfl 46 _ rfl B2 rfl _ _ _ RA2.out _ Tryz.underlying46 rfl (s46 _ _) ?_) | (refine D.wpList_store_row rfl 46 _ _ rfl B1 _ (rc (byt C 0 y.s) g2).toArray 46 rfl rfl RA1.out (s46 _ _) (rc_sz _ _ _ _) (all_oneCell_toArray (rc_one _ _)) ?_) | fail)
        generalize w12.setRow B1 (rc (byt C 0 y.s) g2).toArray = w13 at *
        clear RA1 RA2
        have HO1 : Hid (B1 ∉ OX) := HPX.out
        have HR := Lib.hid (read_flo (a := 0) (z := 9728) (s' := y.s) HSX.out HFX.out (by omega) (by omega) (by have := (ok_size HFX.out.ok HFX.out.kind).1; omega))
        rw [show ((2 : Nat) : Int) = 2 from rfl, show ((0 : Nat) : Int) = 0 from rfl, show ((9728 : Nat) : Int) = 9728 from rfl] at HR
        go_wp2_with fail
        refine HR.out.mono ?_
        rintro e w14 ⟨A1, n1, c1, rfl, hb1, hbl, hown⟩
        have HS1 := Lib.hid (HSX.out.below hbl)
        have R14 : Hid (RF w14 B1 (byt C 0 y.s) g2) := RX.out.keep (hbl.block _ RX.out.lt)
        have HBB := Lib.hid hb1
        have HOW : Hid (∀ g o, A1 = some ⟨g, o, none⟩ → g ∉ OX) := fun g o e hm => by have h1 := hown g o e; have := HSX.out.ons.sit.drv.lt g hm; omega
        clear hb1 hbl hown HR RX
        go_wp2_with fail
        refine (restartO HS1.out.ons (ints_none w14 (fun _ => False)) (fun _ hf => hf.elim)).mono ?_
        rintro e w15 ⟨rfl, O15, s15, h15, hc15, ho15⟩
        have H15 := Lib.hid h15
        have R15 : Hid (RF w15 B1 (byt C 0 y.s) g2) := R14.out.keep (hc15.block _ R14.out.lt HO1.out)
        have HBB2 := Lib.hid (bts_apart (B := w14.heap.size) (g := 0) (o := 0) HBB.out (Nat.le_refl _) hc15 HOW.out)
        have HO15 : Hid (B1 ∉ O15) := fun hm => (ho15 _ hm).elim HO1.out fun h => by have := R14.out.lt; omega
        have HOW2 : Hid (∀ g o, A1 = some ⟨g, o, none⟩ → 0 < n1 → g ∉ O15) := fun g o e hn hm => (ho15 _ hm).elim (HOW.out g o e) fun h => by
          obtain ⟨b, off, e2, hb2, _⟩ := HBB.out.at_ hn
          rw [e] at e2; cases e2; omega
        have hsz15 := hc15.size
        clear h15 hc15 ho15 HS1 R14 HO1 HOW
        go_wp2_with fail
        refine (mount_bas H15.out HAX.out (U.ok_iff.2 (by omega)) (by omega)).mono ?_
        rintro e w16 ⟨p2, q2, O16, s16, rfl, h16, _, _, hc16, _⟩
        have H16 := Lib.hid h16
        have HF16 := Lib.hid (HFX.out.mounted (ep := 1) (g := 1) HSX.out.ons.len (by omega) (U.ok_iff.2 (by omega)))
        have R16 : Hid (RF w16 B1 (byt C 0 y.s) g2) := R15.out.keep (hc16.block _ R15.out.lt HO15.out)
        have HBB3 : Hid (T.Bts w16 w14.heap.size A1 n1 c1 (byt C 0 y.s)) := by
          by_cases hn : 0 < n1
          · exact bts_apart (B := w14.heap.size) (g := 0) (o := 0) HBB2.out hsz15 hc16 fun g o e => HOW2.out g o e hn
          · exact ⟨HBB2.out.len, HBB2.out.cap, HBB2.out.lim, HBB2.out.nil, fun h => absurd h hn⟩
        have hsz16 := hc16.size
        clear h16 hc16 H15 HO15 HOW2 R15 HBB HBB2 HFX HAX HSX
        have HR := Lib.hid (read_flo (a := 0) (z := 9728) (s' := y.s) H16.out HF16.out (by omega) (by omega) (by have := (ok_size HF16.out.ok HF16.out.kind).1; omega))
        rw [show ((2 : Nat) : Int) = 2 from rfl, show ((0 : Nat) : Int) = 0 from rfl, show ((9728 : Nat) : Int) = 9728 from rfl] at HR
        go_wp2_with fail
        refine HR.out.mono ?_
        rintro e w17 ⟨A2, n2, c2, rfl, hb2, hbl, _⟩
        have hv1 : (convert 27 9 (.slice A1 n1 c1)).run Tryz.prog w17 = .ok (.string (sb (byt C 0 y.s))) w17 := HBB3.out.str w17 fun p hp => hbl.cell (by omega)
        have hv2 : (convert 27 9 (.slice A2 n2 c2)).run Tryz.prog w17 = .ok (.string (sb (byt C 0 y.s))) w17 := hb2.str w17 fun _ _ => rfl
        have R17 : RF w17 B1 (byt C 0 y.s) g2 := R16.out.keep (hbl.block _ R16.out.lt)
        have hc0 := R17.c0
        have HE := Lib.hid (H16.out.below hbl).ons.sit.bel
        have heq : ((sb (byt C 0 y.s)).toList == (sb (byt C 0 y.s)).toList) = true := by simp
        clear hb2 hbl HR H16 R16 R17 HBB3 HF16
        generalize byt C 0 y.s = L at *
        go_wp2_with fail
        go_ret
        exact ⟨rfl, HE.out⟩
        | false =>
        go_wp2_with fail
        refine (drop_any HS.out).mono ?_
        rintro e w12 ⟨rfl, hs, hcg⟩
        have HSX := Lib.hid hs
        have RX : Hid (RF w12 B1 (byt C5 0 y5.s) g1) := HR1.out.keep (hcg.block _ HR1.out.lt (by simp; exact HP1.out.2.2.1))
        have HPX : Hid (B1 ∉ O6) := HP1.out.1
        clear hs hcg HS HF HBa HR1 HR2
        have HO1 : Hid (B1 ∉ O6) := HPX.out
        have HR := Lib.hid (read_flo (a := 0) (z := 9728) (s' := y5.s) HSX.out HF6.out (by omega) (by omega) (by have := (ok_size HF6.out.ok HF6.out.kind).1; omega))
        rw [show ((2 : Nat) : Int) = 2 from rfl, show ((0 : Nat) : Int) = 0 from rfl, show ((9728 : Nat) : Int) = 9728 from rfl] at HR
        go_wp2_with fail
        refine HR.out.mono ?_
        rintro e w14 ⟨A1, n1, c1, rfl, hb1, hbl, hown⟩
        have HS1 := Lib.hid (HSX.out.below hbl)
        have R14 : Hid (RF w14 B1 (byt C5 0 y5.s) g1) := RX.out.keep (hbl.block _ RX.out.lt)
        have HBB := Lib.hid hb1
        have HOW : Hid (∀ g o, A1 = some ⟨g, o, none⟩ → g ∉ O6) := fun g o e hm => by have h1 := hown g o e; have := HSX.out.ons.sit.drv.lt g hm; omega
        clear hb1 hbl hown HR RX
        go_wp2_with fail
        refine (restartO HS1.out.ons (ints_none w14 (fun _ => False)) (fun _ hf => hf.elim)).mono ?_
        rintro e w15 ⟨rfl, O15, s15, h15, hc15, ho15⟩
        have H15 := Lib.hid h15
        have R15 : Hid (RF w15 B1 (byt C5 0 y5.s) g1) := R14.out.keep (hc15.block _ R14.out.lt HO1.out)
        have HBB2 := Lib.hid (bts_apart (B := w14.heap.size) (g := 0) (o := 0) HBB.out (Nat.le_refl _) hc15 HOW.out)
        have HO15 : Hid (B1 ∉ O15) := fun hm => (ho15 _ hm).elim HO1.out fun h => by have := R14.out.lt; omega
        have HOW2 : Hid (∀ g o, A1 = some ⟨g, o, none⟩ → 0 < n1 → g ∉ O15) := fun g o e hn hm => (ho15 _ hm).elim (HOW.out g o e) fun h => by
          obtain ⟨b, off, e2, hb2, _⟩ := HBB.out.at_ hn
          rw [e] at e2; cases e2; omega
        have hsz15 := hc15.size
        clear h15 hc15 ho15 HS1 R14 HO1 HOW
        go_wp2_with fail
        refine (mount_bas H15.out HA6.out (U.ok_iff.2 (by omega)) (by omega)).mono ?_
        rintro e w16 ⟨p2, q2, O16, s16, rfl, h16, _, _, hc16, _⟩
        have H16 := Lib.hid h16
        have HF16 := Lib.hid (HF6.out.mounted (ep := 1) (g := 1) HSX.out.ons.len (by omega) (U.ok_iff.2 (by omega)))
        have R16 : Hid (RF w16 B1 (byt C5 0 y5.s) g1) := R15.out.keep (hc16.block _ R15.out.lt HO15.out)
        have HBB3 : Hid (T.Bts w16 w14.heap.size A1 n1 c1 (byt C5 0 y5.s)) := by
          by_cases hn : 0 < n1
          · exact bts_apart (B := w14.heap.size) (g := 0) (o := 0) HBB2.out hsz15 hc16 fun g o e => HOW2.out g o e hn
          · exact ⟨HBB2.out.len, HBB2.out.cap, HBB2.out.lim, HBB2.out.nil, fun h => absurd h hn⟩
        have hsz16 := hc16.size
        clear h16 hc16 H15 HO15 HOW2 R15 HBB HBB2 HF6 HA6 HSX
        have HR := Lib.hid (read_flo (a := 0) (z := 9728) (s' := y5.s) H16.out HF16.out (by omega) (by omega) (by have := (ok_size HF16.out.ok HF16.out.kind).1; omega))
        rw [show ((2 : Nat) : Int) = 2 from rfl, show ((0 : Nat) : Int) = 0 from rfl, show ((9728 : Nat) : Int) = 9728 from rfl] at HR
        go_wp2_with fail
        refine HR.out.mono ?_
        rintro e w17 ⟨A2, n2, c2, rfl, hb2, hbl, _⟩
        have hv1 : (convert 27 9 (.slice A1 n1 c1)).run Tryz.prog w17 = .ok (.string (sb (byt C5 0 y5.s))) w17 := HBB3.out.str w17 fun p hp => hbl.cell (by omega)
        have hv2 : (convert 27 9 (.slice A2 n2 c2)).run Tryz.prog w17 = .ok (.string (sb (byt C5 0 y5.s))) w17 := hb2.str w17 fun _ _ => rfl
        have R17 : RF w17 B1 (byt C5 0 y5.s) g1 := R16.out.keep (hbl.block _ R16.out.lt)
        have hc0 := R17.c0
        have HE := Lib.hid (H16.out.below hbl).ons.sit.bel
        have heq : ((sb (byt C5 0 y5.s)).toList == (sb (byt C5 0 y5.s)).toList) = true := by simp
        clear hb2 hbl HR H16 R16 R17 HBB3 HF16
        generalize byt C5 0 y5.s = L at *
        go_wp2_with fail
        go_ret
        exact ⟨rfl, HE.out⟩
end Go.Proofs.YtijbgdihnjnllaaGreat.V
