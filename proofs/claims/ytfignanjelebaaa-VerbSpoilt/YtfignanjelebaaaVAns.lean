/- copyholdref17.Answer, walked. -/
import Derived.Test.YtfignanjelebaaaVShort
import Derived.Test.YtfignanjelebaaaVRefC
namespace Go.Proofs.Ytfignanjelebaaa
open Go.RowKit
set_option linter.unusedVariables false
/-- What is written of a reply ahead of its names, and of so many of them. -/
def Rp.pre (r : Rp) (k : Nat) : List UInt8 := nums [r.lf, r.sq, r.ep, r.e] ++ (nums r.st ++ (txt r.d ++ lit 4 r.ns.length)) ++ (r.ns.take k).flatMap txt
theorem Rp.pre_zero (r : Rp) : r.pre 0 = nums [r.lf, r.sq, r.ep, r.e] ++ (nums r.st ++ (txt r.d ++ lit 4 r.ns.length)) := by simp [Rp.pre]
theorem Rp.pre_all (r : Rp) : r.pre r.ns.length = r.body := by
  have : nums r.xs = nums [r.lf, r.sq, r.ep, r.e] ++ nums r.st := nums_append _ _
  simp only [Rp.pre, Rp.body, List.take_length, this, List.append_assoc]
theorem Rp.pre_succ (r : Rp) {k : Nat} {s : List UInt8} (h : k < r.ns.length) (hs : r.ns[k]?.getD [] = s) : r.pre k ++ txt s = r.pre (k + 1) := by
  rw [List.getElem?_eq_getElem h] at hs
  simp only [Option.getD_some] at hs
  simp only [Rp.pre, List.take_succ_eq_append_getElem h, hs, List.flatMap_append, List.flatMap_cons, List.flatMap_nil, List.append_nil, List.append_assoc]
theorem Rp.pre_length (r : Rp) {k : Nat} (h : r.Good) (hk : k ≤ r.ns.length) : (r.pre k).length ≤ 13614 := by
  have h1 := texts_length (r.ns.take k) fun s hs => h.2.1 s (List.mem_of_mem_take hs)
  have h2 := h.1
  simp only [Rp.low] at h2
  rw [List.length_take, Nat.min_eq_left hk] at h1
  simp only [Rp.pre, List.length_append, nums_length, txt_length, lit_length, Rp.st, List.length_cons, List.length_nil]
  omega
theorem low4 {r : Rp} (h : r.Good) : ∀ n ∈ [r.lf, r.sq, r.ep, r.e], 0 ≤ n ∧ n < 4294967296 := fun n hn => h.nums n (by simp only [Rp.xs, List.mem_append]; exact .inl hn)
set_option maxRecDepth 100000 in
set_option maxHeartbeats 4000000 in
theorem refAnswer_any (r : Rp) (A A' : Option Addr) (n c n' c' B : Nat) (w : World) (hd : Bts w B A n c r.d) (h : Strs w B A' n' c' r.ns) (hB : B ≤ w.heap.size) : Calls Try.prog 19 #[.agg (rc r A n c A' n' c').toArray] w (TxtE w r.Good r.frame) := by
  have hn := hd.len
  have hn' := h.len
  obtain ⟨a0, ab, az⟩ := box1 w (Obj.cells (rc r A n c A' n' c').toArray 44)
  have A0 := Lib.hid a0
  have AB := Lib.hid ab
  have AZ := Lib.hid az
  have HN0 := Lib.hid h
  have HN := Lib.hid (h.below (ab.mono hB))
  have HD := Lib.hid hd
  clear a0 ab az h hd
  go_enter Try.func19, Try.ntmps19
  go_wp2_with (first | (refine wpList_load_row rfl 44 _ rfl w.heap.size rfl _ _ _ A0.out _ Try.underlying44 rfl s44 ?_) | fail)
  refine (refRight_any r A A' n c n' c' B _ hn HN.out (by rw [AZ.out]; omega)).mono ?_
  rintro e w1 ⟨rfl, hb1⟩
  have A1 : Hid (w1.heap[w.heap.size]? = some (.cells (rc r A n c A' n' c').toArray 44 (0, 0))) := (hb1.block _ (by rw [AZ.out]; omega)).trans A0.out
  have AB1 : Hid (Below w.heap.size w w1) := AB.out.trans (hb1.mono (by rw [AZ.out]; omega))
  have hs1 : w.heap.size < w1.heap.size := by have := hb1.size; rw [AZ.out] at this; omega
  clear hb1 AB A0 AZ HN
  by_cases hg : r.Good
  case neg =>
    rw [decide_eq_false hg]
    have HG := Lib.hid hg
    clear hg
    go_wp2_with fail
    go_ret2
    exact ⟨.inr ⟨HG.out, rfl⟩, AB1.out⟩
  rw [decide_eq_true hg]
  have HG := Lib.hid hg
  clear hg
  have HS : ∀ V, Hid (Below w1.heap.size w1 V → V.cell? ⟨w.heap.size, 0, none⟩ = some (.int .i64 r.lf) ∧ V.cell? ⟨w.heap.size, 1, none⟩ = some (.int .i64 r.sq) ∧ V.cell? ⟨w.heap.size, 2, none⟩ = some (.int .i64 r.ep) ∧ V.cell? ⟨w.heap.size, 3, none⟩ = some (.int .i64 r.e) ∧ V.rangeAt w.heap.size 4 (sc r) ∧ V.cell? ⟨w.heap.size, 10, none⟩ = some (.slice A n c) ∧ V.cell? ⟨w.heap.size, 11, none⟩ = some (.slice A' n' c') ∧ (convert 24 9 (.slice A n c)).run Try.prog V = .ok (.string ⟨r.d.toArray⟩) V) := fun V hV => by
    obtain ⟨d0, d1, d2, d3, _, _, _, _, _, _, d10, d11⟩ := rc_cells ((hV.block _ hs1).trans A1.out)
    exact ⟨d0, d1, d2, d3, range_of ((hV.block _ hs1).trans A1.out) 4 (sc r) (fun j u h => by
      match j, h with
      | 0, h | 1, h | 2, h | 3, h | 4, h | 5, h => exact h), d10, d11, (HD.out.below ((AB1.out.trans (hV.mono (by omega))).mono hB)).str V (fun _ _ => rfl)⟩
  have HB0 : Hid (Below w1.heap.size w1 w1.drew) := (Below.refl _ _).drew
  obtain ⟨b0, bb, bz⟩ := box1 w1.drew (Obj.cells ([r.lf, r.sq, r.ep, r.e].map iv).toArray 3)
  have B0 := Lib.hid b0
  have HB1 : Hid (Below w1.heap.size w1 (w1.drew.alloc (Obj.cells ([r.lf, r.sq, r.ep, r.e].map iv).toArray 3))) := HB0.out.trans bb
  have hpl := r.pre_length (k := 0) HG.out (Nat.zero_le _)
  rw [r.pre_zero] at hpl
  simp only [List.length_append] at hpl
  have e1 := str_app (nums [r.lf, r.sq, r.ep, r.e]) (nums r.st)
  have e2 := str_app (nums [r.lf, r.sq, r.ep, r.e] ++ nums r.st) (txt r.d)
  have e3 := str_app (nums [r.lf, r.sq, r.ep, r.e] ++ (nums r.st ++ txt r.d)) (lit 4 n')
  rw [hn'] at hpl
  have z1 : ¬ 9223372036854775807 < (nums [r.lf, r.sq, r.ep, r.e]).length + (nums r.st).length := by omega
  have z2 : ¬ 9223372036854775807 < (nums [r.lf, r.sq, r.ep, r.e]).length + (nums r.st).length + (txt r.d).length := by omega
  have z3 : ¬ 9223372036854775807 < (nums [r.lf, r.sq, r.ep, r.e]).length + ((nums r.st).length + (txt r.d).length) + (lit 4 n').length := by omega
  have hlow := HG.out.1
  simp only [Rp.low] at hlow
  have HDL : Hid (r.d.length ≤ 65535) := by simp only [Hid]; omega
  have hn5 : n' ≤ 512 := by omega
  clear b0 bb bz hpl hlow
  go_upto_region 3 with fail
  refine wp_region_noPanic ?_
  refine wp_region_held_drew (S := fun V => V.cell? ⟨w.heap.size, 0, none⟩ = some (.int .i64 r.lf) ∧ V.cell? ⟨w.heap.size, 1, none⟩ = some (.int .i64 r.sq) ∧ V.cell? ⟨w.heap.size, 2, none⟩ = some (.int .i64 r.ep) ∧ V.cell? ⟨w.heap.size, 3, none⟩ = some (.int .i64 r.e) ∧ V.rangeAt w.heap.size 4 (sc r) ∧ V.cell? ⟨w.heap.size, 10, none⟩ = some (.slice A n c) ∧ V.cell? ⟨w.heap.size, 11, none⟩ = some (.slice A' n' c') ∧ (convert 24 9 (.slice A n c)).run Try.prog V = .ok (.string ⟨r.d.toArray⟩) V) (by kernel_rfl) ((HS _).out HB0.out) (fun hHeld => ?_)
  refine wpAnyH_take (i := 10) (oi := _) (v := ?_) rfl (by kernel_rfl) (by kernel_rfl) (by kernel_rfl) (fun _ _ _ h => h) (Or.inl ⟨by rfl, ?_⟩) (by assumption) ?_
  rotate_left
  · intro w hSw; (try dsimp only at hSw); go_simp <;> with_reducible rfl
  refine wpAnyH_take (i := 11) (oi := _) (v := .agg (sc r).toArray) rfl (by kernel_rfl) (by kernel_rfl) (by kernel_rfl) (fun _ _ _ h => h) (yieldsIf_load_mid (by rfl) 41 _ rfl w.heap.size (4) rfl (sc r) _ (fun V hV => hV.2.2.2.2.1) und41 rfl s41) (by assumption) ?_
  refine wpAnyH_take (i := 0) (oi := _) (v := ?_) rfl (by kernel_rfl) (by kernel_rfl) (by kernel_rfl) (fun _ _ _ h => h) (Or.inl ⟨by rfl, ?_⟩) (by assumption) ?_
  rotate_left
  · intro w hSw; (try dsimp only at hSw); go_simp <;> with_reducible rfl
  refine wpAnyH_take (i := 1) (oi := _) (v := ?_) rfl (by kernel_rfl) (by kernel_rfl) (by kernel_rfl) (fun _ _ _ h => h) (Or.inl ⟨by rfl, ?_⟩) (by assumption) ?_
  rotate_left
  · intro w hSw; (try dsimp only at hSw); go_simp <;> with_reducible rfl
  refine wpAnyH_take (i := 2) (oi := _) (v := ?_) rfl (by kernel_rfl) (by kernel_rfl) (by kernel_rfl) (fun _ _ _ h => h) (Or.inl ⟨by rfl, ?_⟩) (by assumption) ?_
  rotate_left
  · intro w hSw; (try dsimp only at hSw); go_simp <;> with_reducible rfl
  refine wpAnyH_take (i := 3) (oi := _) (v := ?_) rfl (by kernel_rfl) (by kernel_rfl) (by kernel_rfl) (fun _ _ _ h => h) (Or.inl ⟨by rfl, ?_⟩) (by assumption) ?_
  rotate_left
  · intro w hSw; (try dsimp only at hSw); go_simp <;> with_reducible rfl
  refine wpAnyH_take (i := 4) (oi := _) (v := ?_) rfl (by kernel_rfl) (by kernel_rfl) (by kernel_rfl) (fun _ _ _ h => h) (Or.inl ⟨by rfl, ?_⟩) (by assumption) ?_
  rotate_left
  · intro w hSw; (try dsimp only at hSw); go_simp <;> with_reducible rfl
  refine wpAnyH_take (i := 5) (oi := _) (v := ?_) rfl (by kernel_rfl) (by kernel_rfl) (by kernel_rfl) (fun _ _ _ h => h) (Or.inl ⟨by rfl, ?_⟩) (by assumption) ?_
  rotate_left
  · intro w hSw; (try dsimp only at hSw); go_simp <;> with_reducible rfl
  refine wpAnyH_take (i := 6) (oi := _) (v := ?_) rfl (by kernel_rfl) (by kernel_rfl) (by kernel_rfl) (fun _ _ _ h => h) (Or.inl ⟨by rfl, ?_⟩) (by assumption) ?_
  rotate_left
  · intro w hSw; (try dsimp only at hSw); go_simp <;> with_reducible rfl
  refine wpAnyH_take (i := 7) (oi := _) (v := ?_) rfl (by kernel_rfl) (by kernel_rfl) (by kernel_rfl) (fun _ _ _ h => h) (Or.inl ⟨by rfl, ?_⟩) (by assumption) ?_
  rotate_left
  · intro w hSw; (try dsimp only at hSw); go_simp <;> with_reducible rfl
  refine wpAnyH_take (i := 15) (oi := _) (v := ?_) rfl (by kernel_rfl) (by kernel_rfl) (by kernel_rfl) (fun _ _ _ h => h) (Or.inl ⟨by rfl, ?_⟩) (by assumption) ?_
  rotate_left
  · intro w hSw; (try dsimp only at hSw); go_simp <;> with_reducible rfl
  refine wpAnyH_take (i := 16) (oi := _) (v := ?_) rfl (by kernel_rfl) (by kernel_rfl) (by kernel_rfl) (fun _ _ _ h => h) (Or.inl ⟨by rfl, ?_⟩) (by assumption) ?_
  rotate_left
  · intro w hSw; (try dsimp only at hSw); go_simp <;> with_reducible rfl
  refine wpAnyH_take (i := 17) (oi := _) (v := ?_) rfl (by kernel_rfl) (by kernel_rfl) (by kernel_rfl) (fun _ _ _ h => h) (Or.inl ⟨by rfl, ?_⟩) (by assumption) ?_
  rotate_left
  · intro w hSw; (try dsimp only at hSw); go_simp <;> with_reducible rfl
  refine wpAnyH_take (i := 20) (oi := _) (v := ?_) rfl (by kernel_rfl) (by kernel_rfl) (by kernel_rfl) (fun _ _ _ h => h) (Or.inl ⟨by rfl, ?_⟩) (by assumption) ?_
  rotate_left
  · intro w hSw; (try dsimp only at hSw); go_simp <;> with_reducible rfl
  refine wpAnyH_take (i := 21) (oi := _) (v := ?_) rfl (by kernel_rfl) (by kernel_rfl) (by kernel_rfl) (fun _ _ _ h => h) (Or.inl ⟨by rfl, ?_⟩) (by assumption) ?_
  rotate_left
  · intro w hSw; (try dsimp only at hSw); go_simp <;> with_reducible rfl
  refine wpAnyH_take (i := 22) (oi := _) (v := ?_) rfl (by kernel_rfl) (by kernel_rfl) (by kernel_rfl) (fun _ _ _ h => h) (Or.inl ⟨by rfl, ?_⟩) (by assumption) ?_
  rotate_left
  · intro w hSw; (try dsimp only at hSw); go_simp <;> with_reducible rfl
  refine wpAnyH_ready (rs := [8]) (by kernel_rfl) (by simp) ?_
  refine AllReadyH.cons (o := _) rfl (fun K hK => ?_) AllReadyH.nil
  go_simp
  refine hK.out _ _ ((HS _).out HB1.out) (fun hHeld => ?_)
  clear hK K
  refine wpAnyH_ready (rs := [9]) (by kernel_rfl) (by simp) ?_
  refine AllReadyH.cons (o := _) rfl (fun K hK => ?_) AllReadyH.nil
  go_simp
  go_at_call 37
  refine (nums_any [r.lf, r.sq, r.ep, r.e] (low4 HG.out) (by show 4 ≤ 10; omega) w1.heap.size _ B0.out).mono ?_
  rintro e w3 ⟨rfl, hb3⟩
  have HB3 := Lib.hid (HB1.out.trans (hb3.mono HB1.out.size))
  clear hb3
  go_wp2_with fail
  refine hK.out _ _ ((HS _).out HB3.out) (fun hHeld => ?_)
  clear hK K
  refine wpAnyH_ready (rs := [12]) (by kernel_rfl) (by simp) ?_
  refine AllReadyH.cons (o := _) rfl (fun K hK => ?_) AllReadyH.nil
  go_simp
  go_at_call 56
  refine (stat_any r _).mono ?_
  rintro e w4 ⟨g, rfl, hg4, hb4, hl4⟩
  have HB4 := Lib.hid (HB3.out.trans (hb4.mono HB3.out.size))
  have G4 := Lib.hid hg4
  clear hb4 hg4 hl4
  go_wp2_with fail
  refine hK.out _ _ ((HS _).out HB4.out) (fun hHeld => ?_)
  clear hK K
  refine wpAnyH_ready (rs := [13]) (by kernel_rfl) (by simp) ?_
  refine AllReadyH.cons (o := _) rfl (fun K hK => ?_) AllReadyH.nil
  go_simp
  go_at_call 37
  refine (nums_any r.st (st_low HG.out) (by show 6 ≤ 10; omega) _ _ G4.out).mono ?_
  rintro e w5 ⟨rfl, hb5⟩
  have HB5 := Lib.hid (HB4.out.trans (hb5.mono HB4.out.size))
  clear hb5
  go_wp2_with fail
  refine hK.out _ _ ((HS _).out HB5.out) (fun hHeld => ?_)
  clear hK K
  refine wpAnyH_take (i := 14) (oi := _) (v := ?_) rfl (by kernel_rfl) (by kernel_rfl) (by kernel_rfl) (fun _ _ _ h => h) (Or.inl ⟨by rfl, ?_⟩) (by assumption) ?_
  rotate_left
  · intro w hSw; (try dsimp only at hSw); go_simp <;> with_reducible rfl
  refine wpAnyH_ready (rs := [18]) (by kernel_rfl) (by simp) ?_
  refine AllReadyH.cons (o := _) rfl (fun K hK => ?_) AllReadyH.nil
  go_simp
  go_at_call 39
  refine (refTxt_any r.d _ HDL.out).mono ?_
  rintro e w6 ⟨rfl, hb6⟩
  have HB6 := Lib.hid (HB5.out.trans (hb6.mono HB5.out.size))
  clear hb6
  go_wp2_with fail
  refine hK.out _ _ ((HS _).out HB6.out) (fun hHeld => ?_)
  clear hK K
  refine wpAnyH_take (i := 19) (oi := _) (v := ?_) rfl (by kernel_rfl) (by kernel_rfl) (by kernel_rfl) (fun _ _ _ h => h) (Or.inl ⟨by rfl, ?_⟩) (by assumption) ?_
  rotate_left
  · intro w hSw; (try dsimp only at hSw); go_simp <;> with_reducible rfl
  refine wpAnyH_ready (rs := [23]) (by kernel_rfl) (by simp) ?_
  refine AllReadyH.cons (o := _) rfl (fun K hK => ?_) AllReadyH.nil
  go_simp
  go_at_call 57
  refine (little_any n' 4 _ (by omega) (by omega)).mono ?_
  rintro e w7 ⟨rfl, hb7⟩
  have HB7 := Lib.hid (HB6.out.trans (hb7.mono HB6.out.size))
  clear hb7
  go_wp2_with fail
  refine hK.out _ _ ((HS _).out HB7.out) (fun hHeld => ?_)
  clear hK K
  refine wpAnyH_take (i := 24) (oi := _) (v := ?_) rfl (by kernel_rfl) (by kernel_rfl) (by kernel_rfl) (fun _ _ _ h => h) (Or.inl ⟨by rfl, ?_⟩) (by assumption) ?_
  rotate_left
  · intro w hSw; (try dsimp only at hSw); go_simp <;> with_reducible rfl
  refine wpAnyH_take (i := 25) (oi := _) (v := ?_) rfl (by kernel_rfl) (by kernel_rfl) (by kernel_rfl) (fun _ _ _ h => h) (Or.inl ⟨by rfl, ?_⟩) (by assumption) ?_
  rotate_left
  · intro w hSw; (try dsimp only at hSw); go_simp <;> with_reducible rfl
  refine wpAnyH_done (by kernel_rfl) ?_ _
  refine NoPanic.normal ?_
  clear e1 e2 e3 z1 z2 z3 B0 HB0 HB1 HB3 HB4 HB5 HB6 G4 hHeld
  go_wp2_with fail
  have HP0 : Hid (nums [r.lf, r.sq, r.ep, r.e] ++ (nums r.st ++ (txt r.d ++ lit 4 n')) = r.pre 0) := by simp only [Hid]; rw [← hn', r.pre_zero]
  go_loopw [4, 5] (fun s i wr => ∃ k : Nat, k ≤ n' ∧ i = .int .i64 k ∧ s = .string ⟨(r.pre k).toArray⟩ ∧ Hid (Below w1.heap.size w1 wr)) (fun _ i _ => n' - (intOf i).toNat)
  case atStart => exact ⟨0, Nat.zero_le _, rfl, by rw [← HP0.out], HB7⟩
  case round =>
    clear HB7
    obtain ⟨k, hk, rfl, rfl, HB⟩ := hrel
    have HW : Hid (Below w.heap.size w wr) := AB1.out.trans (HB.out.mono (by omega))
    have c11 := ((HS _).out HB.out).2.2.2.2.2.2.1
    by_cases hlt : k < n'
    · have hlt' : (k : Int) < (n' : Int) := by omega
      obtain ⟨b, off, rfl, hb, hc⟩ := (HN0.out.below (HW.out.mono hB)).cell hlt
      obtain ⟨s, hs⟩ : ∃ s, r.ns[k]?.getD [] = s := ⟨_, rfl⟩
      rw [hs] at hc
      have hsl : s.length ≤ 24 := by
        rw [List.getElem?_eq_getElem (by omega)] at hs
        rw [← hs]
        exact HG.out.2.1 _ (List.getElem_mem _)
      have E1 := Lib.hid (str_app (r.pre k) (txt s))
      have E2 := Lib.hid (r.pre_succ (k := k) (s := s) (by omega) hs)
      have hpl := r.pre_length (k := k) HG.out (by omega)
      have z1 : ¬ 9223372036854775807 < (r.pre k).length + (txt s).length := by rw [txt_length]; omega
      clear hs hpl
      go_wp2_with fail
      refine (refTxt_any s _ (by omega)).mono ?_
      rintro e w8 ⟨rfl, hb8⟩
      have HB8 := Lib.hid (HB.out.trans (hb8.mono HB.out.size))
      clear hb8 hc c11
      go_wp2_with fail
      go_roundw
      case rel => exact ⟨k + 1, by omega, by go_num, by rw [E1.out, E2.out], HB8⟩
      case measure => simp [intOf]; omega
    · obtain rfl : k = n' := by omega
      have hlt' : ¬ (k : Int) < (k : Int) := by omega
      have E0 : r.pre k = r.body := by rw [← hn']; exact r.pre_all
      rw [E0]
      clear E0
      go_wp2_with fail
      refine (refFrame_yes 65 r.body _ (Nat.le_trans HG.out.len (by omega))).mono ?_
      rintro e w8 ⟨rfl, hb8⟩
      have HB8 := Lib.hid (HW.out.trans (hb8.mono HW.out.size))
      clear hb8 c11
      go_wp2_with fail
      go_ret2
      exact ⟨.inl ⟨HG.out, rfl⟩, HB8.out⟩
end Go.Proofs.Ytfignanjelebaaa
