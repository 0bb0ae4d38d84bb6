/- copyholdref17: Call, Encode, walked. -/
import Derived.Test.YtfignanjelebaaaVNums
import Derived.Test.YtfignanjelebaaaVGood
namespace Go.Proofs.Ytfignanjelebaaa
open Go.RowKit
set_option linter.unusedVariables false
/-- A frame as a text, or ErrForm. -/
def TxtE (w : World) (good : Prop) (l : List UInt8) (e : Ending) (w' : World) : Prop :=
  (good ∧ e = .returned (.tuple #[.string ⟨l.toArray⟩, .int .i64 0]) ∨ ¬ good ∧ e = .returned (.tuple #[.string ⟨#[]⟩, .int .i64 2])) ∧ Below w.heap.size w w'
set_option maxHeartbeats 2000000 in
theorem refCall_any (r : Rc) (w : World) : Calls Try.prog 23 #[.agg (kc r).toArray] w (TxtE w r.Good r.frame) := by
  obtain ⟨a0, ab, az⟩ := box1 w (Obj.cells (kc r).toArray 52)
  have A0 := Lib.hid a0
  have AB := Lib.hid ab
  have AZ := Lib.hid az
  clear a0 ab az
  obtain ⟨c0, c1, c2⟩ := kc_cells A0.out
  go_enter Try.func23, Try.ntmps23
  go_wp2_with fail
  by_cases h1 : num r.ep
  case neg =>
    refine (number_no _ _ h1).mono ?_
    rintro e w1 ⟨rfl, rfl⟩
    go_wp2_with fail
    go_ret2
    exact ⟨.inr ⟨fun h => h1 h.1, rfl⟩, AB.out⟩
  refine (number_yes _ _ h1).mono ?_
  rintro e w1 ⟨rfl, rfl⟩
  go_wp2_with fail
  by_cases h2 : num r.nd
  case neg =>
    refine (number_no _ _ h2).mono ?_
    rintro e w1 ⟨rfl, rfl⟩
    go_wp2_with fail
    go_ret2
    exact ⟨.inr ⟨fun h => h2 h.2.1, rfl⟩, AB.out⟩
  refine (number_yes _ _ h2).mono ?_
  rintro e w1 ⟨rfl, rfl⟩
  go_wp2_with fail
  by_cases h3 : num r.gn
  case neg =>
    refine (number_no _ _ h3).mono ?_
    rintro e w1 ⟨rfl, rfl⟩
    go_wp2_with fail
    go_ret2
    exact ⟨.inr ⟨fun h => h3 h.2.2, rfl⟩, AB.out⟩
  refine (number_yes _ _ h3).mono ?_
  rintro e w1 ⟨rfl, rfl⟩
  have hgood : r.Good := ⟨h1, h2, h3⟩
  have HG := Lib.hid hgood
  clear h1 h2 h3 hgood
  obtain ⟨b0, bb, bz⟩ := box1 (w.alloc (Obj.cells (kc r).toArray 52)) (Obj.cells (r.xs.map iv).toArray 3)
  rw [AZ.out] at b0
  have B0 := Lib.hid b0
  have BB := Lib.hid (AB.out.trans (bb.mono (by rw [AZ.out]; omega)))
  clear b0 bb bz
  go_wp2_with fail
  refine (nums_any r.xs HG.out.nums (by show 3 ≤ 10; omega) (w.heap.size + 1) _ B0.out).mono ?_
  rintro e w1 ⟨rfl, hb1⟩
  have HB1 := Lib.hid (BB.out.trans (hb1.mono BB.out.size))
  clear hb1 c0 c1 c2
  have hlen : (nums r.xs).length ≤ 65535 := by rw [nums_length]; show 4 * 3 ≤ 65535; omega
  go_wp2_with fail
  refine (refFrame_yes 67 (nums r.xs) _ hlen).mono ?_
  rintro e w2 ⟨rfl, hb2⟩
  have HB2 := Lib.hid (HB1.out.trans (hb2.mono HB1.out.size))
  clear hb2
  go_wp2_with fail
  go_ret2
  exact ⟨.inl ⟨HG.out, rfl⟩, HB2.out⟩
theorem refTxt_any (l : List UInt8) (w : World) (hl : l.length ≤ 65535) : Calls Try.prog 39 #[.string ⟨l.toArray⟩] w fun e w' => e = .returned (.string ⟨(txt l).toArray⟩) ∧ Below w.heap.size w w' := refText_any l w hl
set_option maxRecDepth 100000 in
set_option maxHeartbeats 4000000 in
theorem refEncode_any (v : Vb) (A : Option Addr) (n c B : Nat) (w : World) (h : Bts w B A n c v.d) (hB : B ≤ w.heap.size) : Calls Try.prog 11 #[.agg (vc v A n c).toArray] w (TxtE w v.Good v.frame) := by
  obtain ⟨a0, ab, az⟩ := box1 w (Obj.cells (vc v A n c).toArray 26)
  have A0 := Lib.hid a0
  have AB := Lib.hid ab
  have AZ := Lib.hid az
  have HD := Lib.hid h
  have hn := h.len
  clear a0 ab az h
  go_enter Try.func11, Try.ntmps11
  go_wp2_with (first | (refine wpList_load_row rfl 26 _ rfl w.heap.size rfl _ _ _ A0.out _ Try.underlying26 rfl s26 ?_) | fail)
  refine (refGood_any v A n c hn _).mono ?_
  rintro e w1 ⟨rfl, hb1⟩
  have A1 : Hid (w1.heap[w.heap.size]? = some (.cells (vc v A n c).toArray 26 (0, 0))) := (hb1.block _ (by rw [AZ.out]; omega)).trans A0.out
  have AB1 : Hid (Below w.heap.size w w1) := AB.out.trans (hb1.mono (by rw [AZ.out]; omega))
  have hs1 : w.heap.size < w1.heap.size := by have := hb1.size; rw [AZ.out] at this; omega
  clear hb1 AB A0 AZ
  by_cases hg : v.Good
  case neg =>
    rw [decide_eq_false hg]
    have HG := Lib.hid hg
    clear hg
    go_wp2_with fail
    go_ret2
    exact ⟨.inr ⟨HG.out, rfl⟩, AB1.out⟩
  rw [decide_eq_true hg]
  have HG := Lib.hid hg
  clear hg
  obtain ⟨c0, c1, c2, c3, c4, c5, c6, c7, c8, c9, c10, c11, c12⟩ := vc_cells A1.out
  obtain ⟨b0, bb, bz⟩ := box1 w1 (Obj.cells (v.ns.map iv).toArray 3)
  have B0 := Lib.hid b0
  have BB := Lib.hid (AB1.out.trans (bb.mono (by omega)))
  have BZ := Lib.hid bz
  have B1 : Hid ((w1.alloc (Obj.cells (v.ns.map iv).toArray 3)).heap[w.heap.size]? = some (.cells (vc v A n c).toArray 26 (0, 0))) := (bb.block _ hs1).trans A1.out
  clear b0 bb bz
  go_wp2_with fail
  refine (nums_any v.ns HG.out.ns (by show 10 ≤ 10; omega) w1.heap.size _ B0.out).mono ?_
  rintro e w2 ⟨rfl, hb2⟩
  have C1 : Hid (w2.heap[w.heap.size]? = some (.cells (vc v A n c).toArray 26 (0, 0))) := (hb2.block _ (by rw [BZ.out]; omega)).trans B1.out
  have CB : Hid (Below w.heap.size w w2) := BB.out.trans (hb2.mono (by rw [BZ.out]; omega))
  have hs2 : w.heap.size < w2.heap.size := by have := hb2.size; rw [BZ.out] at this; omega
  clear hb2 c0 c1 c2 c3 c4 c5 c6 c7 c8 c9 c10 c11 c12 A1 B0 B1 BB BZ AB1
  have hlow := HG.out.1
  have hd := HG.out.dl
  simp only [Vb.low] at hlow
  have HL : Hid ((nums v.ns ++ (txt v.p ++ (txt v.o ++ txt v.d))).length ≤ 65535) := Nat.le_trans HG.out.len (by omega)
  have HP : Hid (v.p.length ≤ 65535) := by simp only [Hid]; omega
  have HQ : Hid (v.o.length ≤ 65535) := by simp only [Hid]; omega
  have HR : Hid (v.d.length ≤ 65535) := by simp only [Hid]; omega
  have lN := nums_length v.ns
  have lN' : v.ns.length = 10 := rfl
  have lp := txt_length v.p
  have lo := txt_length v.o
  have ld := txt_length v.d
  have e1 := str_app (nums v.ns) (txt v.p)
  have e2 := str_app (nums v.ns ++ txt v.p) (txt v.o)
  have e3 := str_app (nums v.ns ++ (txt v.p ++ txt v.o)) (txt v.d)
  have z1 : ¬ 9223372036854775807 < (nums v.ns).length + (txt v.p).length := by omega
  have z2 : ¬ 9223372036854775807 < (nums v.ns).length + (txt v.p).length + (txt v.o).length := by omega
  have z3 : ¬ 9223372036854775807 < (nums v.ns).length + ((txt v.p).length + (txt v.o).length) + (txt v.d).length := by omega
  clear hlow hd lN lN' lp lo ld
  have HS : ∀ V, Hid (Below w2.heap.size w2 V → V.cell? ⟨w.heap.size, 5, none⟩ = some (.string ⟨v.p.toArray⟩) ∧ V.cell? ⟨w.heap.size, 6, none⟩ = some (.string ⟨v.o.toArray⟩) ∧ V.cell? ⟨w.heap.size, 12, none⟩ = some (.slice A n c) ∧ (convert 24 9 (.slice A n c)).run Try.prog V = .ok (.string ⟨v.d.toArray⟩) V) := fun V hV => by
    obtain ⟨_, _, _, _, _, d5, d6, _, _, _, _, _, d12⟩ := vc_cells ((hV.block _ hs2).trans C1.out)
    exact ⟨d5, d6, d12, (HD.out.below (((CB.out.trans (hV.mono (by omega)))).mono hB)).str V (fun _ _ => rfl)⟩
  have HB0 : Hid (Below w2.heap.size w2 w2.drew) := (Below.refl _ _).drew
  go_upto_region 4 with fail
  go_region_held3 (fun V => V.cell? ⟨w.heap.size, 5, none⟩ = some (.string ⟨v.p.toArray⟩) ∧ V.cell? ⟨w.heap.size, 6, none⟩ = some (.string ⟨v.o.toArray⟩) ∧ V.cell? ⟨w.heap.size, 12, none⟩ = some (.slice A n c) ∧ (convert 24 9 (.slice A n c)).run Try.prog V = .ok (.string ⟨v.d.toArray⟩) V) (first | (with_reducible exact (HS _).out HB0.out) | (with_reducible exact (HS _).out HB2.out) | (with_reducible exact (HS _).out HB3.out) | (with_reducible exact (HS _).out HB4.out) | (with_reducible exact (HS _).out HB5.out)) (first
    | (go_at_call 39; (with_reducible refine (refTxt_any v.p _ HP.out).mono ?_); rintro e w3 ⟨rfl, hb3⟩; have HB2 := Lib.hid (HB0.out.trans (hb3.mono HB0.out.size)); clear hb3)
    | (go_at_call 39; (with_reducible refine (refTxt_any v.o _ HQ.out).mono ?_); rintro e w4 ⟨rfl, hb4⟩; have HB3 := Lib.hid (HB2.out.trans (hb4.mono HB2.out.size)); clear hb4)
    | (go_at_call 39; (with_reducible refine (refTxt_any v.d _ HR.out).mono ?_); rintro e w5 ⟨rfl, hb5⟩; have HB4 := Lib.hid (HB3.out.trans (hb5.mono HB3.out.size)); clear hb5)
    | (go_at_call 38; (refine (refFrame_yes 81 (nums v.ns ++ (txt v.p ++ (txt v.o ++ txt v.d))) _ HL.out).mono ?_); rintro e w6 ⟨rfl, hb6⟩; have HB5 := Lib.hid (HB4.out.trans (hb6.mono HB4.out.size)); clear hb6))
  clear z1 z2 z3 e1 e2 e3 HS
  go_wp2_with fail
  go_ret2
  exact ⟨.inl ⟨HG.out, rfl⟩, CB.out.trans (HB5.out.mono (by omega))⟩
end Go.Proofs.Ytfignanjelebaaa
