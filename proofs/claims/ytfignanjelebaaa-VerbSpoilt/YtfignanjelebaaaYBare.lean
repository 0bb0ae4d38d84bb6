/- package verb: bare: has a request nothing of what hangs on its kind? (Written by program.) -/
import Derived.Test.YtfignanjelebaaaYIn
import Derived.Test.YtfignanjelebaaaVEq
namespace Go.Proofs.Ytfignanjelebaaa
open Go.RowKit
set_option linter.unusedVariables false
theorem nil_t {a : List UInt8} (h : a = []) : a.isEmpty = true := by subst h; rfl
theorem nil_f {a : List UInt8} (h : ¬ a = []) : a.isEmpty = false := by simpa using h
theorem ib_t {a b : Int} (h : a = b) : (a == b) = true := by rw [beq_iff_eq]; exact h
theorem ib_f {a b : Int} (h : ¬ a = b) : (a == b) = false := by rw [beq_eq_false_iff_ne]; exact h
def Vb.bare (x : Vb) (n : Nat) : Prop := x.p = [] ∧ x.o = [] ∧ (x.nd = 0 ∧ x.gn = 0) ∧ x.a = 0 ∧ x.sz = 0 ∧ x.md = 0 ∧ n = 0
instance (x : Vb) (n : Nat) : Decidable (x.bare n) := by unfold Vb.bare; infer_instance
set_option maxRecDepth 100000 in
set_option maxHeartbeats 4000000 in
theorem bare_any (v : Vb) (A : Option Addr) (n c : Nat) (w : World) : Calls Try.prog 69 #[.agg (vc v A n c).toArray] w fun e w' => e = .returned (.bool (decide (v.bare n))) ∧ Below w.heap.size w w' := by
  obtain ⟨r, hr⟩ : ∃ r, decide (v.bare n) = r := ⟨_, rfl⟩
  rw [hr]
  have HR0 := Lib.hid hr
  clear hr
  obtain ⟨a0, ab, az⟩ := box1 w (Obj.cells (vc v A n c).toArray 26)
  have A0 := Lib.hid a0
  have AB := Lib.hid ab
  clear a0 ab az
  obtain ⟨c0, c1, c2, c3, c4, c5, c6, c7, c8, c9, c10, c11, c12⟩ := vc_cells A0.out
  have HR := Lib.hid (range_of A0.out 7 [.int .i64 v.nd, .int .i64 v.gn] (fun j u h => by
    match j, h with
    | 0, h => exact h
    | 1, h => exact h))
  go_enter Try.func69, Try.ntmps69
  by_cases yp : v.p = []
  case neg =>
    obtain rfl : r = false := by rw [← HR0.out]; exact decide_eq_false fun h => yp (h.1)
    have qp := nil_f yp
    go_wp2_with (first | (refine wpList_load_part rfl 23 _ rfl w.heap.size 7 rfl _ HR.out _ und23 rfl s23 ?_) | fail)
    all_goals go_ret
    all_goals exact ⟨rfl, AB.out⟩
  have qp := nil_t yp
  by_cases yo : v.o = []
  case neg =>
    obtain rfl : r = false := by rw [← HR0.out]; exact decide_eq_false fun h => yo (h.2.1)
    have qo := nil_f yo
    go_wp2_with (first | (refine wpList_load_part rfl 23 _ rfl w.heap.size 7 rfl _ HR.out _ und23 rfl s23 ?_) | fail)
    all_goals go_ret
    all_goals exact ⟨rfl, AB.out⟩
  have qo := nil_t yo
  by_cases yh : v.nd = 0 ∧ v.gn = 0
  case neg =>
    obtain rfl : r = false := by rw [← HR0.out]; exact decide_eq_false fun h => yh (h.2.2.1)
    go_wp2_with (first | (refine wpList_load_part rfl 23 _ rfl w.heap.size 7 rfl _ HR.out _ und23 rfl s23 ?_) | fail)
    all_goals go_ret
    all_goals exact ⟨rfl, AB.out⟩
  obtain ⟨y1, y2⟩ := yh
  have q1 := ib_t y1
  have q2 := ib_t y2
  by_cases ya : v.a = 0
  case neg =>
    obtain rfl : r = false := by rw [← HR0.out]; exact decide_eq_false fun h => ya (h.2.2.2.1)
    have qa := ib_f ya
    go_wp2_with (first | (refine wpList_load_part rfl 23 _ rfl w.heap.size 7 rfl _ HR.out _ und23 rfl s23 ?_) | fail)
    all_goals go_ret
    all_goals exact ⟨rfl, AB.out⟩
  have qa := ib_t ya
  by_cases ys : v.sz = 0
  case neg =>
    obtain rfl : r = false := by rw [← HR0.out]; exact decide_eq_false fun h => ys (h.2.2.2.2.1)
    have qs := ib_f ys
    go_wp2_with (first | (refine wpList_load_part rfl 23 _ rfl w.heap.size 7 rfl _ HR.out _ und23 rfl s23 ?_) | fail)
    all_goals go_ret
    all_goals exact ⟨rfl, AB.out⟩
  have qs := ib_t ys
  by_cases ym : v.md = 0
  case neg =>
    obtain rfl : r = false := by rw [← HR0.out]; exact decide_eq_false fun h => ym (h.2.2.2.2.2.1)
    have qm := ib_f ym
    go_wp2_with (first | (refine wpList_load_part rfl 23 _ rfl w.heap.size 7 rfl _ HR.out _ und23 rfl s23 ?_) | fail)
    all_goals go_ret
    all_goals exact ⟨rfl, AB.out⟩
  have qm := ib_t ym
  by_cases yd : n = 0
  case neg =>
    obtain rfl : r = false := by rw [← HR0.out]; exact decide_eq_false fun h => yd (h.2.2.2.2.2.2)
    have qd : ((n : Int) == 0) = false := ib_f (by omega)
    go_wp2_with (first | (refine wpList_load_part rfl 23 _ rfl w.heap.size 7 rfl _ HR.out _ und23 rfl s23 ?_) | fail)
    all_goals go_ret
    all_goals exact ⟨rfl, AB.out⟩
  obtain rfl : r = true := by rw [← HR0.out]; exact decide_eq_true ⟨yp, yo, ⟨y1, y2⟩, ya, ys, ym, yd⟩
  subst yd
  go_wp2_with (first | (refine wpList_load_part rfl 23 _ rfl w.heap.size 7 rfl _ HR.out _ und23 rfl s23 ?_) | fail)
  all_goals go_ret
  all_goals exact ⟨rfl, AB.out⟩
end Go.Proofs.Ytfignanjelebaaa
