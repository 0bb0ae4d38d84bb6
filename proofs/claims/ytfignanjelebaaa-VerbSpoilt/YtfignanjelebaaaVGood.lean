/- copyholdref17.Good, walked. (Written by program.) -/
import Derived.Test.YtfignanjelebaaaVEq
import Derived.Deep.CutRange
namespace Go.Proofs.Ytfignanjelebaaa
open Go.RowKit
set_option linter.unusedVariables false
theorem str_nil_t {a : List UInt8} (h : a = []) : a.isEmpty = true := by subst h; rfl
theorem str_nil_f {a : List UInt8} (h : ¬ a = []) : a.isEmpty = false := by simpa using h
theorem vb {a b : Bool} (h : a = b) : Value.bool a = Value.bool b := by rw [h]
theorem not_low {v : Vb} (h : ¬ v.low) : decide v.Good = false := decide_eq_false fun g => h g.1
theorem not_mid {v : Vb} (h : ¬ v.mid) : decide v.Good = false := decide_eq_false fun g => h g.2.1
theorem not_own {v : Vb} (h : ¬ v.own) : decide v.Good = false := decide_eq_false fun g => h g.2.2.1
theorem not_kind {v : Vb} (h : ¬ v.kind) : decide v.Good = false := decide_eq_false fun g => h g.2.2.2
theorem in_is (l : List UInt8) (b : UInt8) (x : Int) (r : Bool) (hx : x = (b.toNat : Int)) (h : decide (b ∈ l) = r) (hl : l.length ≤ 10) (w : World) : Calls Try.prog 44 #[.string ⟨l.toArray⟩, .int .u8 x] w fun e w' => e = .returned (.bool r) ∧ w = w' := by
  subst hx h
  exact in_any l b w hl
theorem bt {a b : Int} (h : a = b) : (a == b) = true := by rw [beq_iff_eq]; exact h
theorem bf {a b : Int} (h : ¬ a = b) : (a == b) = false := by rw [beq_eq_false_iff_ne]; exact h
theorem hs_short (k : Int) : (hs k).length ≤ 10 := by
  by_cases h : hs k = []
  · rw [h]; decide
  · obtain ⟨h0, h1⟩ := hs_kind h
    obtain ⟨n, rfl⟩ := Int.eq_ofNat_of_zero_le (show 0 ≤ k by omega)
    have hc : n = 1 ∨ n = 2 ∨ n = 3 ∨ n = 4 ∨ n = 5 ∨ n = 6 ∨ n = 7 ∨ n = 8 ∨ n = 9 ∨ n = 10 ∨ n = 11 ∨ n = 12 ∨ n = 13 ∨ n = 14 ∨ n = 15 := by omega
    clear h h0 h1
    rcases hc with rfl | rfl | rfl | rfl | rfl | rfl | rfl | rfl | rfl | rfl | rfl | rfl | rfl | rfl | rfl <;> decide
set_option maxRecDepth 100000 in
set_option maxHeartbeats 8000000 in
theorem refGood_any (v : Vb) (A : Option Addr) (n c : Nat) (hn : v.d.length = n) (w : World) : Calls Try.prog 14 #[.agg (vc v A n c).toArray] w fun e w' => e = .returned (.bool (decide v.Good)) ∧ Below w.heap.size w w' := by
  obtain ⟨o, ho⟩ : ∃ o, decide v.Good = o := ⟨_, rfl⟩
  rw [ho]
  have HO := Lib.hid ho
  clear ho
  obtain ⟨a0, ab, az⟩ := box1 w (Obj.cells (vc v A n c).toArray 26)
  have A0 := Lib.hid a0
  have AB := Lib.hid ab
  clear a0 ab az
  obtain ⟨c0, c1, c2, c3, c4, c5, c6, c7, c8, c9, c10, c11, c12⟩ := vc_cells A0.out
  have HR := Lib.hid (range_of A0.out 7 [.int .i64 v.nd, .int .i64 v.gn] (fun j u h => by
    match j, h with
    | 0, h => exact h
    | 1, h => exact h))
  have hsp : (ByteArray.mk v.p.toArray).size = v.p.length := rfl
  have hso : (ByteArray.mk v.o.toArray).size = v.o.length := rfl
  obtain ⟨H, eH⟩ : ∃ H, hs v.k = H := ⟨_, rfl⟩
  have hhas : ∀ W, Calls Try.prog 42 #[.int .i64 v.k] W fun e w' => e = .returned (.string ⟨H.toArray⟩) ∧ W = w' := fun W => by rw [← eH]; exact has_any v.k W
  have EH := Lib.hid eH
  clear eH
  go_enter Try.func14, Try.ntmps14
  go_wp2_with fail
  refine (hhas _).mono ?_
  rintro e w1 ⟨rfl, rfl⟩
  clear hhas
  go_upto_region 2 with fail
  go_cut [54] from 5 to 54 (fun b wx => b = .bool (!decide (H ≠ [] ∧ 0 ≤ v.st ∧ v.st ≤ 7 ∧ 1 ≤ v.lf ∧ num v.lf ∧ num v.sq ∧ num v.ep ∧ v.p.length ≤ 255 ∧ v.o.length ≤ 255)) ∧ wx = w.alloc (Obj.cells (vc v A n c).toArray 26))
  case first =>
    by_cases hE : H = []
    case pos =>
      have hq := str_nil_t hE
      go_wp2_with (first | (refine wpList_load_part rfl 23 _ rfl w.heap.size 7 rfl _ HR.out _ und23 rfl s23 ?_) | fail)
      all_goals go_meet
      all_goals exact ⟨vb (by rw [decide_eq_false (p := (H ≠ [] ∧ 0 ≤ v.st ∧ v.st ≤ 7 ∧ 1 ≤ v.lf ∧ num v.lf ∧ num v.sq ∧ num v.ep ∧ v.p.length ≤ 255 ∧ v.o.length ≤ 255)) (fun h => h.1 hE)]; rfl), rfl⟩
    have hq := str_nil_f hE
    by_cases h1 : v.st < 0
    case pos =>
      go_wp2_with (first | (refine wpList_load_part rfl 23 _ rfl w.heap.size 7 rfl _ HR.out _ und23 rfl s23 ?_) | fail)
      all_goals go_meet
      all_goals exact ⟨vb (by rw [decide_eq_false (p := (H ≠ [] ∧ 0 ≤ v.st ∧ v.st ≤ 7 ∧ 1 ≤ v.lf ∧ num v.lf ∧ num v.sq ∧ num v.ep ∧ v.p.length ≤ 255 ∧ v.o.length ≤ 255)) (fun h => by have := h.2.1; have := h.2.2.1; have := h.2.2.2.1; omega)]; rfl), rfl⟩
    by_cases h2 : 7 < v.st
    case pos =>
      go_wp2_with (first | (refine wpList_load_part rfl 23 _ rfl w.heap.size 7 rfl _ HR.out _ und23 rfl s23 ?_) | fail)
      all_goals go_meet
      all_goals exact ⟨vb (by rw [decide_eq_false (p := (H ≠ [] ∧ 0 ≤ v.st ∧ v.st ≤ 7 ∧ 1 ≤ v.lf ∧ num v.lf ∧ num v.sq ∧ num v.ep ∧ v.p.length ≤ 255 ∧ v.o.length ≤ 255)) (fun h => by have := h.2.1; have := h.2.2.1; have := h.2.2.2.1; omega)]; rfl), rfl⟩
    by_cases h3 : v.lf < 1
    case pos =>
      go_wp2_with (first | (refine wpList_load_part rfl 23 _ rfl w.heap.size 7 rfl _ HR.out _ und23 rfl s23 ?_) | fail)
      all_goals go_meet
      all_goals exact ⟨vb (by rw [decide_eq_false (p := (H ≠ [] ∧ 0 ≤ v.st ∧ v.st ≤ 7 ∧ 1 ≤ v.lf ∧ num v.lf ∧ num v.sq ∧ num v.ep ∧ v.p.length ≤ 255 ∧ v.o.length ≤ 255)) (fun h => by have := h.2.1; have := h.2.2.1; have := h.2.2.2.1; omega)]; rfl), rfl⟩
    go_wp2_with fail
    by_cases h4 : num v.lf
    case neg =>
      refine (number_no _ _ h4).mono ?_
      rintro e w1 ⟨rfl, rfl⟩
      go_wp2_with (first | (refine wpList_load_part rfl 23 _ rfl w.heap.size 7 rfl _ HR.out _ und23 rfl s23 ?_) | fail)
      all_goals go_meet
      all_goals exact ⟨vb (by rw [decide_eq_false (p := (H ≠ [] ∧ 0 ≤ v.st ∧ v.st ≤ 7 ∧ 1 ≤ v.lf ∧ num v.lf ∧ num v.sq ∧ num v.ep ∧ v.p.length ≤ 255 ∧ v.o.length ≤ 255)) (fun h => h4 h.2.2.2.2.1)]; rfl), rfl⟩
    refine (number_yes _ _ h4).mono ?_
    rintro e w1 ⟨rfl, rfl⟩
    go_wp2_with fail
    by_cases h5 : num v.sq
    case neg =>
      refine (number_no _ _ h5).mono ?_
      rintro e w1 ⟨rfl, rfl⟩
      go_wp2_with (first | (refine wpList_load_part rfl 23 _ rfl w.heap.size 7 rfl _ HR.out _ und23 rfl s23 ?_) | fail)
      all_goals go_meet
      all_goals exact ⟨vb (by rw [decide_eq_false (p := (H ≠ [] ∧ 0 ≤ v.st ∧ v.st ≤ 7 ∧ 1 ≤ v.lf ∧ num v.lf ∧ num v.sq ∧ num v.ep ∧ v.p.length ≤ 255 ∧ v.o.length ≤ 255)) (fun h => h5 h.2.2.2.2.2.1)]; rfl), rfl⟩
    refine (number_yes _ _ h5).mono ?_
    rintro e w1 ⟨rfl, rfl⟩
    go_wp2_with fail
    by_cases h6 : num v.ep
    case neg =>
      refine (number_no _ _ h6).mono ?_
      rintro e w1 ⟨rfl, rfl⟩
      go_wp2_with (first | (refine wpList_load_part rfl 23 _ rfl w.heap.size 7 rfl _ HR.out _ und23 rfl s23 ?_) | fail)
      all_goals go_meet
      all_goals exact ⟨vb (by rw [decide_eq_false (p := (H ≠ [] ∧ 0 ≤ v.st ∧ v.st ≤ 7 ∧ 1 ≤ v.lf ∧ num v.lf ∧ num v.sq ∧ num v.ep ∧ v.p.length ≤ 255 ∧ v.o.length ≤ 255)) (fun h => h6 h.2.2.2.2.2.2.1)]; rfl), rfl⟩
    refine (number_yes _ _ h6).mono ?_
    rintro e w1 ⟨rfl, rfl⟩
    by_cases h7 : 255 < v.p.length
    case pos =>
      go_wp2_with (first | (refine wpList_load_part rfl 23 _ rfl w.heap.size 7 rfl _ HR.out _ und23 rfl s23 ?_) | fail)
      go_meet
      exact ⟨vb (by rw [decide_eq_false (p := (H ≠ [] ∧ 0 ≤ v.st ∧ v.st ≤ 7 ∧ 1 ≤ v.lf ∧ num v.lf ∧ num v.sq ∧ num v.ep ∧ v.p.length ≤ 255 ∧ v.o.length ≤ 255)) (fun h => by have := h.2.2.2.2.2.2.2.1; omega)]; simp <;> omega), rfl⟩
    by_cases h8 : 255 < v.o.length
    case pos =>
      go_wp2_with (first | (refine wpList_load_part rfl 23 _ rfl w.heap.size 7 rfl _ HR.out _ und23 rfl s23 ?_) | fail)
      go_meet
      exact ⟨vb (by rw [decide_eq_false (p := (H ≠ [] ∧ 0 ≤ v.st ∧ v.st ≤ 7 ∧ 1 ≤ v.lf ∧ num v.lf ∧ num v.sq ∧ num v.ep ∧ v.p.length ≤ 255 ∧ v.o.length ≤ 255)) (fun h => by have := h.2.2.2.2.2.2.2.2; omega)]; simp <;> omega), rfl⟩
    go_wp2_with (first | (refine wpList_load_part rfl 23 _ rfl w.heap.size 7 rfl _ HR.out _ und23 rfl s23 ?_) | fail)
    go_meet
    exact ⟨vb (by rw [decide_eq_true (p := (H ≠ [] ∧ 0 ≤ v.st ∧ v.st ≤ 7 ∧ 1 ≤ v.lf ∧ num v.lf ∧ num v.sq ∧ num v.ep ∧ v.p.length ≤ 255 ∧ v.o.length ≤ 255)) ⟨hE, by omega, by omega, by omega, h4, h5, h6, by omega, by omega⟩]; simp <;> omega), rfl⟩
  case rest =>
    obtain ⟨rfl, rfl⟩ := hcut
    by_cases hL : (H ≠ [] ∧ 0 ≤ v.st ∧ v.st ≤ 7 ∧ 1 ≤ v.lf ∧ num v.lf ∧ num v.sq ∧ num v.ep ∧ v.p.length ≤ 255 ∧ v.o.length ≤ 255)
    case neg =>
      obtain rfl : o = false := by rw [← HO.out]; exact not_low (fun h => hL (by have h := h; simp only [Vb.low] at h; rw [EH.out] at h; exact h))
      rw [decide_eq_false hL]
      clear hL
      go_wp2_with fail
      go_ret
      exact ⟨rfl, AB.out⟩
    have HL : Hid v.low := by simp only [Hid, Vb.low]; rw [EH.out]; exact hL
    have hE : H ≠ [] := hL.1
    rw [decide_eq_true hL]
    clear hL
    go_upto_region 4 with fail
    go_cut [78] from 55 to 78 (fun b wx => b = .bool (!decide (num v.nd ∧ num v.gn ∧ num v.a ∧ num v.sz)) ∧ wx = w.alloc (Obj.cells (vc v A n c).toArray 26))
    case first =>
      go_wp2_with fail
      by_cases g1 : num v.nd
      case neg =>
        refine (number_no _ _ g1).mono ?_
        rintro e w1 ⟨rfl, rfl⟩
        go_wp2_with (first | (refine wpList_load_part rfl 23 _ rfl w.heap.size 7 rfl _ HR.out _ und23 rfl s23 ?_) | fail)
        all_goals go_meet
        all_goals exact ⟨vb (by rw [decide_eq_false (p := (num v.nd ∧ num v.gn ∧ num v.a ∧ num v.sz)) (fun h => g1 h.1)]; rfl), rfl⟩
      refine (number_yes _ _ g1).mono ?_
      rintro e w1 ⟨rfl, rfl⟩
      go_wp2_with fail
      by_cases g2 : num v.gn
      case neg =>
        refine (number_no _ _ g2).mono ?_
        rintro e w1 ⟨rfl, rfl⟩
        go_wp2_with (first | (refine wpList_load_part rfl 23 _ rfl w.heap.size 7 rfl _ HR.out _ und23 rfl s23 ?_) | fail)
        all_goals go_meet
        all_goals exact ⟨vb (by rw [decide_eq_false (p := (num v.nd ∧ num v.gn ∧ num v.a ∧ num v.sz)) (fun h => g2 h.2.1)]; rfl), rfl⟩
      refine (number_yes _ _ g2).mono ?_
      rintro e w1 ⟨rfl, rfl⟩
      go_wp2_with fail
      by_cases g3 : num v.a
      case neg =>
        refine (number_no _ _ g3).mono ?_
        rintro e w1 ⟨rfl, rfl⟩
        go_wp2_with (first | (refine wpList_load_part rfl 23 _ rfl w.heap.size 7 rfl _ HR.out _ und23 rfl s23 ?_) | fail)
        all_goals go_meet
        all_goals exact ⟨vb (by rw [decide_eq_false (p := (num v.nd ∧ num v.gn ∧ num v.a ∧ num v.sz)) (fun h => g3 h.2.2.1)]; rfl), rfl⟩
      refine (number_yes _ _ g3).mono ?_
      rintro e w1 ⟨rfl, rfl⟩
      go_wp2_with fail
      by_cases g4 : num v.sz
      case neg =>
        refine (number_no _ _ g4).mono ?_
        rintro e w1 ⟨rfl, rfl⟩
        go_wp2_with (first | (refine wpList_load_part rfl 23 _ rfl w.heap.size 7 rfl _ HR.out _ und23 rfl s23 ?_) | fail)
        all_goals go_meet
        all_goals exact ⟨vb (by rw [decide_eq_false (p := (num v.nd ∧ num v.gn ∧ num v.a ∧ num v.sz)) (fun h => g4 h.2.2.2)]; rfl), rfl⟩
      refine (number_yes _ _ g4).mono ?_
      rintro e w1 ⟨rfl, rfl⟩
      go_wp2_with (first | (refine wpList_load_part rfl 23 _ rfl w.heap.size 7 rfl _ HR.out _ und23 rfl s23 ?_) | fail)
      all_goals go_meet
      all_goals exact ⟨vb (by rw [decide_eq_true (p := (num v.nd ∧ num v.gn ∧ num v.a ∧ num v.sz)) ⟨g1, g2, g3, g4⟩]; rfl), rfl⟩
    case rest =>
      obtain ⟨rfl, rfl⟩ := hcut
      by_cases hM : v.mid
      case neg =>
        obtain rfl : o = false := by rw [← HO.out]; exact not_mid hM
        rw [show decide (num v.nd ∧ num v.gn ∧ num v.a ∧ num v.sz) = false from decide_eq_false hM]
        clear hM
        go_wp2_with fail
        go_ret
        exact ⟨rfl, AB.out⟩
      have HM := Lib.hid hM
      rw [show decide (num v.nd ∧ num v.gn ∧ num v.a ∧ num v.sz) = true from decide_eq_true hM]
      clear hM
      have hh : H.length ≤ 10 := by rw [← EH.out]; exact hs_short v.k
      go_upto_region 6 with fail
      go_cut [4] from 79 to 113 (fun b wx => b = .bool (decide ((112 ∈ H ∨ v.p = []) ∧ (111 ∈ H ∨ v.o = []) ∧ (104 ∈ H ∨ v.nd = 0 ∧ v.gn = 0) ∧ (97 ∈ H ∨ v.a = 0))) ∧ wx = w.alloc (Obj.cells (vc v A n c).toArray 26))
      case first =>
        go_wp2_with (first | (refine wpList_load_part rfl 23 _ rfl w.heap.size 7 rfl _ HR.out _ und23 rfl s23 ?_) | fail)
        by_cases ip : 112 ∈ H
        case pos =>
          refine (in_is H 112 _ true rfl (decide_eq_true ip) hh _).mono ?_
          rintro e w1 ⟨rfl, rfl⟩
          go_wp2_with (first | (refine wpList_load_part rfl 23 _ rfl w.heap.size 7 rfl _ HR.out _ und23 rfl s23 ?_) | fail)
          by_cases io : 111 ∈ H
          case pos =>
            refine (in_is H 111 _ true rfl (decide_eq_true io) hh _).mono ?_
            rintro e w1 ⟨rfl, rfl⟩
            go_wp2_with (first | (refine wpList_load_part rfl 23 _ rfl w.heap.size 7 rfl _ HR.out _ und23 rfl s23 ?_) | fail)
            by_cases ih : 104 ∈ H
            case pos =>
              refine (in_is H 104 _ true rfl (decide_eq_true ih) hh _).mono ?_
              rintro e w1 ⟨rfl, rfl⟩
              go_wp2_with (first | (refine wpList_load_part rfl 23 _ rfl w.heap.size 7 rfl _ HR.out _ und23 rfl s23 ?_) | fail)
              by_cases ia : 97 ∈ H
              case pos =>
                refine (in_is H 97 _ true rfl (decide_eq_true ia) hh _).mono ?_
                rintro e w1 ⟨rfl, rfl⟩
                go_wp2_with (first | (refine wpList_load_part rfl 23 _ rfl w.heap.size 7 rfl _ HR.out _ und23 rfl s23 ?_) | fail)
                all_goals go_meet
                all_goals exact ⟨vb (by symm; exact decide_eq_true ⟨.inl ip, .inl io, .inl ih, .inl ia⟩), rfl⟩
              refine (in_is H 97 _ false rfl (decide_eq_false ia) hh _).mono ?_
              rintro e w1 ⟨rfl, rfl⟩
              by_cases ya : v.a = 0
              case neg =>
                have qa := bf ya
                go_wp2_with (first | (refine wpList_load_part rfl 23 _ rfl w.heap.size 7 rfl _ HR.out _ und23 rfl s23 ?_) | fail)
                all_goals go_meet
                all_goals exact ⟨vb (by symm; exact decide_eq_false fun h => (h.2.2.2).elim ia ya), rfl⟩
              have qa := bt ya
              go_wp2_with (first | (refine wpList_load_part rfl 23 _ rfl w.heap.size 7 rfl _ HR.out _ und23 rfl s23 ?_) | fail)
              all_goals go_meet
              all_goals exact ⟨vb (by symm; exact decide_eq_true ⟨.inl ip, .inl io, .inl ih, .inr ya⟩), rfl⟩
            refine (in_is H 104 _ false rfl (decide_eq_false ih) hh _).mono ?_
            rintro e w1 ⟨rfl, rfl⟩
            by_cases yh : v.nd = 0 ∧ v.gn = 0
            case neg =>
              go_wp2_with (first | (refine wpList_load_part rfl 23 _ rfl w.heap.size 7 rfl _ HR.out _ und23 rfl s23 ?_) | fail)
              all_goals go_meet
              all_goals exact ⟨vb (by symm; exact decide_eq_false fun h => (h.2.2.1).elim ih yh), rfl⟩
            obtain ⟨y1, y2⟩ := yh
            go_wp2_with (first | (refine wpList_load_part rfl 23 _ rfl w.heap.size 7 rfl _ HR.out _ und23 rfl s23 ?_) | fail)
            by_cases ia : 97 ∈ H
            case pos =>
              refine (in_is H 97 _ true rfl (decide_eq_true ia) hh _).mono ?_
              rintro e w1 ⟨rfl, rfl⟩
              go_wp2_with (first | (refine wpList_load_part rfl 23 _ rfl w.heap.size 7 rfl _ HR.out _ und23 rfl s23 ?_) | fail)
              all_goals go_meet
              all_goals exact ⟨vb (by symm; exact decide_eq_true ⟨.inl ip, .inl io, .inr ⟨y1, y2⟩, .inl ia⟩), rfl⟩
            refine (in_is H 97 _ false rfl (decide_eq_false ia) hh _).mono ?_
            rintro e w1 ⟨rfl, rfl⟩
            by_cases ya : v.a = 0
            case neg =>
              have qa := bf ya
              go_wp2_with (first | (refine wpList_load_part rfl 23 _ rfl w.heap.size 7 rfl _ HR.out _ und23 rfl s23 ?_) | fail)
              all_goals go_meet
              all_goals exact ⟨vb (by symm; exact decide_eq_false fun h => (h.2.2.2).elim ia ya), rfl⟩
            have qa := bt ya
            go_wp2_with (first | (refine wpList_load_part rfl 23 _ rfl w.heap.size 7 rfl _ HR.out _ und23 rfl s23 ?_) | fail)
            all_goals go_meet
            all_goals exact ⟨vb (by symm; exact decide_eq_true ⟨.inl ip, .inl io, .inr ⟨y1, y2⟩, .inr ya⟩), rfl⟩
          refine (in_is H 111 _ false rfl (decide_eq_false io) hh _).mono ?_
          rintro e w1 ⟨rfl, rfl⟩
          by_cases yo : v.o = []
          case neg =>
            have qo := str_nil_f yo
            go_wp2_with (first | (refine wpList_load_part rfl 23 _ rfl w.heap.size 7 rfl _ HR.out _ und23 rfl s23 ?_) | fail)
            all_goals go_meet
            all_goals exact ⟨vb (by symm; exact decide_eq_false fun h => (h.2.1).elim io yo), rfl⟩
          have qo := str_nil_t yo
          go_wp2_with (first | (refine wpList_load_part rfl 23 _ rfl w.heap.size 7 rfl _ HR.out _ und23 rfl s23 ?_) | fail)
          by_cases ih : 104 ∈ H
          case pos =>
            refine (in_is H 104 _ true rfl (decide_eq_true ih) hh _).mono ?_
            rintro e w1 ⟨rfl, rfl⟩
            go_wp2_with (first | (refine wpList_load_part rfl 23 _ rfl w.heap.size 7 rfl _ HR.out _ und23 rfl s23 ?_) | fail)
            by_cases ia : 97 ∈ H
            case pos =>
              refine (in_is H 97 _ true rfl (decide_eq_true ia) hh _).mono ?_
              rintro e w1 ⟨rfl, rfl⟩
              go_wp2_with (first | (refine wpList_load_part rfl 23 _ rfl w.heap.size 7 rfl _ HR.out _ und23 rfl s23 ?_) | fail)
              all_goals go_meet
              all_goals exact ⟨vb (by symm; exact decide_eq_true ⟨.inl ip, .inr yo, .inl ih, .inl ia⟩), rfl⟩
            refine (in_is H 97 _ false rfl (decide_eq_false ia) hh _).mono ?_
            rintro e w1 ⟨rfl, rfl⟩
            by_cases ya : v.a = 0
            case neg =>
              have qa := bf ya
              go_wp2_with (first | (refine wpList_load_part rfl 23 _ rfl w.heap.size 7 rfl _ HR.out _ und23 rfl s23 ?_) | fail)
              all_goals go_meet
              all_goals exact ⟨vb (by symm; exact decide_eq_false fun h => (h.2.2.2).elim ia ya), rfl⟩
            have qa := bt ya
            go_wp2_with (first | (refine wpList_load_part rfl 23 _ rfl w.heap.size 7 rfl _ HR.out _ und23 rfl s23 ?_) | fail)
            all_goals go_meet
            all_goals exact ⟨vb (by symm; exact decide_eq_true ⟨.inl ip, .inr yo, .inl ih, .inr ya⟩), rfl⟩
          refine (in_is H 104 _ false rfl (decide_eq_false ih) hh _).mono ?_
          rintro e w1 ⟨rfl, rfl⟩
          by_cases yh : v.nd = 0 ∧ v.gn = 0
          case neg =>
            go_wp2_with (first | (refine wpList_load_part rfl 23 _ rfl w.heap.size 7 rfl _ HR.out _ und23 rfl s23 ?_) | fail)
            all_goals go_meet
            all_goals exact ⟨vb (by symm; exact decide_eq_false fun h => (h.2.2.1).elim ih yh), rfl⟩
          obtain ⟨y1, y2⟩ := yh
          go_wp2_with (first | (refine wpList_load_part rfl 23 _ rfl w.heap.size 7 rfl _ HR.out _ und23 rfl s23 ?_) | fail)
          by_cases ia : 97 ∈ H
          case pos =>
            refine (in_is H 97 _ true rfl (decide_eq_true ia) hh _).mono ?_
            rintro e w1 ⟨rfl, rfl⟩
            go_wp2_with (first | (refine wpList_load_part rfl 23 _ rfl w.heap.size 7 rfl _ HR.out _ und23 rfl s23 ?_) | fail)
            all_goals go_meet
            all_goals exact ⟨vb (by symm; exact decide_eq_true ⟨.inl ip, .inr yo, .inr ⟨y1, y2⟩, .inl ia⟩), rfl⟩
          refine (in_is H 97 _ false rfl (decide_eq_false ia) hh _).mono ?_
          rintro e w1 ⟨rfl, rfl⟩
          by_cases ya : v.a = 0
          case neg =>
            have qa := bf ya
            go_wp2_with (first | (refine wpList_load_part rfl 23 _ rfl w.heap.size 7 rfl _ HR.out _ und23 rfl s23 ?_) | fail)
            all_goals go_meet
            all_goals exact ⟨vb (by symm; exact decide_eq_false fun h => (h.2.2.2).elim ia ya), rfl⟩
          have qa := bt ya
          go_wp2_with (first | (refine wpList_load_part rfl 23 _ rfl w.heap.size 7 rfl _ HR.out _ und23 rfl s23 ?_) | fail)
          all_goals go_meet
          all_goals exact ⟨vb (by symm; exact decide_eq_true ⟨.inl ip, .inr yo, .inr ⟨y1, y2⟩, .inr ya⟩), rfl⟩
        refine (in_is H 112 _ false rfl (decide_eq_false ip) hh _).mono ?_
        rintro e w1 ⟨rfl, rfl⟩
        by_cases yp : v.p = []
        case neg =>
          have qp := str_nil_f yp
          go_wp2_with (first | (refine wpList_load_part rfl 23 _ rfl w.heap.size 7 rfl _ HR.out _ und23 rfl s23 ?_) | fail)
          all_goals go_meet
          all_goals exact ⟨vb (by symm; exact decide_eq_false fun h => (h.1).elim ip yp), rfl⟩
        have qp := str_nil_t yp
        go_wp2_with (first | (refine wpList_load_part rfl 23 _ rfl w.heap.size 7 rfl _ HR.out _ und23 rfl s23 ?_) | fail)
        by_cases io : 111 ∈ H
        case pos =>
          refine (in_is H 111 _ true rfl (decide_eq_true io) hh _).mono ?_
          rintro e w1 ⟨rfl, rfl⟩
          go_wp2_with (first | (refine wpList_load_part rfl 23 _ rfl w.heap.size 7 rfl _ HR.out _ und23 rfl s23 ?_) | fail)
          by_cases ih : 104 ∈ H
          case pos =>
            refine (in_is H 104 _ true rfl (decide_eq_true ih) hh _).mono ?_
            rintro e w1 ⟨rfl, rfl⟩
            go_wp2_with (first | (refine wpList_load_part rfl 23 _ rfl w.heap.size 7 rfl _ HR.out _ und23 rfl s23 ?_) | fail)
            by_cases ia : 97 ∈ H
            case pos =>
              refine (in_is H 97 _ true rfl (decide_eq_true ia) hh _).mono ?_
              rintro e w1 ⟨rfl, rfl⟩
              go_wp2_with (first | (refine wpList_load_part rfl 23 _ rfl w.heap.size 7 rfl _ HR.out _ und23 rfl s23 ?_) | fail)
              all_goals go_meet
              all_goals exact ⟨vb (by symm; exact decide_eq_true ⟨.inr yp, .inl io, .inl ih, .inl ia⟩), rfl⟩
            refine (in_is H 97 _ false rfl (decide_eq_false ia) hh _).mono ?_
            rintro e w1 ⟨rfl, rfl⟩
            by_cases ya : v.a = 0
            case neg =>
              have qa := bf ya
              go_wp2_with (first | (refine wpList_load_part rfl 23 _ rfl w.heap.size 7 rfl _ HR.out _ und23 rfl s23 ?_) | fail)
              all_goals go_meet
              all_goals exact ⟨vb (by symm; exact decide_eq_false fun h => (h.2.2.2).elim ia ya), rfl⟩
            have qa := bt ya
            go_wp2_with (first | (refine wpList_load_part rfl 23 _ rfl w.heap.size 7 rfl _ HR.out _ und23 rfl s23 ?_) | fail)
            all_goals go_meet
            all_goals exact ⟨vb (by symm; exact decide_eq_true ⟨.inr yp, .inl io, .inl ih, .inr ya⟩), rfl⟩
          refine (in_is H 104 _ false rfl (decide_eq_false ih) hh _).mono ?_
          rintro e w1 ⟨rfl, rfl⟩
          by_cases yh : v.nd = 0 ∧ v.gn = 0
          case neg =>
            go_wp2_with (first | (refine wpList_load_part rfl 23 _ rfl w.heap.size 7 rfl _ HR.out _ und23 rfl s23 ?_) | fail)
            all_goals go_meet
            all_goals exact ⟨vb (by symm; exact decide_eq_false fun h => (h.2.2.1).elim ih yh), rfl⟩
          obtain ⟨y1, y2⟩ := yh
          go_wp2_with (first | (refine wpList_load_part rfl 23 _ rfl w.heap.size 7 rfl _ HR.out _ und23 rfl s23 ?_) | fail)
          by_cases ia : 97 ∈ H
          case pos =>
            refine (in_is H 97 _ true rfl (decide_eq_true ia) hh _).mono ?_
            rintro e w1 ⟨rfl, rfl⟩
            go_wp2_with (first | (refine wpList_load_part rfl 23 _ rfl w.heap.size 7 rfl _ HR.out _ und23 rfl s23 ?_) | fail)
            all_goals go_meet
            all_goals exact ⟨vb (by symm; exact decide_eq_true ⟨.inr yp, .inl io, .inr ⟨y1, y2⟩, .inl ia⟩), rfl⟩
          refine (in_is H 97 _ false rfl (decide_eq_false ia) hh _).mono ?_
          rintro e w1 ⟨rfl, rfl⟩
          by_cases ya : v.a = 0
          case neg =>
            have qa := bf ya
            go_wp2_with (first | (refine wpList_load_part rfl 23 _ rfl w.heap.size 7 rfl _ HR.out _ und23 rfl s23 ?_) | fail)
            all_goals go_meet
            all_goals exact ⟨vb (by symm; exact decide_eq_false fun h => (h.2.2.2).elim ia ya), rfl⟩
          have qa := bt ya
          go_wp2_with (first | (refine wpList_load_part rfl 23 _ rfl w.heap.size 7 rfl _ HR.out _ und23 rfl s23 ?_) | fail)
          all_goals go_meet
          all_goals exact ⟨vb (by symm; exact decide_eq_true ⟨.inr yp, .inl io, .inr ⟨y1, y2⟩, .inr ya⟩), rfl⟩
        refine (in_is H 111 _ false rfl (decide_eq_false io) hh _).mono ?_
        rintro e w1 ⟨rfl, rfl⟩
        by_cases yo : v.o = []
        case neg =>
          have qo := str_nil_f yo
          go_wp2_with (first | (refine wpList_load_part rfl 23 _ rfl w.heap.size 7 rfl _ HR.out _ und23 rfl s23 ?_) | fail)
          all_goals go_meet
          all_goals exact ⟨vb (by symm; exact decide_eq_false fun h => (h.2.1).elim io yo), rfl⟩
        have qo := str_nil_t yo
        go_wp2_with (first | (refine wpList_load_part rfl 23 _ rfl w.heap.size 7 rfl _ HR.out _ und23 rfl s23 ?_) | fail)
        by_cases ih : 104 ∈ H
        case pos =>
          refine (in_is H 104 _ true rfl (decide_eq_true ih) hh _).mono ?_
          rintro e w1 ⟨rfl, rfl⟩
          go_wp2_with (first | (refine wpList_load_part rfl 23 _ rfl w.heap.size 7 rfl _ HR.out _ und23 rfl s23 ?_) | fail)
          by_cases ia : 97 ∈ H
          case pos =>
            refine (in_is H 97 _ true rfl (decide_eq_true ia) hh _).mono ?_
            rintro e w1 ⟨rfl, rfl⟩
            go_wp2_with (first | (refine wpList_load_part rfl 23 _ rfl w.heap.size 7 rfl _ HR.out _ und23 rfl s23 ?_) | fail)
            all_goals go_meet
            all_goals exact ⟨vb (by symm; exact decide_eq_true ⟨.inr yp, .inr yo, .inl ih, .inl ia⟩), rfl⟩
          refine (in_is H 97 _ false rfl (decide_eq_false ia) hh _).mono ?_
          rintro e w1 ⟨rfl, rfl⟩
          by_cases ya : v.a = 0
          case neg =>
            have qa := bf ya
            go_wp2_with (first | (refine wpList_load_part rfl 23 _ rfl w.heap.size 7 rfl _ HR.out _ und23 rfl s23 ?_) | fail)
            all_goals go_meet
            all_goals exact ⟨vb (by symm; exact decide_eq_false fun h => (h.2.2.2).elim ia ya), rfl⟩
          have qa := bt ya
          go_wp2_with (first | (refine wpList_load_part rfl 23 _ rfl w.heap.size 7 rfl _ HR.out _ und23 rfl s23 ?_) | fail)
          all_goals go_meet
          all_goals exact ⟨vb (by symm; exact decide_eq_true ⟨.inr yp, .inr yo, .inl ih, .inr ya⟩), rfl⟩
        refine (in_is H 104 _ false rfl (decide_eq_false ih) hh _).mono ?_
        rintro e w1 ⟨rfl, rfl⟩
        by_cases yh : v.nd = 0 ∧ v.gn = 0
        case neg =>
          go_wp2_with (first | (refine wpList_load_part rfl 23 _ rfl w.heap.size 7 rfl _ HR.out _ und23 rfl s23 ?_) | fail)
          all_goals go_meet
          all_goals exact ⟨vb (by symm; exact decide_eq_false fun h => (h.2.2.1).elim ih yh), rfl⟩
        obtain ⟨y1, y2⟩ := yh
        go_wp2_with (first | (refine wpList_load_part rfl 23 _ rfl w.heap.size 7 rfl _ HR.out _ und23 rfl s23 ?_) | fail)
        by_cases ia : 97 ∈ H
        case pos =>
          refine (in_is H 97 _ true rfl (decide_eq_true ia) hh _).mono ?_
          rintro e w1 ⟨rfl, rfl⟩
          go_wp2_with (first | (refine wpList_load_part rfl 23 _ rfl w.heap.size 7 rfl _ HR.out _ und23 rfl s23 ?_) | fail)
          all_goals go_meet
          all_goals exact ⟨vb (by symm; exact decide_eq_true ⟨.inr yp, .inr yo, .inr ⟨y1, y2⟩, .inl ia⟩), rfl⟩
        refine (in_is H 97 _ false rfl (decide_eq_false ia) hh _).mono ?_
        rintro e w1 ⟨rfl, rfl⟩
        by_cases ya : v.a = 0
        case neg =>
          have qa := bf ya
          go_wp2_with (first | (refine wpList_load_part rfl 23 _ rfl w.heap.size 7 rfl _ HR.out _ und23 rfl s23 ?_) | fail)
          all_goals go_meet
          all_goals exact ⟨vb (by symm; exact decide_eq_false fun h => (h.2.2.2).elim ia ya), rfl⟩
        have qa := bt ya
        go_wp2_with (first | (refine wpList_load_part rfl 23 _ rfl w.heap.size 7 rfl _ HR.out _ und23 rfl s23 ?_) | fail)
        all_goals go_meet
        all_goals exact ⟨vb (by symm; exact decide_eq_true ⟨.inr yp, .inr yo, .inr ⟨y1, y2⟩, .inr ya⟩), rfl⟩
      case rest =>
        obtain ⟨rfl, rfl⟩ := hcut
        go_upto_region 7 with fail
        go_cut [4] from 114 to 142 (fun b wx => b = .bool (decide ((112 ∈ H ∨ v.p = []) ∧ (111 ∈ H ∨ v.o = []) ∧ (104 ∈ H ∨ v.nd = 0 ∧ v.gn = 0) ∧ (97 ∈ H ∨ v.a = 0)) && decide ((115 ∈ H ∨ v.sz = 0) ∧ (109 ∈ H ∨ v.md = 0) ∧ (100 ∈ H ∨ n = 0))) ∧ wx = w.alloc (Obj.cells (vc v A n c).toArray 26))
        case first =>
          by_cases h6 : ((112 ∈ H ∨ v.p = []) ∧ (111 ∈ H ∨ v.o = []) ∧ (104 ∈ H ∨ v.nd = 0 ∧ v.gn = 0) ∧ (97 ∈ H ∨ v.a = 0))
          case neg =>
            have H6 := Lib.hid h6
            rw [decide_eq_false h6]
            clear h6
            go_wp2_with (first | (refine wpList_load_part rfl 23 _ rfl w.heap.size 7 rfl _ HR.out _ und23 rfl s23 ?_) | fail)
            go_meet
            exact ⟨vb (by rw [decide_eq_false H6.out]; rfl), rfl⟩
          have H6 := Lib.hid h6
          rw [decide_eq_true h6]
          clear h6
          go_wp2_with (first | (refine wpList_load_part rfl 23 _ rfl w.heap.size 7 rfl _ HR.out _ und23 rfl s23 ?_) | fail)
          by_cases is : 115 ∈ H
          case pos =>
            refine (in_is H 115 _ true rfl (decide_eq_true is) hh _).mono ?_
            rintro e w1 ⟨rfl, rfl⟩
            go_wp2_with (first | (refine wpList_load_part rfl 23 _ rfl w.heap.size 7 rfl _ HR.out _ und23 rfl s23 ?_) | fail)
            by_cases im : 109 ∈ H
            case pos =>
              refine (in_is H 109 _ true rfl (decide_eq_true im) hh _).mono ?_
              rintro e w1 ⟨rfl, rfl⟩
              go_wp2_with (first | (refine wpList_load_part rfl 23 _ rfl w.heap.size 7 rfl _ HR.out _ und23 rfl s23 ?_) | fail)
              by_cases id : 100 ∈ H
              case pos =>
                refine (in_is H 100 _ true rfl (decide_eq_true id) hh _).mono ?_
                rintro e w1 ⟨rfl, rfl⟩
                go_wp2_with (first | (refine wpList_load_part rfl 23 _ rfl w.heap.size 7 rfl _ HR.out _ und23 rfl s23 ?_) | fail)
                all_goals go_meet
                all_goals exact ⟨vb (by symm; rw [decide_eq_true H6.out, Bool.true_and]; exact decide_eq_true ⟨.inl is, .inl im, .inl id⟩), rfl⟩
              refine (in_is H 100 _ false rfl (decide_eq_false id) hh _).mono ?_
              rintro e w1 ⟨rfl, rfl⟩
              by_cases yd : n = 0
              case neg =>
                have qd : ((n : Int) == 0) = false := bf (by omega)
                go_wp2_with (first | (refine wpList_load_part rfl 23 _ rfl w.heap.size 7 rfl _ HR.out _ und23 rfl s23 ?_) | fail)
                all_goals go_meet
                all_goals exact ⟨vb (by symm; rw [decide_eq_true H6.out, Bool.true_and]; exact decide_eq_false fun h => (h.2.2).elim id yd), rfl⟩
              subst yd
              go_wp2_with (first | (refine wpList_load_part rfl 23 _ rfl w.heap.size 7 rfl _ HR.out _ und23 rfl s23 ?_) | fail)
              all_goals go_meet
              all_goals exact ⟨vb (by symm; rw [decide_eq_true H6.out, Bool.true_and]; exact decide_eq_true ⟨.inl is, .inl im, .inr (by first | rfl | trivial)⟩), rfl⟩
            refine (in_is H 109 _ false rfl (decide_eq_false im) hh _).mono ?_
            rintro e w1 ⟨rfl, rfl⟩
            by_cases ym : v.md = 0
            case neg =>
              have qm := bf ym
              go_wp2_with (first | (refine wpList_load_part rfl 23 _ rfl w.heap.size 7 rfl _ HR.out _ und23 rfl s23 ?_) | fail)
              all_goals go_meet
              all_goals exact ⟨vb (by symm; rw [decide_eq_true H6.out, Bool.true_and]; exact decide_eq_false fun h => (h.2.1).elim im ym), rfl⟩
            have qm := bt ym
            go_wp2_with (first | (refine wpList_load_part rfl 23 _ rfl w.heap.size 7 rfl _ HR.out _ und23 rfl s23 ?_) | fail)
            by_cases id : 100 ∈ H
            case pos =>
              refine (in_is H 100 _ true rfl (decide_eq_true id) hh _).mono ?_
              rintro e w1 ⟨rfl, rfl⟩
              go_wp2_with (first | (refine wpList_load_part rfl 23 _ rfl w.heap.size 7 rfl _ HR.out _ und23 rfl s23 ?_) | fail)
              all_goals go_meet
              all_goals exact ⟨vb (by symm; rw [decide_eq_true H6.out, Bool.true_and]; exact decide_eq_true ⟨.inl is, .inr ym, .inl id⟩), rfl⟩
            refine (in_is H 100 _ false rfl (decide_eq_false id) hh _).mono ?_
            rintro e w1 ⟨rfl, rfl⟩
            by_cases yd : n = 0
            case neg =>
              have qd : ((n : Int) == 0) = false := bf (by omega)
              go_wp2_with (first | (refine wpList_load_part rfl 23 _ rfl w.heap.size 7 rfl _ HR.out _ und23 rfl s23 ?_) | fail)
              all_goals go_meet
              all_goals exact ⟨vb (by symm; rw [decide_eq_true H6.out, Bool.true_and]; exact decide_eq_false fun h => (h.2.2).elim id yd), rfl⟩
            subst yd
            go_wp2_with (first | (refine wpList_load_part rfl 23 _ rfl w.heap.size 7 rfl _ HR.out _ und23 rfl s23 ?_) | fail)
            all_goals go_meet
            all_goals exact ⟨vb (by symm; rw [decide_eq_true H6.out, Bool.true_and]; exact decide_eq_true ⟨.inl is, .inr ym, .inr (by first | rfl | trivial)⟩), rfl⟩
          refine (in_is H 115 _ false rfl (decide_eq_false is) hh _).mono ?_
          rintro e w1 ⟨rfl, rfl⟩
          by_cases ys : v.sz = 0
          case neg =>
            have qs := bf ys
            go_wp2_with (first | (refine wpList_load_part rfl 23 _ rfl w.heap.size 7 rfl _ HR.out _ und23 rfl s23 ?_) | fail)
            all_goals go_meet
            all_goals exact ⟨vb (by symm; rw [decide_eq_true H6.out, Bool.true_and]; exact decide_eq_false fun h => (h.1).elim is ys), rfl⟩
          have qs := bt ys
          go_wp2_with (first | (refine wpList_load_part rfl 23 _ rfl w.heap.size 7 rfl _ HR.out _ und23 rfl s23 ?_) | fail)
          by_cases im : 109 ∈ H
          case pos =>
            refine (in_is H 109 _ true rfl (decide_eq_true im) hh _).mono ?_
            rintro e w1 ⟨rfl, rfl⟩
            go_wp2_with (first | (refine wpList_load_part rfl 23 _ rfl w.heap.size 7 rfl _ HR.out _ und23 rfl s23 ?_) | fail)
            by_cases id : 100 ∈ H
            case pos =>
              refine (in_is H 100 _ true rfl (decide_eq_true id) hh _).mono ?_
              rintro e w1 ⟨rfl, rfl⟩
              go_wp2_with (first | (refine wpList_load_part rfl 23 _ rfl w.heap.size 7 rfl _ HR.out _ und23 rfl s23 ?_) | fail)
              all_goals go_meet
              all_goals exact ⟨vb (by symm; rw [decide_eq_true H6.out, Bool.true_and]; exact decide_eq_true ⟨.inr ys, .inl im, .inl id⟩), rfl⟩
            refine (in_is H 100 _ false rfl (decide_eq_false id) hh _).mono ?_
            rintro e w1 ⟨rfl, rfl⟩
            by_cases yd : n = 0
            case neg =>
              have qd : ((n : Int) == 0) = false := bf (by omega)
              go_wp2_with (first | (refine wpList_load_part rfl 23 _ rfl w.heap.size 7 rfl _ HR.out _ und23 rfl s23 ?_) | fail)
              all_goals go_meet
              all_goals exact ⟨vb (by symm; rw [decide_eq_true H6.out, Bool.true_and]; exact decide_eq_false fun h => (h.2.2).elim id yd), rfl⟩
            subst yd
            go_wp2_with (first | (refine wpList_load_part rfl 23 _ rfl w.heap.size 7 rfl _ HR.out _ und23 rfl s23 ?_) | fail)
            all_goals go_meet
            all_goals exact ⟨vb (by symm; rw [decide_eq_true H6.out, Bool.true_and]; exact decide_eq_true ⟨.inr ys, .inl im, .inr (by first | rfl | trivial)⟩), rfl⟩
          refine (in_is H 109 _ false rfl (decide_eq_false im) hh _).mono ?_
          rintro e w1 ⟨rfl, rfl⟩
          by_cases ym : v.md = 0
          case neg =>
            have qm := bf ym
            go_wp2_with (first | (refine wpList_load_part rfl 23 _ rfl w.heap.size 7 rfl _ HR.out _ und23 rfl s23 ?_) | fail)
            all_goals go_meet
            all_goals exact ⟨vb (by symm; rw [decide_eq_true H6.out, Bool.true_and]; exact decide_eq_false fun h => (h.2.1).elim im ym), rfl⟩
          have qm := bt ym
          go_wp2_with (first | (refine wpList_load_part rfl 23 _ rfl w.heap.size 7 rfl _ HR.out _ und23 rfl s23 ?_) | fail)
          by_cases id : 100 ∈ H
          case pos =>
            refine (in_is H 100 _ true rfl (decide_eq_true id) hh _).mono ?_
            rintro e w1 ⟨rfl, rfl⟩
            go_wp2_with (first | (refine wpList_load_part rfl 23 _ rfl w.heap.size 7 rfl _ HR.out _ und23 rfl s23 ?_) | fail)
            all_goals go_meet
            all_goals exact ⟨vb (by symm; rw [decide_eq_true H6.out, Bool.true_and]; exact decide_eq_true ⟨.inr ys, .inr ym, .inl id⟩), rfl⟩
          refine (in_is H 100 _ false rfl (decide_eq_false id) hh _).mono ?_
          rintro e w1 ⟨rfl, rfl⟩
          by_cases yd : n = 0
          case neg =>
            have qd : ((n : Int) == 0) = false := bf (by omega)
            go_wp2_with (first | (refine wpList_load_part rfl 23 _ rfl w.heap.size 7 rfl _ HR.out _ und23 rfl s23 ?_) | fail)
            all_goals go_meet
            all_goals exact ⟨vb (by symm; rw [decide_eq_true H6.out, Bool.true_and]; exact decide_eq_false fun h => (h.2.2).elim id yd), rfl⟩
          subst yd
          go_wp2_with (first | (refine wpList_load_part rfl 23 _ rfl w.heap.size 7 rfl _ HR.out _ und23 rfl s23 ?_) | fail)
          all_goals go_meet
          all_goals exact ⟨vb (by symm; rw [decide_eq_true H6.out, Bool.true_and]; exact decide_eq_true ⟨.inr ys, .inr ym, .inr (by first | rfl | trivial)⟩), rfl⟩
        case rest =>
          obtain ⟨rfl, rfl⟩ := hcut
          have hown : (decide ((112 ∈ H ∨ v.p = []) ∧ (111 ∈ H ∨ v.o = []) ∧ (104 ∈ H ∨ v.nd = 0 ∧ v.gn = 0) ∧ (97 ∈ H ∨ v.a = 0)) && decide ((115 ∈ H ∨ v.sz = 0) ∧ (109 ∈ H ∨ v.md = 0) ∧ (100 ∈ H ∨ n = 0))) = decide v.own := by
            rw [← Bool.decide_and, decide_eq_decide]
            simp only [Vb.own]
            rw [EH.out, ← hn, List.length_eq_zero_iff]
            exact ⟨fun h => ⟨h.1.1, h.1.2.1, h.1.2.2.1, h.1.2.2.2, h.2.1, h.2.2.1, h.2.2.2⟩, fun h => ⟨⟨h.1, h.2.1, h.2.2.1, h.2.2.2.1⟩, h.2.2.2.2.1, h.2.2.2.2.2.1, h.2.2.2.2.2.2⟩⟩
          rw [hown]
          clear hown
          by_cases hW : v.own
          case neg =>
            obtain rfl : o = false := by rw [← HO.out]; exact not_own hW
            rw [decide_eq_false hW]
            clear hW
            by_cases k10 : v.k = 10
            case pos =>
              have kb := bt k10
              clear k10
              go_wp2_with fail
              go_ret
              exact ⟨rfl, AB.out⟩
            have kf10 := bf k10
            by_cases k11 : v.k = 11
            case pos =>
              have kb := bt k11
              clear k11
              go_wp2_with fail
              go_ret
              exact ⟨rfl, AB.out⟩
            have kf11 := bf k11
            by_cases k13 : v.k = 13
            case pos =>
              have kb := bt k13
              clear k13
              go_wp2_with fail
              go_ret
              exact ⟨rfl, AB.out⟩
            have kf13 := bf k13
            by_cases k15 : v.k = 15
            case pos =>
              have kb := bt k15
              clear k15
              go_wp2_with fail
              go_ret
              exact ⟨rfl, AB.out⟩
            have kf15 := bf k15
            clear k10 k11 k13 k15
            go_wp2_with fail
            go_ret
            exact ⟨rfl, AB.out⟩
          have HW := Lib.hid hW
          rw [decide_eq_true hW]
          clear hW
          by_cases k10 : v.k = 10
          case pos =>
            have kb := bt k10
            have K := Lib.hid k10
            clear k10
            by_cases z1 : 1 ≤ v.sz
            case neg =>
              obtain rfl : o = false := by rw [← HO.out]; exact not_kind (fun h => z1 (by have := h.1 K.out; omega))
              go_wp2_with fail
              go_ret
              exact ⟨rfl, AB.out⟩
            by_cases z2 : v.sz ≤ 256
            case neg =>
              obtain rfl : o = false := by rw [← HO.out]; exact not_kind (fun h => z2 (by have := h.1 K.out; omega))
              go_wp2_with fail
              go_ret
              exact ⟨rfl, AB.out⟩
            obtain rfl : o = true := by rw [← HO.out]; exact decide_eq_true ⟨HL.out, HM.out, HW.out, ⟨fun _ => ⟨z1, z2⟩, fun h => absurd h (by have := K.out; omega), fun h => absurd h (by have := K.out; omega)⟩⟩
            go_wp2_with fail
            go_ret
            exact ⟨rfl, AB.out⟩
          have kf10 := bf k10
          by_cases k11 : v.k = 11
          case pos =>
            have kb := bt k11
            have K := Lib.hid k11
            clear k11
            by_cases z1 : 1 ≤ n
            case neg =>
              obtain rfl : o = false := by rw [← HO.out]; exact not_kind (fun h => z1 (by have := h.2.1 K.out; omega))
              have z1n : ¬ 1 ≤ (n : Int) := by omega
              go_wp2_with fail
              go_ret
              exact ⟨rfl, AB.out⟩
            have z1n : 1 ≤ (n : Int) := by omega
            by_cases z2 : n ≤ 256
            case neg =>
              obtain rfl : o = false := by rw [← HO.out]; exact not_kind (fun h => z2 (by have := h.2.1 K.out; omega))
              have z2n : ¬ (n : Int) ≤ 256 := by omega
              go_wp2_with fail
              go_ret
              exact ⟨rfl, AB.out⟩
            have z2n : (n : Int) ≤ 256 := by omega
            obtain rfl : o = true := by rw [← HO.out]; exact decide_eq_true ⟨HL.out, HM.out, HW.out, ⟨fun h => absurd h (by have := K.out; omega), fun _ => ⟨by omega, by omega⟩, fun h => absurd h (by have := K.out; omega)⟩⟩
            go_wp2_with fail
            go_ret
            exact ⟨rfl, AB.out⟩
          have kf11 := bf k11
          by_cases k13 : v.k = 13
          case pos =>
            have kb := bt k13
            have K := Lib.hid k13
            clear k13
            by_cases m1 : v.md = 1
            case pos =>
              obtain rfl : o = true := by rw [← HO.out]; exact decide_eq_true ⟨HL.out, HM.out, HW.out, ⟨fun h => absurd h (by have := K.out; omega), fun h => absurd h (by have := K.out; omega), fun _ => .inl m1⟩⟩
              have mb := bt m1
              clear m1
              go_wp2_with fail
              go_ret
              exact ⟨rfl, AB.out⟩
            have mf1 := bf m1
            by_cases m2 : v.md = 2
            case pos =>
              obtain rfl : o = true := by rw [← HO.out]; exact decide_eq_true ⟨HL.out, HM.out, HW.out, ⟨fun h => absurd h (by have := K.out; omega), fun h => absurd h (by have := K.out; omega), fun _ => .inr m2⟩⟩
              have mb := bt m2
              clear m2
              go_wp2_with fail
              go_ret
              exact ⟨rfl, AB.out⟩
            have mf2 := bf m2
            obtain rfl : o = false := by rw [← HO.out]; exact not_kind (fun h => by have := h.2.2 (.inl K.out); omega)
            clear m1 m2
            go_wp2_with fail
            go_ret
            exact ⟨rfl, AB.out⟩
          have kf13 := bf k13
          by_cases k15 : v.k = 15
          case pos =>
            have kb := bt k15
            have K := Lib.hid k15
            clear k15
            by_cases m1 : v.md = 1
            case pos =>
              obtain rfl : o = true := by rw [← HO.out]; exact decide_eq_true ⟨HL.out, HM.out, HW.out, ⟨fun h => absurd h (by have := K.out; omega), fun h => absurd h (by have := K.out; omega), fun _ => .inl m1⟩⟩
              have mb := bt m1
              clear m1
              go_wp2_with fail
              go_ret
              exact ⟨rfl, AB.out⟩
            have mf1 := bf m1
            by_cases m2 : v.md = 2
            case pos =>
              obtain rfl : o = true := by rw [← HO.out]; exact decide_eq_true ⟨HL.out, HM.out, HW.out, ⟨fun h => absurd h (by have := K.out; omega), fun h => absurd h (by have := K.out; omega), fun _ => .inr m2⟩⟩
              have mb := bt m2
              clear m2
              go_wp2_with fail
              go_ret
              exact ⟨rfl, AB.out⟩
            have mf2 := bf m2
            obtain rfl : o = false := by rw [← HO.out]; exact not_kind (fun h => by have := h.2.2 (.inr K.out); omega)
            clear m1 m2
            go_wp2_with fail
            go_ret
            exact ⟨rfl, AB.out⟩
          have kf15 := bf k15
          obtain rfl : o = true := by rw [← HO.out]; exact decide_eq_true ⟨HL.out, HM.out, HW.out, ⟨fun h => absurd h k10, fun h => absurd h k11, fun h => by omega⟩⟩
          clear k10 k11 k13 k15
          go_wp2_with fail
          go_ret
          exact ⟨rfl, AB.out⟩
end Go.Proofs.Ytfignanjelebaaa
