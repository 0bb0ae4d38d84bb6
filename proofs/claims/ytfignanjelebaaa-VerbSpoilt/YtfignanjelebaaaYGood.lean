/- package verb: Good, goodReply, Changes. -/
import Derived.Test.YtfignanjelebaaaYFits
import Derived.Test.YtfignanjelebaaaYOfR
import Derived.Test.YtfignanjelebaaaVCtr
namespace Go.Proofs.Ytfignanjelebaaa
open Go.RowKit
set_option linter.unusedVariables false
theorem good_parts (v : Vb) : decide v.Good = ((((decide (wthn v.st 0 7) && decide (wthn v.lf 1 1073741824)) && decide (wthn v.sq 0 1073741824)) && decide (wthn v.ep 0 1073741824)) && decide v.fit) := by
  rw [Bool.eq_iff_iff]
  simp only [Bool.and_eq_true, decide_eq_true_eq]
  simp only [Vb.Good, Vb.fit, Vb.low, num, wthn]
  constructor
  · rintro ⟨⟨h0, h1, h2, h3, h4, h5, h6, h7, h8⟩, hm, ho, hk⟩
    exact ⟨⟨⟨⟨⟨h1, h2⟩, h3, h4.2⟩, h5⟩, h6⟩, h0, ⟨h7, h8⟩, hm, ho, hk⟩
  · rintro ⟨⟨⟨⟨⟨h1, h2⟩, h3, h4⟩, h5⟩, h6⟩, h0, ⟨h7, h8⟩, hm, ho, hk⟩
    exact ⟨⟨h0, h1, h2, h3, ⟨by omega, h4⟩, h5, h6, h7, h8⟩, hm, ho, hk⟩
set_option maxRecDepth 100000 in
set_option maxHeartbeats 4000000 in
theorem good_any (v : Vb) (A : Option Addr) (n c : Nat) (w : World) (hn : v.d.length = n) : Calls Try.prog 13 #[.agg (vc v A n c).toArray] w fun e w' => e = .returned (.bool (decide v.Good)) ∧ Below w.heap.size w w' := by
  rw [good_parts]
  obtain ⟨r, hr⟩ : ∃ r, ((((decide (wthn v.st 0 7) && decide (wthn v.lf 1 1073741824)) && decide (wthn v.sq 0 1073741824)) && decide (wthn v.ep 0 1073741824)) && decide v.fit) = r := ⟨_, rfl⟩
  rw [hr]
  have HR := Lib.hid hr
  clear hr
  obtain ⟨a0, ab, az⟩ := box1 w (Obj.cells (vc v A n c).toArray 26)
  have A0 := Lib.hid a0
  have AB := Lib.hid ab
  clear a0 ab az
  obtain ⟨c0, c1, c2, c3, c4, c5, c6, c7, c8, c9, c10, c11, c12⟩ := vc_cells A0.out
  go_enter Try.func13, Try.ntmps13
  go_wp2_with fail
  refine (within_any v.st 0 7 _).mono ?_
  rintro e w1 ⟨rfl, rfl⟩
  by_cases h1 : wthn v.st 0 7
  case neg =>
    obtain rfl : r = false := by rw [← HR.out, decide_eq_false h1]; rfl
    rw [decide_eq_false h1]
    go_wp2_with fail
    go_ret
    exact ⟨rfl, AB.out⟩
  rw [decide_eq_true h1]
  go_wp2_with fail
  refine (within_any v.lf 1 1073741824 _).mono ?_
  rintro e w1 ⟨rfl, rfl⟩
  by_cases h2 : wthn v.lf 1 1073741824
  case neg =>
    obtain rfl : r = false := by rw [← HR.out, decide_eq_false h2, Bool.and_false]; rfl
    rw [decide_eq_false h2]
    go_wp2_with fail
    go_ret
    exact ⟨rfl, AB.out⟩
  rw [decide_eq_true h2]
  go_wp2_with fail
  refine (within_any v.sq 0 1073741824 _).mono ?_
  rintro e w1 ⟨rfl, rfl⟩
  by_cases h3 : wthn v.sq 0 1073741824
  case neg =>
    obtain rfl : r = false := by rw [← HR.out, decide_eq_false h3, Bool.and_false]; rfl
    rw [decide_eq_false h3]
    go_wp2_with fail
    go_ret
    exact ⟨rfl, AB.out⟩
  rw [decide_eq_true h3]
  go_wp2_with fail
  refine (within_any v.ep 0 1073741824 _).mono ?_
  rintro e w1 ⟨rfl, rfl⟩
  by_cases h4 : wthn v.ep 0 1073741824
  case neg =>
    obtain rfl : r = false := by rw [← HR.out, decide_eq_false h4, Bool.and_false]; rfl
    rw [decide_eq_false h4]
    go_wp2_with fail
    go_ret
    exact ⟨rfl, AB.out⟩
  rw [decide_eq_true h4]
  have hr := HR.out
  rw [decide_eq_true h1, decide_eq_true h2, decide_eq_true h3, decide_eq_true h4, Bool.true_and, Bool.true_and, Bool.true_and, Bool.true_and] at hr
  clear h1 h2 h3 h4
  go_wp2_with (first | (refine wpList_load_row rfl 26 _ rfl w.heap.size rfl _ _ _ A0.out _ Try.underlying26 rfl s26 ?_) | fail)
  refine (fits_any v A n c hn _).mono ?_
  rintro e w2 ⟨rfl, hb⟩
  have HB := Lib.hid (AB.out.trans (hb.mono AB.out.size))
  clear hb A0 AB c0 c1 c2 c3 c4 c5 c6 c7 c8 c9 c10 c11 c12
  rw [hr]
  clear hr
  go_wp2_with fail
  go_ret
  exact ⟨rfl, HB.out⟩
theorem goodR_parts (r : Rp) (n m : Nat) (hn : r.d.length = n) (hm : r.ns.length = m) : decide r.Good = ((((decide (∀ x ∈ r.xs, num x) && decide (wthn r.e 0 23)) && decide (n ≤ 256)) && decide (m ≤ 512)) && decide (∀ s ∈ r.ns, s.length ≤ 24)) := by
  subst hn hm
  rw [Bool.eq_iff_iff]
  simp only [Bool.and_eq_true, decide_eq_true_eq]
  simp only [Rp.Good, Rp.low, Rp.few, Rp.stat, Rp.xs, Rp.st, wthn, List.cons_append, List.nil_append, List.forall_mem_cons]
  constructor
  · rintro ⟨⟨h0, h1, h2, h3, h4, h5, h6⟩, hf, h7, h8, h9, h10, h11, h12⟩
    exact ⟨⟨⟨⟨⟨h4, h5, h6, ⟨h0, by omega⟩, h7, h8, h9, h10, h11, h12, fun x hx => by cases hx⟩, h0, h1⟩, h2⟩, h3⟩, hf⟩
  · rintro ⟨⟨⟨⟨⟨h4, h5, h6, _, h7, h8, h9, h10, h11, h12, _⟩, h0, h1⟩, h2⟩, h3⟩, hf⟩
    exact ⟨⟨h0, h1, h2, h3, h4, h5, h6⟩, hf, h7, h8, h9, h10, h11, h12⟩
set_option maxRecDepth 100000 in
set_option maxHeartbeats 4000000 in
theorem goodR_any (r : Rp) (A X : Option Addr) (n c m d B : Nat) (w : World) (hn : r.d.length = n) (hS : Strs w B X m d r.ns) (hB : B ≤ w.heap.size) : Calls Try.prog 53 #[.agg (rc r A n c X m d).toArray] w fun e w' => e = .returned (.bool (decide r.Good)) ∧ Below w.heap.size w w' := by
  rw [goodR_parts r n m hn hS.len]
  obtain ⟨q, hq⟩ : ∃ q, ((((decide (∀ x ∈ r.xs, num x) && decide (wthn r.e 0 23)) && decide (n ≤ 256)) && decide (m ≤ 512)) && decide (∀ s ∈ r.ns, s.length ≤ 24)) = q := ⟨_, rfl⟩
  rw [hq]
  have HR := Lib.hid hq
  have HS := Lib.hid hS
  clear hq hS hn
  obtain ⟨a0, ab, az⟩ := box1 w (Obj.cells (rc r A n c X m d).toArray 44)
  have A0 := Lib.hid a0
  have AB := Lib.hid ab
  clear a0 ab az
  go_enter Try.func53, Try.ntmps53
  go_wp2_with fail
  generalize w.alloc (Obj.cells (rc r A n c X m d).toArray 44) = W at *
  refine (ofReply_any w.heap.size W).mono ?_
  rintro e w1 ⟨A1, n1, c1, rfl, hp, hf, hb⟩
  have HP := Lib.hid hp
  have HB := Lib.hid (AB.out.trans (hb.mono AB.out.size))
  have A1' := Lib.hid ((hb.block w.heap.size (lt_of_heap A0.out)).trans A0.out)
  have HS1 := Lib.hid (HS.out.below (HB.out.mono hB))
  clear hp hf hb A0 AB HS
  go_wp2_with fail
  refine (inB_of (xs := r.xs) A1'.out rfl HP.out (by decide)).mono ?_
  rintro e w2 ⟨rfl, rfl⟩
  clear HP
  by_cases h1 : ∀ x ∈ r.xs, num x
  case neg =>
    obtain rfl : q = false := by rw [← HR.out, decide_eq_false h1]; rfl
    rw [decide_eq_false h1]
    clear h1
    go_wp2_with fail
    go_ret
    exact ⟨rfl, HB.out⟩
  have H1 := Lib.hid h1
  rw [decide_eq_true h1]
  clear h1
  obtain ⟨c0, c1', c2, c3, c4, c5, c6, c7, c8, c9, c10, c11⟩ := rc_cells A1'.out
  clear c0 c1' c2 c4 c5 c6 c7 c8 c9
  go_wp2_with fail
  refine (within_any r.e 0 23 _).mono ?_
  rintro e w1 ⟨rfl, rfl⟩
  by_cases h2 : wthn r.e 0 23
  case neg =>
    obtain rfl : q = false := by rw [← HR.out, decide_eq_false h2, Bool.and_false]; rfl
    rw [decide_eq_false h2]
    go_wp2_with fail
    go_ret
    exact ⟨rfl, HB.out⟩
  have H2 := Lib.hid h2
  rw [decide_eq_true h2]
  clear h2
  by_cases h3 : n ≤ 256
  case neg =>
    obtain rfl : q = false := by rw [← HR.out, decide_eq_false h3, Bool.and_false]; rfl
    have h3' : ¬ (n : Int) ≤ 256 := by omega
    go_wp2_with fail
    go_ret
    exact ⟨rfl, HB.out⟩
  have h3' : (n : Int) ≤ 256 := by omega
  by_cases h4 : m ≤ 512
  case neg =>
    obtain rfl : q = false := by rw [← HR.out, decide_eq_false h4, Bool.and_false]; rfl
    have h4' : ¬ (m : Int) ≤ 512 := by omega
    go_wp2_with fail
    go_ret
    exact ⟨rfl, HB.out⟩
  have h4' : (m : Int) ≤ 512 := by omega
  have hr := HR.out
  rw [decide_eq_true H1.out, decide_eq_true H2.out, decide_eq_true h3, decide_eq_true h4, Bool.true_and, Bool.true_and, Bool.true_and, Bool.true_and] at hr
  go_wp2_with fail
  refine (contains_any r.ns X m d B _ HS1.out (by omega)).mono ?_
  rintro e w1 ⟨rfl, rfl⟩
  rw [hr]
  clear hr
  go_wp2_with fail
  go_ret
  exact ⟨rfl, HB.out⟩
set_option maxRecDepth 100000 in
set_option maxHeartbeats 4000000 in
theorem changes_any (k : Int) (w : World) : Calls Try.prog 15 #[.int .i64 k] w fun e w' => e = .returned (.bool (decide (chg k))) ∧ Below w.heap.size w w' := by
  by_cases h : chg k
  · rw [decide_eq_true h]
    rcases h with rfl | rfl | rfl | rfl | rfl | rfl | rfl | rfl
    all_goals
      go_enter Try.func15, Try.ntmps15
      go_wp2_with fail
      go_ret
      exact ⟨rfl, Below.refl _ _⟩
  · rw [decide_eq_false h]
    simp only [chg, not_or] at h
    obtain ⟨k3, k4, k5, k6, k7, k8, k11, k12⟩ := h
    have b3 := ib_f k3
    have b4 := ib_f k4
    have b5 := ib_f k5
    have b6 := ib_f k6
    have b7 := ib_f k7
    have b8 := ib_f k8
    have b11 := ib_f k11
    have b12 := ib_f k12
    clear k3 k4 k5 k6 k7 k8 k11 k12
    go_enter Try.func15, Try.ntmps15
    go_wp2_with fail
    go_ret
    exact ⟨rfl, Below.refl _ _⟩
end Go.Proofs.Ytfignanjelebaaa
