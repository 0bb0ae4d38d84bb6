/- node.Sound, walked. -/
import Derived.Test.YtijphembfohfnaaSmall
import Derived.Test.YtijphembfohfnaaEq
namespace Go.Proofs.Ytijphembfohfnaa
open Go.RowKit
set_option linter.unusedVariables false
theorem ok_nums {x : Nd} (h : ¬ (0 ≤ x.g ∧ x.g ≤ 1073741824 ∧ 0 ≤ x.c ∧ x.c ≤ 1073741824)) : x.ok = false := by
  simp [Nd.ok, Nd.nums, h]
theorem ok_size {x : Nd} (h : ¬ (0 ≤ x.s ∧ x.s ≤ 9728)) : x.ok = false := by
  have : x.kind = false := by
    simp only [Nd.kind, decide_eq_false_iff_not]
    omega
  simp [Nd.ok, this]
theorem ok_ptrs {x : Nd} (h : x.ptrs = false) : x.ok = false := by simp [Nd.ok, h]
theorem ok_kind {x : Nd} (h0 : 0 ≤ x.g) (h1 : x.g ≤ 1073741824) (h2 : 0 ≤ x.c) (h3 : x.c ≤ 1073741824) (hp : x.ptrs = true) : x.ok = x.kind := by
  simp [Nd.ok, Nd.nums, h0, h1, h2, h3, hp]
theorem kind_0 {x : Nd} (hk : x.k = 0) (hl : x.l = 0) (hs : x.s = 0) : x.kind = x.none_ := by
  cases h : x.none_ <;> simp [Nd.kind, hk, hl, hs, h]
theorem kind_not {x : Nd} (h0 : x.k = 0 → ¬ (x.l = 0 ∧ x.s = 0)) (h1 : x.k = 1 → ¬ (1 ≤ x.l ∧ x.l ≤ 255)) (h2 : x.k = 2 → ¬ (x.l = 1 ∧ x.s % 32 = 0)) : x.kind = false := by
  simp only [Nd.kind, decide_eq_false_iff_not]
  rintro (⟨a, b, c, _⟩ | ⟨a, b, c, _⟩ | ⟨a, b, _, _, c⟩)
  · exact h0 a ⟨b, c⟩
  · exact h1 a ⟨b, c⟩
  · exact h2 a ⟨b, c⟩
theorem kind_1 {x : Nd} (hk : x.k = 1) (h1 : 1 ≤ x.l) (h2 : x.l ≤ 255) (h3 : 0 ≤ x.s) (h4 : x.s ≤ 9728) : x.kind = true := by
  simp only [Nd.kind, decide_eq_true_eq]
  exact .inr (.inl ⟨hk, h1, h2, h3, h4⟩)
theorem kind_2 {x : Nd} (hk : x.k = 2) (h1 : x.l = 1) (h2 : x.s % 32 = 0) (h3 : 0 ≤ x.s) (h4 : x.s ≤ 9728) : x.kind = true := by
  simp only [Nd.kind, decide_eq_true_eq]
  exact .inr (.inr ⟨hk, h1, h3, h4, h2⟩)
/-- The cells of a node that lies in a block. -/
theorem nd_cells {W : World} {g : Nat} {x : Nd} {t : TypeId} {fr : Nat × Nat} (h : W.heap[g]? = some (.cells (nc x).toArray t fr)) :
    W.cell? ⟨g, 0, none⟩ = some (.int .i64 x.k) ∧ W.cell? ⟨g, 1, none⟩ = some (.int .i64 x.l) ∧ W.cell? ⟨g, 2, none⟩ = some (.int .i64 x.g) ∧ W.cell? ⟨g, 3, none⟩ = some (.int .i64 x.s) ∧ W.cell? ⟨g, 4, none⟩ = some (.int .i64 x.c) :=
  ⟨cell_of_row _ _ 0 _ _ _ h, cell_of_row _ _ 1 _ _ _ h, cell_of_row _ _ 2 _ _ _ h, cell_of_row _ _ 3 _ _ _ h, cell_of_row _ _ 4 _ _ _ h⟩
set_option maxHeartbeats 1000000 in
theorem sound_any (x : Nd) (w : World) : Calls Try.prog 9 #[.agg (nc x).toArray] w fun e w' => e = .returned (.bool x.ok) ∧ Below w.heap.size w w' := by
  obtain ⟨o, ho⟩ : ∃ o, x.ok = o := ⟨_, rfl⟩
  rw [ho]
  have HO := Lib.hid ho
  clear ho
  obtain ⟨a0, ab, az⟩ := box1 w (Obj.cells (nc x).toArray 25)
  have A0 := Lib.hid a0
  have AB := Lib.hid ab
  have AZ := Lib.hid az
  clear a0 ab az
  go_enter Try.func9, Try.ntmps9
  go_wp2_with (first | (refine wpList_load_row rfl 25 _ rfl w.heap.size rfl _ _ _ A0.out _ Try.underlying25 rfl s25 ?_) | fail)
  refine (pointersOf_any x _).mono ?_
  rintro e w1 ⟨rfl, hb1⟩
  rw [AZ.out] at hb1
  have hs1 : w.heap.size + 1 ≤ w1.heap.size := by have := hb1.size; rw [AZ.out] at this; exact this
  have A1 : Hid ((w1.alloc (Obj.cells (pc x).toArray 49)).heap[w.heap.size]? = some (.cells (nc x).toArray 25 (0, 0))) := ((box_below w1 _).block _ (by omega)).trans ((hb1.block _ (by omega)).trans A0.out)
  have A2 : Hid ((w1.alloc (Obj.cells (pc x).toArray 49)).heap[w1.heap.size]? = some (.cells (pc x).toArray 49 (0, 0))) := heap_alloc_new w1 _
  have AB1 : Hid (Below w.heap.size w (w1.alloc (Obj.cells (pc x).toArray 49))) := (AB.out.trans (hb1.mono (by omega))).trans ((box_below w1 _).mono (by omega))
  obtain ⟨c0, c1, c2, c3, c4⟩ := nd_cells A1.out
  clear hb1 AB A0 AZ
  by_cases h1 : 0 ≤ x.g ∧ x.g ≤ 1073741824
  case neg =>
    obtain rfl : o = false := by rw [← HO.out]; exact ok_nums (by omega)
    go_wp2_with (first | (refine wpList_store_new rfl 49 _ _ rfl w1 z6 (pc x).toArray rfl rfl s49 rfl (all_oneCell_toArray (pc_one x)) ?_) | fail)
    refine (upTo_no _ _ _ h1).mono ?_
    rintro e w2 ⟨rfl, rfl⟩
    go_wp2_with fail
    go_ret
    exact ⟨rfl, AB1.out⟩
  obtain ⟨h1, h2⟩ := h1
  go_wp2_with (first | (refine wpList_store_new rfl 49 _ _ rfl w1 z6 (pc x).toArray rfl rfl s49 rfl (all_oneCell_toArray (pc_one x)) ?_) | fail)
  generalize w1.alloc (Obj.cells (pc x).toArray 49) = W at *
  refine (upTo_yes _ _ _ h1 h2).mono ?_
  rintro e w2 ⟨rfl, rfl⟩
  by_cases h3 : 0 ≤ x.c ∧ x.c ≤ 1073741824
  case neg =>
    obtain rfl : o = false := by rw [← HO.out]; exact ok_nums (by omega)
    go_wp2_with fail
    refine (upTo_no _ _ _ h3).mono ?_
    rintro e w2 ⟨rfl, rfl⟩
    go_wp2_with fail
    go_ret
    exact ⟨rfl, AB1.out⟩
  obtain ⟨h3, h4⟩ := h3
  go_wp2_with fail
  refine (upTo_yes _ _ _ h3 h4).mono ?_
  rintro e w2 ⟨rfl, rfl⟩
  by_cases h5 : 0 ≤ x.s ∧ x.s ≤ 9728
  case neg =>
    obtain rfl : o = false := by rw [← HO.out]; exact ok_size h5
    go_wp2_with fail
    refine (upTo_no _ _ _ h5).mono ?_
    rintro e w2 ⟨rfl, rfl⟩
    go_wp2_with fail
    go_ret
    exact ⟨rfl, AB1.out⟩
  obtain ⟨h5, h6⟩ := h5
  go_wp2_with fail
  refine (upTo_yes _ _ _ h5 h6).mono ?_
  rintro e w2 ⟨rfl, rfl⟩
  go_wp2_with (first | (refine wpList_load_row rfl 49 _ rfl w1.heap.size rfl _ _ _ A2.out _ Try.underlying49 rfl s49 ?_) | fail)
  refine (allowed_any x _).mono ?_
  rintro e w2 ⟨rfl, hb2⟩
  have hlt0 := F.lt_of_heap A1.out
  have hlt1 := F.lt_of_heap A2.out
  have AB2 : Hid (Below w.heap.size w w2) := AB1.out.trans (hb2.mono (by omega))
  have B1 : Hid (w2.heap[w.heap.size]? = some (.cells (nc x).toArray 25 (0, 0))) := (hb2.block _ hlt0).trans A1.out
  have B2 : Hid (w2.heap[w1.heap.size]? = some (.cells (pc x).toArray 49 (0, 0))) := (hb2.block _ hlt1).trans A2.out
  clear hb2 c0 c1 c2 c3 c4 A1 A2 hlt0 hlt1 AB1
  cases hp : x.ptrs with
  | false =>
    obtain rfl : o = false := by rw [← HO.out]; exact ok_ptrs hp
    clear hp
    go_wp2_with fail
    go_ret
    exact ⟨rfl, AB2.out⟩
  | true =>
    obtain ⟨c0, c1, c2, c3, c4⟩ := nd_cells B1.out
    have HK : Hid (x.kind = o) := (ok_kind h1 h2 h3 h4 hp).symm.trans HO.out
    clear hp h1 h2 h3 h4 HO
    have bt : ∀ {a b : Int}, a = b → (a == b) = true := fun h => by rw [beq_iff_eq]; exact h
    have bf : ∀ {a b : Int}, ¬ a = b → (a == b) = false := fun h => by rw [beq_eq_false_iff_ne]; exact h
    by_cases k0 : x.k = 0
    · have k0' := bt k0
      by_cases l0 : x.l = 0
      · have l0' := bt l0
        by_cases s0 : x.s = 0
        · have s0' := bt s0
          obtain rfl : o = x.none_ := by rw [← HK.out]; exact kind_0 k0 l0 s0
          have hq := eq49 x w2
          clear k0 l0 s0 HK bt bf
          go_wp2_with (first | (refine wpList_load_row rfl 49 _ rfl w1.heap.size rfl _ _ _ B2.out _ Try.underlying49 rfl s49 ?_) | fail)
          go_ret
          exact ⟨rfl, AB2.out⟩
        · have s0' := bf s0
          obtain rfl : o = false := by rw [← HK.out]; exact kind_not (fun _ h => s0 h.2) (by omega) (by omega)
          clear k0 l0 s0 HK bt bf
          go_wp2_with fail
          go_ret
          exact ⟨rfl, AB2.out⟩
      · have l0' := bf l0
        obtain rfl : o = false := by rw [← HK.out]; exact kind_not (fun _ h => l0 h.1) (by omega) (by omega)
        clear k0 l0 HK bt bf
        go_wp2_with fail
        go_ret
        exact ⟨rfl, AB2.out⟩
    have k0' := bf k0
    by_cases k1 : x.k = 1
    · have k1' := bt k1
      by_cases l1 : 1 ≤ x.l
      · by_cases l2 : x.l ≤ 255
        · obtain rfl : o = true := by rw [← HK.out]; exact kind_1 k1 l1 l2 h5 h6
          clear k0 k1 HK bt bf
          go_wp2_with fail
          go_ret
          exact ⟨rfl, AB2.out⟩
        · obtain rfl : o = false := by rw [← HK.out]; exact kind_not (by omega) (by omega) (by omega)
          clear k0 k1 HK bt bf
          go_wp2_with fail
          go_ret
          exact ⟨retb (decide_eq_false (by omega)), AB2.out⟩
      · obtain rfl : o = false := by rw [← HK.out]; exact kind_not (by omega) (by omega) (by omega)
        clear k0 k1 HK bt bf
        go_wp2_with fail
        go_ret
        exact ⟨rfl, AB2.out⟩
    have k1' := bf k1
    by_cases k2 : x.k = 2
    · have k2' := bt k2
      by_cases l1 : x.l = 1
      · have l1' := bt l1
        by_cases s1 : x.s % 32 = 0
        · have s1' := bt s1
          obtain rfl : o = true := by rw [← HK.out]; exact kind_2 k2 l1 s1 h5 h6
          clear k0 k1 k2 l1 s1 HK bt bf
          go_wp2_with fail
          go_ret
          exact ⟨rfl, AB2.out⟩
        · have s1' := bf s1
          obtain rfl : o = false := by rw [← HK.out]; exact kind_not (by omega) (by omega) (fun _ h => s1 h.2)
          clear k0 k1 k2 l1 s1 HK bt bf
          go_wp2_with fail
          go_ret
          exact ⟨rfl, AB2.out⟩
      · have l1' := bf l1
        obtain rfl : o = false := by rw [← HK.out]; exact kind_not (by omega) (by omega) (fun _ h => l1 h.1)
        clear k0 k1 k2 l1 HK bt bf
        go_wp2_with fail
        go_ret
        exact ⟨rfl, AB2.out⟩
    have k2' := bf k2
    obtain rfl : o = false := by rw [← HK.out]; exact kind_not (fun h => absurd h k0) (fun h => absurd h k1) (fun h => absurd h k2)
    clear k0 k1 k2 HK bt bf
    go_wp2_with fail
    go_ret
    exact ⟨rfl, AB2.out⟩
end Go.Proofs.Ytijphembfohfnaa
