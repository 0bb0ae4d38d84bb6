/- VerbAsks, walked over the bundle of contracts. -/
import Derived.Test.YtfignanjelebaaaVCtr
import Derived.Test.YtfignanjelebaaaVSame
namespace Go.Proofs.Ytfignanjelebaaa.verbAsks
open Go.RowKit
set_option linter.unusedVariables false
theorem chg_of {k : Int} (h : chg k) : decide (chg k) = true := decide_eq_true h
set_option maxRecDepth 100000 in
set_option maxHeartbeats 4000000 in
theorem walk (H : Verbs) (w : World) (v : Vb) (A : Option Addr) (n c : Nat) (hd : Bts w w.heap.size A n c v.d) (k : Int) :
    Calls Try.prog 3 #[.agg (vc v A n c).toArray, .int .i64 k] w fun e w' => e = .returned (.bool true) ∧ Below w.heap.size w w' := by
  have HD := Lib.hid hd
  have hn := hd.len
  clear hd
  obtain ⟨a0, ab, az⟩ := box1 w (Obj.cells (vc v A n c).toArray 26)
  have A0 := Lib.hid a0
  have AB := Lib.hid ab
  have hz : w.heap.size < (w.alloc (Obj.cells (vc v A n c).toArray 26)).heap.size := by omega
  clear a0 ab az
  go_enter Try.func3, Try.ntmps3
  go_wp2_with (first | (refine wpList_load_row rfl 26 _ rfl w.heap.size rfl _ _ _ A0.out _ Try.underlying26 rfl s26 ?_) | fail)
  generalize w.alloc (Obj.cells (vc v A n c).toArray 26) = W at *
  refine (H.enc v A n c _ W (HD.out.below AB.out) AB.out.size).mono ?_
  rintro e w1 ⟨hb1, X1⟩
  have HB1 := Lib.hid (AB.out.trans (hb1.mono AB.out.size))
  have A1 := Lib.hid ((hb1.block _ hz).trans A0.out)
  have hz1 : w.heap.size < w1.heap.size := Nat.lt_of_lt_of_le hz hb1.size
  clear hb1 A0 hz AB
  obtain ⟨F, q, B1, k1, j1, hB1, hF, rfl⟩ : ∃ (F : List UInt8) (q : Int) (B1 : Option Addr) (k1 j1 : Nat), Bts w1 w1.heap.size B1 k1 j1 F ∧ (∀ e, (v.Good ∧ e = Ending.returned (.tuple #[.string ⟨v.frame.toArray⟩, .int .i64 0]) ∨ ¬ v.Good ∧ e = .returned (.tuple #[.string ⟨#[]⟩, .int .i64 2])) → e = .returned (.tuple #[.string ⟨F.toArray⟩, .int .i64 q])) ∧ e = .returned (.tuple #[.slice B1 k1 j1, .int .i64 q]) := by
    obtain ⟨hg, B1, k1, j1, hB1, rfl⟩ | ⟨hg, B1, k1, j1, hB1, rfl⟩ := X1
    · refine ⟨v.frame, 0, B1, k1, j1, hB1, fun e he => ?_, rfl⟩
      rcases he with ⟨_, rfl⟩ | ⟨h, _⟩
      · rfl
      · exact absurd hg h
    · refine ⟨[], 2, B1, k1, j1, hB1, fun e he => ?_, rfl⟩
      rcases he with ⟨h, _⟩ | ⟨_, rfl⟩
      · exact absurd h hg
      · rfl
  clear X1
  have D1 := Lib.hid hB1
  have HF := Lib.hid hF
  clear hB1 hF
  go_wp2_with (first | (refine wpList_load_row rfl 26 _ rfl w.heap.size rfl _ _ _ A1.out _ Try.underlying26 rfl s26 ?_) | fail)
  refine (refEncode_any v A n c _ _ (HD.out.below HB1.out) HB1.out.size).mono ?_
  rintro e w2 ⟨X2, hb2⟩
  obtain rfl := HF.out e X2
  have HB2 := Lib.hid (HB1.out.trans (hb2.mono HB1.out.size))
  have A2 := Lib.hid ((hb2.block _ hz1).trans A1.out)
  have D2 := Lib.hid ((D1.out.below hb2).more hb2.size)
  have hz2 : w.heap.size < w2.heap.size := Nat.lt_of_lt_of_le hz1 hb2.size
  clear hb2 A1 D1 hz1 HB1 X2 HF
  go_upto_region 3 with fail
  go_cut [9] from 20 to 49 (fun b wx => b = .bool (decide (chg k)) ∧ wx = w2)
  case first =>
    by_cases k3 : k = 3
    case pos =>
      subst k3
      go_wp2_with fail
      go_meet
      exact ⟨rfl, rfl⟩
    have kf3 := bf k3
    by_cases k4 : k = 4
    case pos =>
      subst k4
      go_wp2_with fail
      go_meet
      exact ⟨rfl, rfl⟩
    have kf4 := bf k4
    by_cases k5 : k = 5
    case pos =>
      subst k5
      go_wp2_with fail
      go_meet
      exact ⟨rfl, rfl⟩
    have kf5 := bf k5
    by_cases k6 : k = 6
    case pos =>
      subst k6
      go_wp2_with fail
      go_meet
      exact ⟨rfl, rfl⟩
    have kf6 := bf k6
    by_cases k7 : k = 7
    case pos =>
      subst k7
      go_wp2_with fail
      go_meet
      exact ⟨rfl, rfl⟩
    have kf7 := bf k7
    by_cases k8 : k = 8
    case pos =>
      subst k8
      go_wp2_with fail
      go_meet
      exact ⟨rfl, rfl⟩
    have kf8 := bf k8
    by_cases k11 : k = 11
    case pos =>
      subst k11
      go_wp2_with fail
      go_meet
      exact ⟨rfl, rfl⟩
    have kf11 := bf k11
    by_cases k12 : k = 12
    case pos =>
      subst k12
      go_wp2_with fail
      go_meet
      exact ⟨rfl, rfl⟩
    have kf12 := bf k12
    have hc : decide (chg k) = false := decide_eq_false (by unfold chg; omega)
    have HC := Lib.hid hc
    clear hc k3 k4 k5 k6 k7 k8 k11 k12
    go_wp2_with fail
    go_meet
    exact ⟨vb HC.out.symm, rfl⟩
  case rest =>
    obtain ⟨rfl, rfl⟩ := hcut
    have HS : ∀ V, Hid (Below wc.heap.size wc V → V.rangeAt w.heap.size 0 (vc v A n c) ∧ (convert 24 9 (.slice B1 k1 j1)).run Try.prog V = .ok (.string ⟨F.toArray⟩) V) := fun V hV => by
      refine ⟨range_of ((hV.block _ hz2).trans A2.out) 0 (vc v A n c) (fun j u h => ?_), (D2.out.below hV).str V (fun _ _ => rfl)⟩
      rw [Nat.zero_add]
      simpa using h
    have HB0 : Hid (Below wc.heap.size wc wc.drew) := (Below.refl _ _).drew
    generalize hgg : decide (chg k) = gg
    have HGG := Lib.hid hgg
    clear hgg
    go_upto_region 4 with fail
    refine wp_region_noPanic ?_
    refine wp_region_held_drew (S := fun V => V.rangeAt w.heap.size 0 (vc v A n c) ∧ (convert 24 9 (.slice B1 k1 j1)).run Try.prog V = .ok (.string ⟨F.toArray⟩) V) (by kernel_rfl) ((HS _).out HB0.out) (fun hHeld => ?_)
    refine wpAnyH_ready (rs := [0]) (by kernel_rfl) (by simp) ?_
    refine AllReadyH.cons (o := { dst := some 50, op := Op.call { callee := Callee.value (Operand.func 12), args := #[], argTypes := #[] }, type := 4, pos := "law.go:24", after := #[], guard := none }) rfl (fun K hK => ?_) AllReadyH.nil
    go_simp
    go_at_call 12
    refine (awake_any H _).mono ?_
    rintro e w3 ⟨rfl, hb3⟩
    have HB3 := Lib.hid (HB0.out.trans (hb3.mono HB0.out.size))
    clear hb3
    go_wp2_with fail
    refine hK.out _ _ ((HS _).out HB3.out) (fun hHeld => ?_)
    clear hK K
    refine wpAnyH_take (i := 1) (oi := { dst := some 51, op := Op.move (Operand.tmp 50), type := 4, pos := "law.go:24", after := #[{ on := 0, ground := Ground.data }, { on := 0, ground := Ground.chain }], guard := none }) (v := ?_) rfl (by kernel_rfl) (by kernel_rfl) (by kernel_rfl) (fun _ _ _ h => h) (Or.inl ⟨by rfl, ?_⟩) (by assumption) ?_
    rotate_left
    · intro w hSw; (try dsimp only at hSw); go_simp <;> with_reducible rfl
    try simp only [Act.put, List.setIfInBounds_toArray, List.set_cons_zero, List.set_cons_succ]
    refine wpAnyH_take (i := 2) (oi := { dst := some 52, op := Op.move (Operand.tmp 5), type := 24, pos := "law.go:24", after := #[{ on := 1, ground := Ground.guard }], guard := some (1, true) }) (v := ?_) rfl (by kernel_rfl) (by kernel_rfl) (by kernel_rfl) (fun _ _ _ h => h) (Or.inl ⟨by rfl, ?_⟩) (by assumption) ?_
    rotate_left
    · intro w hSw; (try dsimp only at hSw); go_simp <;> with_reducible rfl
    try simp only [Act.put, List.setIfInBounds_toArray, List.set_cons_zero, List.set_cons_succ]
    refine wpAnyH_take (i := 3) (oi := { dst := some 53, op := Op.convert 24 9 (Operand.tmp 52), type := 9, pos := "law.go:24", after := #[{ on := 2, ground := Ground.data }, { on := 1, ground := Ground.guard }], guard := some (1, true) }) (v := ?_) rfl (by kernel_rfl) (by kernel_rfl) (by kernel_rfl) (fun _ _ _ h => h) (Or.inl ⟨by rfl, ?_⟩) (by assumption) ?_
    rotate_left
    · intro w hSw; (try dsimp only at hSw); go_simp <;> with_reducible rfl
    try simp only [Act.put, List.setIfInBounds_toArray, List.set_cons_zero, List.set_cons_succ]
    refine wpAnyH_take (i := 4) (oi := { dst := some 54, op := Op.move (Operand.tmp 7), type := 9, pos := "law.go:24", after := #[{ on := 1, ground := Ground.guard }], guard := some (1, true) }) (v := ?_) rfl (by kernel_rfl) (by kernel_rfl) (by kernel_rfl) (fun _ _ _ h => h) (Or.inl ⟨by rfl, ?_⟩) (by assumption) ?_
    rotate_left
    · intro w hSw; (try dsimp only at hSw); go_simp <;> with_reducible rfl
    try simp only [Act.put, List.setIfInBounds_toArray, List.set_cons_zero, List.set_cons_succ]
    refine wpAnyH_take (i := 5) (oi := { dst := some 55, op := Op.binOp BinOp.eql 9 (Operand.tmp 53) (Operand.tmp 54) 9, type := 4, pos := "law.go:24", after := #[{ on := 3, ground := Ground.data }, { on := 4, ground := Ground.data }, { on := 1, ground := Ground.guard }], guard := some (1, true) }) (v := ?_) rfl (by kernel_rfl) (by kernel_rfl) (by kernel_rfl) (fun _ _ _ h => h) (Or.inl ⟨by rfl, ?_⟩) (by assumption) ?_
    rotate_left
    · intro w hSw; (try dsimp only at hSw); go_simp <;> with_reducible rfl
    try simp only [Act.put, List.setIfInBounds_toArray, List.set_cons_zero, List.set_cons_succ]
    refine wpAnyH_take (i := 6) (oi := { dst := some 56, op := Op.pick (Operand.tmp 51) (Operand.tmp 55) (Operand.const (Value.bool false)), type := 4, pos := "law.go:24", after := #[{ on := 1, ground := Ground.data }, { on := 5, ground := Ground.data }], guard := none }) (v := ?_) rfl (by kernel_rfl) (by kernel_rfl) (by kernel_rfl) (fun _ _ _ h => h) (Or.inl ⟨by rfl, ?_⟩) (by assumption) ?_
    rotate_left
    · intro w hSw; (try dsimp only at hSw); go_simp <;> with_reducible rfl
    try simp only [Act.put, List.setIfInBounds_toArray, List.set_cons_zero, List.set_cons_succ]
    refine wpAnyH_take (i := 7) (oi := { dst := some 57, op := Op.move (Operand.tmp 56), type := 4, pos := "law.go:24", after := #[{ on := 6, ground := Ground.data }, { on := 1, ground := Ground.chain }], guard := none }) (v := ?_) rfl (by kernel_rfl) (by kernel_rfl) (by kernel_rfl) (fun _ _ _ h => h) (Or.inl ⟨by rfl, ?_⟩) (by assumption) ?_
    rotate_left
    · intro w hSw; (try dsimp only at hSw); go_simp <;> with_reducible rfl
    try simp only [Act.put, List.setIfInBounds_toArray, List.set_cons_zero, List.set_cons_succ]
    refine wpAnyH_take (i := 8) (oi := { dst := some 58, op := Op.move (Operand.tmp 6), type := 27, pos := "law.go:24", after := #[{ on := 7, ground := Ground.guard }], guard := some (7, true) }) (v := ?_) rfl (by kernel_rfl) (by kernel_rfl) (by kernel_rfl) (fun _ _ _ h => h) (Or.inl ⟨by rfl, ?_⟩) (by assumption) ?_
    rotate_left
    · intro w hSw; (try dsimp only at hSw); go_simp <;> with_reducible rfl
    try simp only [Act.put, List.setIfInBounds_toArray, List.set_cons_zero, List.set_cons_succ]
    refine wpAnyH_take (i := 9) (oi := { dst := some 59, op := Op.move (Operand.tmp 8), type := 27, pos := "law.go:24", after := #[{ on := 7, ground := Ground.guard }], guard := some (7, true) }) (v := ?_) rfl (by kernel_rfl) (by kernel_rfl) (by kernel_rfl) (fun _ _ _ h => h) (Or.inl ⟨by rfl, ?_⟩) (by assumption) ?_
    rotate_left
    · intro w hSw; (try dsimp only at hSw); go_simp <;> with_reducible rfl
    try simp only [Act.put, List.setIfInBounds_toArray, List.set_cons_zero, List.set_cons_succ]
    refine wpAnyH_take (i := 10) (oi := { dst := some 60, op := Op.binOp BinOp.eql 27 (Operand.tmp 58) (Operand.tmp 59) 27, type := 4, pos := "law.go:24", after := #[{ on := 8, ground := Ground.data }, { on := 9, ground := Ground.data }, { on := 7, ground := Ground.guard }], guard := some (7, true) }) (v := ?_) rfl (by kernel_rfl) (by kernel_rfl) (by kernel_rfl) (fun _ _ _ h => h) (Or.inl ⟨by rfl, ?_⟩) (by assumption) ?_
    rotate_left
    · intro w hSw; (try dsimp only at hSw); go_simp <;> with_reducible rfl
    try simp only [Act.put, List.setIfInBounds_toArray, List.set_cons_zero, List.set_cons_succ]
    refine wpAnyH_take (i := 11) (oi := { dst := some 61, op := Op.pick (Operand.tmp 57) (Operand.tmp 60) (Operand.const (Value.bool false)), type := 4, pos := "law.go:24", after := #[{ on := 7, ground := Ground.data }, { on := 10, ground := Ground.data }], guard := none }) (v := ?_) rfl (by kernel_rfl) (by kernel_rfl) (by kernel_rfl) (fun _ _ _ h => h) (Or.inl ⟨by rfl, ?_⟩) (by assumption) ?_
    rotate_left
    · intro w hSw; (try dsimp only at hSw); go_simp <;> with_reducible rfl
    try simp only [Act.put, List.setIfInBounds_toArray, List.set_cons_zero, List.set_cons_succ]
    refine wpAnyH_take (i := 12) (oi := { dst := some 62, op := Op.move (Operand.tmp 61), type := 4, pos := "law.go:24", after := #[{ on := 11, ground := Ground.data }, { on := 7, ground := Ground.chain }], guard := none }) (v := ?_) rfl (by kernel_rfl) (by kernel_rfl) (by kernel_rfl) (fun _ _ _ h => h) (Or.inl ⟨by rfl, ?_⟩) (by assumption) ?_
    rotate_left
    · intro w hSw; (try dsimp only at hSw); go_simp <;> with_reducible rfl
    try simp only [Act.put, List.setIfInBounds_toArray, List.set_cons_zero, List.set_cons_succ]
    refine wpAnyH_take (i := 13) (oi := { dst := some 63, op := Op.load 26 (Operand.tmp 2), type := 26, pos := "law.go:24", after := #[{ on := 12, ground := Ground.guard }], guard := some (12, true) }) (v := .agg (vc v A n c).toArray) rfl (by kernel_rfl) (by kernel_rfl) (by kernel_rfl) (fun _ _ _ h => h) (yieldsIf_load_mid (by rfl) 26 _ rfl w.heap.size (0) rfl (vc v A n c) _ (fun V hV => hV.1) Try.underlying26 rfl s26) (by assumption) ?_
    try simp only [Act.put, List.setIfInBounds_toArray, List.set_cons_zero, List.set_cons_succ]
    refine wpAnyH_take (i := 15) (oi := { dst := some 65, op := Op.load 26 (Operand.tmp 2), type := 26, pos := "law.go:24", after := #[{ on := 12, ground := Ground.guard }], guard := some (12, true) }) (v := .agg (vc v A n c).toArray) rfl (by kernel_rfl) (by kernel_rfl) (by kernel_rfl) (fun _ _ _ h => h) (yieldsIf_load_mid (by rfl) 26 _ rfl w.heap.size (0) rfl (vc v A n c) _ (fun V hV => hV.1) Try.underlying26 rfl s26) (by assumption) ?_
    try simp only [Act.put, List.setIfInBounds_toArray, List.set_cons_zero, List.set_cons_succ]
    refine wpAnyH_ready (rs := [14]) (by kernel_rfl) (by simp) ?_
    refine AllReadyH.cons (o := { dst := some 64, op := Op.call { callee := Callee.value (Operand.func 13), args := #[Operand.tmp 63], argTypes := #[26] }, type := 4, pos := "law.go:24", after := #[{ on := 13, ground := Ground.data }, { on := 12, ground := Ground.chain }, { on := 12, ground := Ground.guard }], guard := some (12, true) }) rfl (fun K hK => ?_) AllReadyH.nil
    go_simp
    go_at_call 13
    refine (H.good v A n c _ hn).mono ?_
    rintro e w4 ⟨rfl, hb4⟩
    have HB4 := Lib.hid (HB3.out.trans (hb4.mono HB3.out.size))
    clear hb4
    go_wp2_with fail
    refine hK.out _ _ ((HS _).out HB4.out) (fun hHeld => ?_)
    clear hK K
    refine wpAnyH_ready (rs := [16]) (by kernel_rfl) (by simp) ?_
    refine AllReadyH.cons (o := { dst := some 66, op := Op.call { callee := Callee.value (Operand.func 14), args := #[Operand.tmp 65], argTypes := #[26] }, type := 4, pos := "law.go:24", after := #[{ on := 15, ground := Ground.data }, { on := 14, ground := Ground.chain }, { on := 12, ground := Ground.guard }], guard := some (12, true) }) rfl (fun K hK => ?_) AllReadyH.nil
    go_simp
    go_at_call 14
    refine (refGood_any v A n c hn _).mono ?_
    rintro e w5 ⟨rfl, hb5⟩
    have HB5 := Lib.hid (HB4.out.trans (hb5.mono HB4.out.size))
    clear hb5
    go_wp2_with fail
    refine hK.out _ _ ((HS _).out HB5.out) (fun hHeld => ?_)
    clear hK K
    refine wpAnyH_take (i := 17) (oi := { dst := some 67, op := Op.binOp BinOp.eql 4 (Operand.tmp 64) (Operand.tmp 66) 4, type := 4, pos := "law.go:24", after := #[{ on := 14, ground := Ground.data }, { on := 16, ground := Ground.data }, { on := 12, ground := Ground.guard }], guard := some (12, true) }) (v := ?_) rfl (by kernel_rfl) (by kernel_rfl) (by kernel_rfl) (fun _ _ _ h => h) (Or.inl ⟨by rfl, ?_⟩) (by assumption) ?_
    rotate_left
    · intro w hSw; (try dsimp only at hSw); go_simp <;> with_reducible rfl
    try simp only [Act.put, List.setIfInBounds_toArray, List.set_cons_zero, List.set_cons_succ]
    refine wpAnyH_take (i := 18) (oi := { dst := some 68, op := Op.pick (Operand.tmp 62) (Operand.tmp 67) (Operand.const (Value.bool false)), type := 4, pos := "law.go:24", after := #[{ on := 12, ground := Ground.data }, { on := 17, ground := Ground.data }], guard := none }) (v := ?_) rfl (by kernel_rfl) (by kernel_rfl) (by kernel_rfl) (fun _ _ _ h => h) (Or.inl ⟨by rfl, ?_⟩) (by assumption) ?_
    rotate_left
    · intro w hSw; (try dsimp only at hSw); go_simp <;> with_reducible rfl
    try simp only [Act.put, List.setIfInBounds_toArray, List.set_cons_zero, List.set_cons_succ]
    refine wpAnyH_take (i := 19) (oi := { dst := some 69, op := Op.move (Operand.tmp 68), type := 4, pos := "law.go:24", after := #[{ on := 18, ground := Ground.data }, { on := 16, ground := Ground.chain }], guard := none }) (v := ?_) rfl (by kernel_rfl) (by kernel_rfl) (by kernel_rfl) (fun _ _ _ h => h) (Or.inl ⟨by rfl, ?_⟩) (by assumption) ?_
    rotate_left
    · intro w hSw; (try dsimp only at hSw); go_simp <;> with_reducible rfl
    try simp only [Act.put, List.setIfInBounds_toArray, List.set_cons_zero, List.set_cons_succ]
    refine wpAnyH_take (i := 20) (oi := { dst := some 70, op := Op.move (Operand.tmp 1), type := 3, pos := "law.go:24", after := #[{ on := 19, ground := Ground.guard }], guard := some (19, true) }) (v := ?_) rfl (by kernel_rfl) (by kernel_rfl) (by kernel_rfl) (fun _ _ _ h => h) (Or.inl ⟨by rfl, ?_⟩) (by assumption) ?_
    rotate_left
    · intro w hSw; (try dsimp only at hSw); go_simp <;> with_reducible rfl
    try simp only [Act.put, List.setIfInBounds_toArray, List.set_cons_zero, List.set_cons_succ]
    refine wpAnyH_take (i := 22) (oi := { dst := some 72, op := Op.move (Operand.tmp 9), type := 4, pos := "law.go:24", after := #[{ on := 19, ground := Ground.guard }], guard := some (19, true) }) (v := ?_) rfl (by kernel_rfl) (by kernel_rfl) (by kernel_rfl) (fun _ _ _ h => h) (Or.inl ⟨by rfl, ?_⟩) (by assumption) ?_
    rotate_left
    · intro w hSw; (try dsimp only at hSw); go_simp <;> with_reducible rfl
    try simp only [Act.put, List.setIfInBounds_toArray, List.set_cons_zero, List.set_cons_succ]
    refine wpAnyH_ready (rs := [21]) (by kernel_rfl) (by simp) ?_
    refine AllReadyH.cons (o := { dst := some 71, op := Op.call { callee := Callee.value (Operand.func 15), args := #[Operand.tmp 70], argTypes := #[3] }, type := 4, pos := "law.go:24", after := #[{ on := 20, ground := Ground.data }, { on := 19, ground := Ground.chain }, { on := 19, ground := Ground.guard }], guard := some (19, true) }) rfl (fun K hK => ?_) AllReadyH.nil
    go_simp
    go_at_call 15
    refine (H.chgs k _).mono ?_
    rintro e w6 ⟨rfl, hb6⟩
    have HB6 := Lib.hid (HB5.out.trans (hb6.mono HB5.out.size))
    clear hb6
    rw [HGG.out]
    go_wp2_with fail
    refine hK.out _ _ ((HS _).out HB6.out) (fun hHeld => ?_)
    clear hK K
    refine wpAnyH_take (i := 23) (oi := { dst := some 73, op := Op.binOp BinOp.eql 4 (Operand.tmp 71) (Operand.tmp 72) 4, type := 4, pos := "law.go:24", after := #[{ on := 21, ground := Ground.data }, { on := 22, ground := Ground.data }, { on := 19, ground := Ground.guard }], guard := some (19, true) }) (v := ?_) rfl (by kernel_rfl) (by kernel_rfl) (by kernel_rfl) (fun _ _ _ h => h) (Or.inl ⟨by rfl, ?_⟩) (by assumption) ?_
    rotate_left
    · intro w hSw; (try dsimp only at hSw); go_simp <;> with_reducible rfl
    try simp only [Act.put, List.setIfInBounds_toArray, List.set_cons_zero, List.set_cons_succ]
    refine wpAnyH_take (i := 24) (oi := { dst := some 74, op := Op.pick (Operand.tmp 69) (Operand.tmp 73) (Operand.const (Value.bool false)), type := 4, pos := "law.go:24", after := #[{ on := 19, ground := Ground.data }, { on := 23, ground := Ground.data }], guard := none }) (v := ?_) rfl (by kernel_rfl) (by kernel_rfl) (by kernel_rfl) (fun _ _ _ h => h) (Or.inl ⟨by rfl, ?_⟩) (by assumption) ?_
    rotate_left
    · intro w hSw; (try dsimp only at hSw); go_simp <;> with_reducible rfl
    try simp only [Act.put, List.setIfInBounds_toArray, List.set_cons_zero, List.set_cons_succ]
    refine wpAnyH_take (i := 25) (oi := { dst := some 4, op := Op.assign (Operand.tmp 74), type := 4, pos := "law.go:24", after := #[{ on := 24, ground := Ground.data }, { on := 21, ground := Ground.chain }, { on := 0, ground := Ground.phase }, { on := 1, ground := Ground.phase }, { on := 2, ground := Ground.phase }, { on := 3, ground := Ground.phase }, { on := 4, ground := Ground.phase }, { on := 5, ground := Ground.phase }, { on := 6, ground := Ground.phase }, { on := 7, ground := Ground.phase }, { on := 8, ground := Ground.phase }, { on := 9, ground := Ground.phase }, { on := 10, ground := Ground.phase }, { on := 11, ground := Ground.phase }, { on := 12, ground := Ground.phase }, { on := 13, ground := Ground.phase }, { on := 14, ground := Ground.phase }, { on := 15, ground := Ground.phase }, { on := 16, ground := Ground.phase }, { on := 17, ground := Ground.phase }, { on := 18, ground := Ground.phase }, { on := 19, ground := Ground.phase }, { on := 20, ground := Ground.phase }, { on := 21, ground := Ground.phase }, { on := 22, ground := Ground.phase }, { on := 23, ground := Ground.phase }, { on := 24, ground := Ground.phase }], guard := none }) (v := ?_) rfl (by kernel_rfl) (by kernel_rfl) (by kernel_rfl) (fun _ _ _ h => h) (Or.inl ⟨by rfl, ?_⟩) (by assumption) ?_
    rotate_left
    · intro w hSw; (try dsimp only at hSw); go_simp <;> with_reducible rfl
    try simp only [Act.put, List.setIfInBounds_toArray, List.set_cons_zero, List.set_cons_succ]
    refine wpAnyH_done (by kernel_rfl) ?_ _
    refine NoPanic.normal ?_
    go_wp2_with fail
    go_ret
    exact ⟨rfl, HB2.out.trans (HB6.out.mono (by omega))⟩
end Go.Proofs.Ytfignanjelebaaa.verbAsks
