/- VerbShorts, walked over the bundle of contracts. -/
import Derived.Test.YtfignanjelebaaaVCtr
import Derived.Test.YtfignanjelebaaaVSame
namespace Go.Proofs.Ytfignanjelebaaa.verbShorts
open Go.RowKit
set_option linter.unusedVariables false
theorem of_short_of {r x : Rp} (hr : r.Good) (hx : x.Good) (h : x.of_short = x) (hs : r.short = x.short) : x = r.of_short := by
  obtain ⟨h1, h2⟩ := Rp.short_inj hr hx hs
  rw [← h]
  cases r
  cases x
  simp only [Rp.of_short, Rp.st, List.cons.injEq, and_true] at h1 h2 ⊢
  simp_all
set_option maxRecDepth 100000 in
set_option maxHeartbeats 4000000 in
theorem walk (H : Verbs) (w : World) (r : Rp) (A X : Option Addr) (n c m d : Nat) (hd : Bts w w.heap.size A n c r.d) (hs : Strs w w.heap.size X m d r.ns) (A' : Option Addr) (n' c' : Nat) (l : List UInt8) (h : Bts w w.heap.size A' n' c' l) (R : c' ≤ 140737488351232) :
    Calls Try.prog 7 #[.agg (rc r A n c X m d).toArray, .slice A' n' c'] w fun e w' => e = .returned (.bool true) ∧ Below w.heap.size w w' := by
  have HD := Lib.hid hd
  have HS := Lib.hid hs
  have HL := Lib.hid h
  have hnn := hd.len
  clear hd hs
  have hn : n' ≤ 281474976700000 := by have := h.cap; omega
  have hnl := h.len
  clear h R
  obtain ⟨a0, ab, az⟩ := box1 w (Obj.cells (rc r A n c X m d).toArray 44)
  have A0 := Lib.hid a0
  have AB := Lib.hid ab
  have hz : w.heap.size < (w.alloc (Obj.cells (rc r A n c X m d).toArray 44)).heap.size := by omega
  clear a0 ab az
  go_enter Try.func7, Try.ntmps7
  go_wp2_with (first | (refine wpList_load_row rfl 44 _ rfl w.heap.size rfl _ _ _ A0.out _ Try.underlying44 rfl s44 ?_) | fail)
  generalize w.alloc (Obj.cells (rc r A n c X m d).toArray 44) = W at *
  refine (H.shrt r A X n c m d _ W (HD.out.below AB.out) (HS.out.below AB.out) AB.out.size).mono ?_
  rintro e w1 ⟨hb1, B1, k1, j1, hB1, rfl⟩
  have HB1 := Lib.hid (AB.out.trans (hb1.mono AB.out.size))
  have A1 := Lib.hid ((hb1.block _ hz).trans A0.out)
  have hz1 : w.heap.size < w1.heap.size := Nat.lt_of_lt_of_le hz hb1.size
  have D1 := Lib.hid hB1
  have hk1 := hB1.len
  clear hb1 A0 hz AB hB1
  obtain ⟨F, hF⟩ : ∃ F, (if r.Good then r.short else []) = F := ⟨_, rfl⟩
  have HF := Lib.hid hF
  have hrs : ∀ (V : World), Hid (Below w.heap.size w V → Calls Try.prog 26 #[.agg (rc r A n c X m d).toArray] V fun e w' => e = .returned (.string ⟨F.toArray⟩) ∧ Below V.heap.size V w') := fun V hV => by
    rw [← hF]
    exact refShort_any r A X n c m d _ V hnn (HS.out.below hV) hV.size
  have D1' : Hid (Bts w1 w1.heap.size B1 k1 j1 F) := by have := D1.out; rw [hF] at this; exact this
  rw [hF] at hk1
  clear hF D1
  have HV : ∀ V, Hid (Below w1.heap.size w1 V → V.rangeAt w.heap.size 0 (rc r A n c X m d) ∧ (convert 24 9 (.slice B1 k1 j1)).run Try.prog V = .ok (.string ⟨F.toArray⟩) V) := fun V hV => by
    refine ⟨range_of ((hV.block _ hz1).trans A1.out) 0 (rc r A n c X m d) (fun j u h => ?_), (D1'.out.below hV).str V (fun _ _ => rfl)⟩
    rw [Nat.zero_add]
    simpa using h
  have HB0 : Hid (Below w1.heap.size w1 w1.drew) := (Below.refl _ _).drew
  go_upto_region 2 with fail
  refine wp_region_noPanic ?_
  refine wp_region_held_drew (S := fun V => V.rangeAt w.heap.size 0 (rc r A n c X m d) ∧ (convert 24 9 (.slice B1 k1 j1)).run Try.prog V = .ok (.string ⟨F.toArray⟩) V) (by kernel_rfl) ((HV _).out HB0.out) (fun hHeld => ?_)
  refine wpAnyH_take (i := 0) (oi := { dst := some 12, op := Op.move (Operand.tmp 5), type := 24, pos := "law.go:89", after := #[], guard := none }) (v := ?_) rfl (by kernel_rfl) (by kernel_rfl) (by kernel_rfl) (fun _ _ _ h => h) (Or.inl ⟨by rfl, ?_⟩) (by assumption) ?_
  rotate_left
  · intro w hSw; (try dsimp only at hSw); go_simp <;> with_reducible rfl
  try simp only [Act.put, List.setIfInBounds_toArray, List.set_cons_zero, List.set_cons_succ]
  refine wpAnyH_take (i := 1) (oi := { dst := some 13, op := Op.convert 24 9 (Operand.tmp 12), type := 9, pos := "law.go:89", after := #[{ on := 0, ground := Ground.data }], guard := none }) (v := ?_) rfl (by kernel_rfl) (by kernel_rfl) (by kernel_rfl) (fun _ _ _ h => h) (Or.inl ⟨by rfl, ?_⟩) (by assumption) ?_
  rotate_left
  · intro w hSw; (try dsimp only at hSw); go_simp <;> with_reducible rfl
  try simp only [Act.put, List.setIfInBounds_toArray, List.set_cons_zero, List.set_cons_succ]
  refine wpAnyH_take (i := 2) (oi := { dst := some 14, op := Op.load 44 (Operand.tmp 2), type := 44, pos := "law.go:89", after := #[], guard := none }) (v := .agg (rc r A n c X m d).toArray) rfl (by kernel_rfl) (by kernel_rfl) (by kernel_rfl) (fun _ _ _ h => h) (yieldsIf_load_mid (by rfl) 44 _ rfl w.heap.size (0) rfl (rc r A n c X m d) _ (fun V hV => hV.1) Try.underlying44 rfl s44) (by assumption) ?_
  try simp only [Act.put, List.setIfInBounds_toArray, List.set_cons_zero, List.set_cons_succ]
  refine wpAnyH_ready (rs := [3]) (by kernel_rfl) (by simp) ?_
  refine AllReadyH.cons (o := { dst := some 15, op := Op.call { callee := Callee.value (Operand.func 26), args := #[Operand.tmp 14], argTypes := #[44] }, type := 9, pos := "law.go:89", after := #[{ on := 2, ground := Ground.data }], guard := none }) rfl (fun K hK => ?_) AllReadyH.nil
  go_simp
  go_at_call 26
  refine ((hrs _).out (HB1.out.trans (HB0.out.mono (by omega)))).mono ?_
  rintro e w2 ⟨rfl, hb2⟩
  have HB2 := Lib.hid (HB0.out.trans (hb2.mono HB0.out.size))
  clear hb2
  go_wp2_with fail
  refine hK.out _ _ ((HV _).out HB2.out) (fun hHeld => ?_)
  clear hK K
  refine wpAnyH_take (i := 4) (oi := { dst := some 16, op := Op.binOp BinOp.neq 9 (Operand.tmp 13) (Operand.tmp 15) 9, type := 4, pos := "law.go:89", after := #[{ on := 1, ground := Ground.data }, { on := 3, ground := Ground.data }], guard := none }) (v := ?_) rfl (by kernel_rfl) (by kernel_rfl) (by kernel_rfl) (fun _ _ _ h => h) (Or.inl ⟨by rfl, ?_⟩) (by assumption) ?_
  rotate_left
  · intro w hSw; (try dsimp only at hSw); go_simp <;> with_reducible rfl
  try simp only [Act.put, List.setIfInBounds_toArray, List.set_cons_zero, List.set_cons_succ]
  refine wpAnyH_done (by kernel_rfl) ?_ _
  refine NoPanic.normal ?_
  have HB2' := Lib.hid (HB1.out.trans (HB2.out.mono (by omega)))
  have A2 := Lib.hid ((HB2.out.block _ hz1).trans A1.out)
  have D2 := Lib.hid ((D1'.out.below HB2.out).more HB2.out.size)
  have hz2 : w.heap.size < w2.heap.size := Nat.lt_of_lt_of_le hz1 HB2.out.size
  clear HV hrs A1 D1' hz1 HB0 HB1 HB2 hHeld
  go_wp2_with (first | (refine wpList_load_row rfl 44 _ rfl w.heap.size rfl _ _ _ A2.out _ Try.underlying44 rfl s44 ?_) | fail)
  refine (refRight_any r A X n c m d _ _ hnn (HS.out.below HB2'.out) HB2'.out.size).mono ?_
  rintro e w3 ⟨rfl, hb3⟩
  have HB3 := Lib.hid (HB2'.out.trans (hb3.mono HB2'.out.size))
  have A3 := Lib.hid ((hb3.block _ hz2).trans A2.out)
  have D3 := Lib.hid ((D2.out.below hb3).more hb3.size)
  have hz3 : w.heap.size < w3.heap.size := Nat.lt_of_lt_of_le hz2 hb3.size
  clear hb3 A2 D2 hz2 HB2'
  by_cases hg : r.Good
  case neg =>
    rw [decide_eq_false hg]
    clear hg
    go_wp2_with fail
    refine (H.lng A' n' c' _ l _ (HL.out.below HB3.out) HB3.out.size hn).mono ?_
    rintro e w7 ⟨hb7, X7⟩
    have HB7 := Lib.hid (HB3.out.trans (hb7.mono HB3.out.size))
    clear hb7
    obtain ⟨x, hx, hxs, hxl, A7, n7, c7, Y7, m7, d7, hB7, hS7, rfl⟩ | ⟨_, rfl⟩ := X7
    · skip
      have HX := Lib.hid hx
      have h28 : n' = 28 := by
        rw [← hnl, hxl]
        show (nums (x.e :: x.st)).length = 28
        rw [nums_length]
        rfl
      subst h28
      obtain ⟨b0, bb, bz⟩ := box1 w7 (Obj.cells (rc x A7 n7 c7 Y7 m7 d7).toArray 44)
      have HB8 := Lib.hid (HB7.out.trans (bb.mono HB7.out.size))
      have B8 := Lib.hid b0
      have S8 := Lib.hid ((hS7.below bb).more (B' := (w7.alloc (Obj.cells (rc x A7 n7 c7 Y7 m7 d7).toArray 44)).heap.size) (by omega))
      have hl7 := hB7.len
      have hz8 : w7.heap.size < (w7.alloc (Obj.cells (rc x A7 n7 c7 Y7 m7 d7).toArray 44)).heap.size := by omega
      clear b0 bb bz hx hxs hB7 hS7
      go_upto_region 11 with (first | (refine wpList_store_new rfl 44 _ _ rfl w7 _ (rc x A7 n7 c7 Y7 m7 d7).toArray rfl rfl s44 rfl (all_oneCell_toArray (rc_one _ _ _ _ _ _ _)) ?_) | fail)
      generalize w7.alloc (Obj.cells (rc x A7 n7 c7 Y7 m7 d7).toArray 44) = W8 at *
      have HX8 : ∀ V, Hid (Below W8.heap.size W8 V → V.rangeAt w7.heap.size 0 (rc x A7 n7 c7 Y7 m7 d7) ∧ (convert 24 9 (.slice A' 28 c')).run Try.prog V = .ok (.string ⟨l.toArray⟩) V) := fun V hV => by
        refine ⟨range_of ((hV.block _ hz8).trans B8.out) 0 (rc x A7 n7 c7 Y7 m7 d7) (fun j u h => ?_), (HL.out.below (HB8.out.trans (hV.mono HB8.out.size))).str V (fun _ _ => rfl)⟩
        rw [Nat.zero_add]
        simpa using h
      have HB80 : Hid (Below W8.heap.size W8 W8.drew) := (Below.refl _ _).drew
      have hrs : ∀ (V : World), Hid (Below W8.heap.size W8 V → Calls Try.prog 26 #[.agg (rc x A7 n7 c7 Y7 m7 d7).toArray] V fun e w' => e = .returned (.string ⟨l.toArray⟩) ∧ Below V.heap.size V w') := fun V hV => by
        rw [show l = (if x.Good then x.short else []) by rw [if_pos HX.out]; exact hxl]
        exact refShort_any x A7 Y7 n7 c7 m7 d7 _ V hl7 (S8.out.below hV) hV.size
      have HLX := Lib.hid hxl
      clear hxl
      refine wp_region_noPanic ?_
      refine wp_region_held_drew (S := fun V => V.rangeAt w7.heap.size 0 (rc x A7 n7 c7 Y7 m7 d7) ∧ (convert 24 9 (.slice A' 28 c')).run Try.prog V = .ok (.string ⟨l.toArray⟩) V) (by kernel_rfl) ((HX8 _).out HB80.out) (fun hHeld => ?_)
      refine wpAnyH_ready (rs := [0]) (by kernel_rfl) (by simp) ?_
      refine AllReadyH.cons (o := { dst := some 53, op := Op.call { callee := Callee.value (Operand.func 12), args := #[], argTypes := #[] }, type := 4, pos := "law.go:102", after := #[], guard := none }) rfl (fun K hK => ?_) AllReadyH.nil
      go_simp
      go_at_call 12
      refine (awake_any H _).mono ?_
      rintro e w9 ⟨rfl, hb9⟩
      have HB9 := Lib.hid (HB80.out.trans (hb9.mono HB80.out.size))
      clear hb9
      go_wp2_with fail
      refine hK.out _ _ ((HX8 _).out HB9.out) (fun hHeld => ?_)
      clear hK K
      refine wpAnyH_take (i := 1) (oi := { dst := some 54, op := Op.move (Operand.tmp 53), type := 4, pos := "law.go:102", after := #[{ on := 0, ground := Ground.data }, { on := 0, ground := Ground.chain }], guard := none }) (v := ?_) rfl (by kernel_rfl) (by kernel_rfl) (by kernel_rfl) (fun _ _ _ h => h) (Or.inl ⟨by rfl, ?_⟩) (by assumption) ?_
      rotate_left
      · intro w hSw; (try dsimp only at hSw); go_simp <;> with_reducible rfl
      try simp only [Act.put, List.setIfInBounds_toArray, List.set_cons_zero, List.set_cons_succ]
      refine wpAnyH_take (i := 2) (oi := { dst := some 55, op := Op.move (Operand.tmp 1), type := 24, pos := "law.go:102", after := #[{ on := 1, ground := Ground.guard }], guard := some (1, true) }) (v := ?_) rfl (by kernel_rfl) (by kernel_rfl) (by kernel_rfl) (fun _ _ _ h => h) (Or.inl ⟨by rfl, ?_⟩) (by assumption) ?_
      rotate_left
      · intro w hSw; (try dsimp only at hSw); go_simp <;> with_reducible rfl
      try simp only [Act.put, List.setIfInBounds_toArray, List.set_cons_zero, List.set_cons_succ]
      refine wpAnyH_take (i := 3) (oi := { dst := some 56, op := Op.call { callee := Callee.builtin Builtin.len, args := #[Operand.tmp 55], argTypes := #[24] }, type := 3, pos := "law.go:102", after := #[{ on := 2, ground := Ground.data }, { on := 1, ground := Ground.guard }], guard := some (1, true) }) (v := ?_) rfl (by kernel_rfl) (by kernel_rfl) (by kernel_rfl) (fun _ _ _ h => h) (Or.inl ⟨by rfl, ?_⟩) (by assumption) ?_
      rotate_left
      · intro w hSw; (try dsimp only at hSw); go_simp <;> with_reducible rfl
      try simp only [Act.put, List.setIfInBounds_toArray, List.set_cons_zero, List.set_cons_succ]
      refine wpAnyH_take (i := 4) (oi := { dst := some 57, op := Op.binOp BinOp.eql 3 (Operand.tmp 56) (Operand.const (Value.int IntKind.i64 28)) 3, type := 4, pos := "law.go:102", after := #[{ on := 3, ground := Ground.data }, { on := 1, ground := Ground.guard }], guard := some (1, true) }) (v := ?_) rfl (by kernel_rfl) (by kernel_rfl) (by kernel_rfl) (fun _ _ _ h => h) (Or.inl ⟨by rfl, ?_⟩) (by assumption) ?_
      rotate_left
      · intro w hSw; (try dsimp only at hSw); go_simp <;> with_reducible rfl
      try simp only [Act.put, List.setIfInBounds_toArray, List.set_cons_zero, List.set_cons_succ]
      refine wpAnyH_take (i := 5) (oi := { dst := some 58, op := Op.pick (Operand.tmp 54) (Operand.tmp 57) (Operand.const (Value.bool false)), type := 4, pos := "law.go:102", after := #[{ on := 1, ground := Ground.data }, { on := 4, ground := Ground.data }], guard := none }) (v := ?_) rfl (by kernel_rfl) (by kernel_rfl) (by kernel_rfl) (fun _ _ _ h => h) (Or.inl ⟨by rfl, ?_⟩) (by assumption) ?_
      rotate_left
      · intro w hSw; (try dsimp only at hSw); go_simp <;> with_reducible rfl
      try simp only [Act.put, List.setIfInBounds_toArray, List.set_cons_zero, List.set_cons_succ]
      refine wpAnyH_take (i := 6) (oi := { dst := some 59, op := Op.move (Operand.tmp 58), type := 4, pos := "law.go:102", after := #[{ on := 5, ground := Ground.data }, { on := 1, ground := Ground.chain }], guard := none }) (v := ?_) rfl (by kernel_rfl) (by kernel_rfl) (by kernel_rfl) (fun _ _ _ h => h) (Or.inl ⟨by rfl, ?_⟩) (by assumption) ?_
      rotate_left
      · intro w hSw; (try dsimp only at hSw); go_simp <;> with_reducible rfl
      try simp only [Act.put, List.setIfInBounds_toArray, List.set_cons_zero, List.set_cons_succ]
      refine wpAnyH_take (i := 7) (oi := { dst := some 60, op := Op.load 44 (Operand.tmp 8), type := 44, pos := "law.go:102", after := #[{ on := 6, ground := Ground.guard }], guard := some (6, true) }) (v := .agg (rc x A7 n7 c7 Y7 m7 d7).toArray) rfl (by kernel_rfl) (by kernel_rfl) (by kernel_rfl) (fun _ _ _ h => h) (yieldsIf_load_mid (by rfl) 44 _ rfl w7.heap.size (0) rfl (rc x A7 n7 c7 Y7 m7 d7) _ (fun V hV => hV.1) Try.underlying44 rfl s44) (by assumption) ?_
      try simp only [Act.put, List.setIfInBounds_toArray, List.set_cons_zero, List.set_cons_succ]
      refine wpAnyH_take (i := 9) (oi := { dst := some 62, op := Op.move (Operand.tmp 1), type := 24, pos := "law.go:102", after := #[{ on := 6, ground := Ground.guard }], guard := some (6, true) }) (v := ?_) rfl (by kernel_rfl) (by kernel_rfl) (by kernel_rfl) (fun _ _ _ h => h) (Or.inl ⟨by rfl, ?_⟩) (by assumption) ?_
      rotate_left
      · intro w hSw; (try dsimp only at hSw); go_simp <;> with_reducible rfl
      try simp only [Act.put, List.setIfInBounds_toArray, List.set_cons_zero, List.set_cons_succ]
      refine wpAnyH_take (i := 10) (oi := { dst := some 63, op := Op.convert 24 9 (Operand.tmp 62), type := 9, pos := "law.go:102", after := #[{ on := 9, ground := Ground.data }, { on := 6, ground := Ground.guard }], guard := some (6, true) }) (v := ?_) rfl (by kernel_rfl) (by kernel_rfl) (by kernel_rfl) (fun _ _ _ h => h) (Or.inl ⟨by rfl, ?_⟩) (by assumption) ?_
      rotate_left
      · intro w hSw; (try dsimp only at hSw); go_simp <;> with_reducible rfl
      try simp only [Act.put, List.setIfInBounds_toArray, List.set_cons_zero, List.set_cons_succ]
      refine wpAnyH_ready (rs := [8]) (by kernel_rfl) (by simp) ?_
      refine AllReadyH.cons (o := { dst := some 61, op := Op.call { callee := Callee.value (Operand.func 26), args := #[Operand.tmp 60], argTypes := #[44] }, type := 9, pos := "law.go:102", after := #[{ on := 7, ground := Ground.data }, { on := 6, ground := Ground.chain }, { on := 6, ground := Ground.guard }], guard := some (6, true) }) rfl (fun K hK => ?_) AllReadyH.nil
      go_simp
      go_at_call 26
      refine ((hrs _).out HB9.out).mono ?_
      rintro e w10 ⟨rfl, hb10⟩
      have HB10 := Lib.hid (HB9.out.trans (hb10.mono HB9.out.size))
      clear hb10
      go_wp2_with fail
      refine hK.out _ _ ((HX8 _).out HB10.out) (fun hHeld => ?_)
      clear hK K
      refine wpAnyH_take (i := 11) (oi := { dst := some 64, op := Op.binOp BinOp.eql 9 (Operand.tmp 61) (Operand.tmp 63) 9, type := 4, pos := "law.go:102", after := #[{ on := 8, ground := Ground.data }, { on := 10, ground := Ground.data }, { on := 6, ground := Ground.guard }], guard := some (6, true) }) (v := ?_) rfl (by kernel_rfl) (by kernel_rfl) (by kernel_rfl) (fun _ _ _ h => h) (Or.inl ⟨by rfl, ?_⟩) (by assumption) ?_
      rotate_left
      · intro w hSw; (try dsimp only at hSw); go_simp <;> with_reducible rfl
      try simp only [Act.put, List.setIfInBounds_toArray, List.set_cons_zero, List.set_cons_succ]
      refine wpAnyH_take (i := 12) (oi := { dst := some 65, op := Op.pick (Operand.tmp 59) (Operand.tmp 64) (Operand.const (Value.bool false)), type := 4, pos := "law.go:102", after := #[{ on := 6, ground := Ground.data }, { on := 11, ground := Ground.data }], guard := none }) (v := ?_) rfl (by kernel_rfl) (by kernel_rfl) (by kernel_rfl) (fun _ _ _ h => h) (Or.inl ⟨by rfl, ?_⟩) (by assumption) ?_
      rotate_left
      · intro w hSw; (try dsimp only at hSw); go_simp <;> with_reducible rfl
      try simp only [Act.put, List.setIfInBounds_toArray, List.set_cons_zero, List.set_cons_succ]
      refine wpAnyH_take (i := 13) (oi := { dst := some 4, op := Op.assign (Operand.tmp 65), type := 4, pos := "law.go:102", after := #[{ on := 12, ground := Ground.data }, { on := 8, ground := Ground.chain }, { on := 0, ground := Ground.phase }, { on := 1, ground := Ground.phase }, { on := 2, ground := Ground.phase }, { on := 3, ground := Ground.phase }, { on := 4, ground := Ground.phase }, { on := 5, ground := Ground.phase }, { on := 6, ground := Ground.phase }, { on := 7, ground := Ground.phase }, { on := 8, ground := Ground.phase }, { on := 9, ground := Ground.phase }, { on := 10, ground := Ground.phase }, { on := 11, ground := Ground.phase }, { on := 12, ground := Ground.phase }], guard := none }) (v := ?_) rfl (by kernel_rfl) (by kernel_rfl) (by kernel_rfl) (fun _ _ _ h => h) (Or.inl ⟨by rfl, ?_⟩) (by assumption) ?_
      rotate_left
      · intro w hSw; (try dsimp only at hSw); go_simp <;> with_reducible rfl
      try simp only [Act.put, List.setIfInBounds_toArray, List.set_cons_zero, List.set_cons_succ]
      refine wpAnyH_done (by kernel_rfl) ?_ _
      refine NoPanic.normal ?_
      go_wp2_with fail
      go_ret
      exact ⟨rfl, HB8.out.trans (HB10.out.mono HB8.out.size)⟩
    · skip
      obtain ⟨b0, bb, bz⟩ := box1 w7 (Obj.cells (rc zeroR none 0 0 none 0 0).toArray 44)
      have HB8 := Lib.hid (HB7.out.trans (bb.mono HB7.out.size))
      have B8 := Lib.hid b0
      clear b0 bb bz
      go_wp2_with (first | (refine wpList_store_new rfl 44 _ _ rfl w7 _ (rc zeroR none 0 0 none 0 0).toArray rfl rfl s44 rfl (all_oneCell_toArray (rc_one _ _ _ _ _ _ _)) ?_) | fail)
      refine (awake_any H _).mono ?_
      rintro e w9 ⟨rfl, hb9⟩
      have HB9 := Lib.hid (HB8.out.trans (hb9.mono HB8.out.size))
      have B9 : Hid (w9.heap[w7.heap.size]? = some (.cells (rc zeroR none 0 0 none 0 0).toArray 44 (0, 0))) := (hb9.block _ (by simp)).trans B8.out
      clear hb9
      go_wp2_with (first | (refine wpList_load_row rfl 44 _ rfl w7.heap.size rfl _ _ _ B9.out _ Try.underlying44 rfl s44 ?_) | fail)
      refine (refAlike_eq zeroR none none none none 0 0 0 0 0 0 0 0 0 w9 (Bts.nil_ _ _) (Bts.nil_ _ _) (Strs.nil_ _ _) (Strs.nil_ _ _) (by omega) (Nat.zero_le _)).mono ?_
      rintro e w10 ⟨rfl, hb10⟩
      have HB10 := Lib.hid (HB9.out.trans (hb10.mono HB9.out.size))
      clear hb10
      go_wp2_with fail
      go_ret
      exact ⟨rfl, HB10.out⟩
  rw [decide_eq_true hg]
  have HG := Lib.hid hg
  rw [if_pos hg] at HF
  obtain rfl : r.short = F := HF.out
  clear hg HF
  have hl1 : k1 ≤ 281474976700000 := by rw [← hk1]; show (nums (r.e :: r.st)).length ≤ _; rw [nums_length]; show 4 * 7 ≤ _; omega
  go_wp2_with fail
  refine (H.lng B1 k1 j1 _ r.short _ D3.out (Nat.le_refl _) hl1).mono ?_
  rintro e w4 ⟨hb4, ⟨x, hx, hxs, hxl, A4, n4, c4, Y4, m4, d4, hB4, hS4, rfl⟩ | ⟨hn4, _⟩⟩
  case inr => exact absurd rfl (hn4 r HG.out)
  obtain rfl : x = r.of_short := of_short_of HG.out hx hxs hxl
  have HB4 := Lib.hid (HB3.out.trans (hb4.mono HB3.out.size))
  have A4b := Lib.hid ((hb4.block _ hz3).trans A3.out)
  have hz4 : w.heap.size < w4.heap.size := Nat.lt_of_lt_of_le hz3 hb4.size
  obtain ⟨b0, bb, bz⟩ := box1 w4 (Obj.cells (rc r.of_short A4 n4 c4 Y4 m4 d4).toArray 44)
  have HB5 := Lib.hid (HB4.out.trans (bb.mono HB4.out.size))
  have B5 := Lib.hid b0
  have A5 := Lib.hid ((bb.block _ hz4).trans A4b.out)
  have D5 := Lib.hid ((hB4.below bb).more (B' := (w4.alloc (Obj.cells (rc r.of_short A4 n4 c4 Y4 m4 d4).toArray 44)).heap.size) (by omega))
  have S5 := Lib.hid ((hS4.below bb).more (B' := (w4.alloc (Obj.cells (rc r.of_short A4 n4 c4 Y4 m4 d4).toArray 44)).heap.size) (by omega))
  have hm4 : m4 ≤ 1099511627776 := by have := hS4.len; rw [← this]; show ([] : List (List UInt8)).length ≤ _; simp
  obtain ⟨_, _, _, f3, _⟩ := rc_cells A5.out
  have HR5 := Lib.hid (range_of A5.out 4 [.int .i64 r.nd, .int .i64 r.gn, .int .i64 r.k, .int .i64 r.lk, .int .i64 r.sz, .int .i64 r.ch] (fun j u h => by
    match j, h with
    | 0, h | 1, h | 2, h | 3, h | 4, h | 5, h => exact h))
  clear b0 bb bz hb4 hx hxs hxl hB4 hS4 A3 hz3 A4b hz4 D3 hl1 HB4
  go_wp2_with (first | (refine wpList_store_new rfl 44 _ _ rfl w4 _ (rc r.of_short A4 n4 c4 Y4 m4 d4).toArray rfl rfl s44 rfl (all_oneCell_toArray (rc_one _ _ _ _ _ _ _)) ?_) | (refine wpList_load_row rfl 44 _ rfl w4.heap.size rfl _ _ _ B5.out _ Try.underlying44 rfl s44 ?_) | (refine wpList_load_part rfl 41 _ rfl w.heap.size 4 rfl _ HR5.out _ und41 rfl s41 ?_) | fail)
  refine (refAlike_eq r.of_short A4 none Y4 none n4 c4 0 0 m4 d4 0 0 _ _ D5.out (Bts.nil_ _ _) S5.out (Strs.nil_ _ _) hm4 (Nat.le_refl _)).mono ?_
  rintro e w6 ⟨rfl, hb6⟩
  have HB6 := Lib.hid (HB5.out.trans (hb6.mono HB5.out.size))
  clear hb6 B5 A5 D5 S5 hm4 f3 HR5 HB5
  go_wp2_with fail
  refine (H.lng A' n' c' _ l _ (HL.out.below HB6.out) HB6.out.size hn).mono ?_
  rintro e w7 ⟨hb7, X7⟩
  have HB7 := Lib.hid (HB6.out.trans (hb7.mono HB6.out.size))
  clear hb7
  obtain ⟨x, hx, hxs, hxl, A7, n7, c7, Y7, m7, d7, hB7, hS7, rfl⟩ | ⟨_, rfl⟩ := X7
  · skip
    have HX := Lib.hid hx
    have h28 : n' = 28 := by
      rw [← hnl, hxl]
      show (nums (x.e :: x.st)).length = 28
      rw [nums_length]
      rfl
    subst h28
    obtain ⟨b0, bb, bz⟩ := box1 w7 (Obj.cells (rc x A7 n7 c7 Y7 m7 d7).toArray 44)
    have HB8 := Lib.hid (HB7.out.trans (bb.mono HB7.out.size))
    have B8 := Lib.hid b0
    have S8 := Lib.hid ((hS7.below bb).more (B' := (w7.alloc (Obj.cells (rc x A7 n7 c7 Y7 m7 d7).toArray 44)).heap.size) (by omega))
    have hl7 := hB7.len
    have hz8 : w7.heap.size < (w7.alloc (Obj.cells (rc x A7 n7 c7 Y7 m7 d7).toArray 44)).heap.size := by omega
    clear b0 bb bz hx hxs hB7 hS7
    go_upto_region 11 with (first | (refine wpList_store_new rfl 44 _ _ rfl w7 _ (rc x A7 n7 c7 Y7 m7 d7).toArray rfl rfl s44 rfl (all_oneCell_toArray (rc_one _ _ _ _ _ _ _)) ?_) | fail)
    generalize w7.alloc (Obj.cells (rc x A7 n7 c7 Y7 m7 d7).toArray 44) = W8 at *
    have HX8 : ∀ V, Hid (Below W8.heap.size W8 V → V.rangeAt w7.heap.size 0 (rc x A7 n7 c7 Y7 m7 d7) ∧ (convert 24 9 (.slice A' 28 c')).run Try.prog V = .ok (.string ⟨l.toArray⟩) V) := fun V hV => by
      refine ⟨range_of ((hV.block _ hz8).trans B8.out) 0 (rc x A7 n7 c7 Y7 m7 d7) (fun j u h => ?_), (HL.out.below (HB8.out.trans (hV.mono HB8.out.size))).str V (fun _ _ => rfl)⟩
      rw [Nat.zero_add]
      simpa using h
    have HB80 : Hid (Below W8.heap.size W8 W8.drew) := (Below.refl _ _).drew
    have hrs : ∀ (V : World), Hid (Below W8.heap.size W8 V → Calls Try.prog 26 #[.agg (rc x A7 n7 c7 Y7 m7 d7).toArray] V fun e w' => e = .returned (.string ⟨l.toArray⟩) ∧ Below V.heap.size V w') := fun V hV => by
      rw [show l = (if x.Good then x.short else []) by rw [if_pos HX.out]; exact hxl]
      exact refShort_any x A7 Y7 n7 c7 m7 d7 _ V hl7 (S8.out.below hV) hV.size
    have HLX := Lib.hid hxl
    clear hxl
    refine wp_region_noPanic ?_
    refine wp_region_held_drew (S := fun V => V.rangeAt w7.heap.size 0 (rc x A7 n7 c7 Y7 m7 d7) ∧ (convert 24 9 (.slice A' 28 c')).run Try.prog V = .ok (.string ⟨l.toArray⟩) V) (by kernel_rfl) ((HX8 _).out HB80.out) (fun hHeld => ?_)
    refine wpAnyH_ready (rs := [0]) (by kernel_rfl) (by simp) ?_
    refine AllReadyH.cons (o := { dst := some 53, op := Op.call { callee := Callee.value (Operand.func 12), args := #[], argTypes := #[] }, type := 4, pos := "law.go:102", after := #[], guard := none }) rfl (fun K hK => ?_) AllReadyH.nil
    go_simp
    go_at_call 12
    refine (awake_any H _).mono ?_
    rintro e w9 ⟨rfl, hb9⟩
    have HB9 := Lib.hid (HB80.out.trans (hb9.mono HB80.out.size))
    clear hb9
    go_wp2_with fail
    refine hK.out _ _ ((HX8 _).out HB9.out) (fun hHeld => ?_)
    clear hK K
    refine wpAnyH_take (i := 1) (oi := { dst := some 54, op := Op.move (Operand.tmp 53), type := 4, pos := "law.go:102", after := #[{ on := 0, ground := Ground.data }, { on := 0, ground := Ground.chain }], guard := none }) (v := ?_) rfl (by kernel_rfl) (by kernel_rfl) (by kernel_rfl) (fun _ _ _ h => h) (Or.inl ⟨by rfl, ?_⟩) (by assumption) ?_
    rotate_left
    · intro w hSw; (try dsimp only at hSw); go_simp <;> with_reducible rfl
    try simp only [Act.put, List.setIfInBounds_toArray, List.set_cons_zero, List.set_cons_succ]
    refine wpAnyH_take (i := 2) (oi := { dst := some 55, op := Op.move (Operand.tmp 1), type := 24, pos := "law.go:102", after := #[{ on := 1, ground := Ground.guard }], guard := some (1, true) }) (v := ?_) rfl (by kernel_rfl) (by kernel_rfl) (by kernel_rfl) (fun _ _ _ h => h) (Or.inl ⟨by rfl, ?_⟩) (by assumption) ?_
    rotate_left
    · intro w hSw; (try dsimp only at hSw); go_simp <;> with_reducible rfl
    try simp only [Act.put, List.setIfInBounds_toArray, List.set_cons_zero, List.set_cons_succ]
    refine wpAnyH_take (i := 3) (oi := { dst := some 56, op := Op.call { callee := Callee.builtin Builtin.len, args := #[Operand.tmp 55], argTypes := #[24] }, type := 3, pos := "law.go:102", after := #[{ on := 2, ground := Ground.data }, { on := 1, ground := Ground.guard }], guard := some (1, true) }) (v := ?_) rfl (by kernel_rfl) (by kernel_rfl) (by kernel_rfl) (fun _ _ _ h => h) (Or.inl ⟨by rfl, ?_⟩) (by assumption) ?_
    rotate_left
    · intro w hSw; (try dsimp only at hSw); go_simp <;> with_reducible rfl
    try simp only [Act.put, List.setIfInBounds_toArray, List.set_cons_zero, List.set_cons_succ]
    refine wpAnyH_take (i := 4) (oi := { dst := some 57, op := Op.binOp BinOp.eql 3 (Operand.tmp 56) (Operand.const (Value.int IntKind.i64 28)) 3, type := 4, pos := "law.go:102", after := #[{ on := 3, ground := Ground.data }, { on := 1, ground := Ground.guard }], guard := some (1, true) }) (v := ?_) rfl (by kernel_rfl) (by kernel_rfl) (by kernel_rfl) (fun _ _ _ h => h) (Or.inl ⟨by rfl, ?_⟩) (by assumption) ?_
    rotate_left
    · intro w hSw; (try dsimp only at hSw); go_simp <;> with_reducible rfl
    try simp only [Act.put, List.setIfInBounds_toArray, List.set_cons_zero, List.set_cons_succ]
    refine wpAnyH_take (i := 5) (oi := { dst := some 58, op := Op.pick (Operand.tmp 54) (Operand.tmp 57) (Operand.const (Value.bool false)), type := 4, pos := "law.go:102", after := #[{ on := 1, ground := Ground.data }, { on := 4, ground := Ground.data }], guard := none }) (v := ?_) rfl (by kernel_rfl) (by kernel_rfl) (by kernel_rfl) (fun _ _ _ h => h) (Or.inl ⟨by rfl, ?_⟩) (by assumption) ?_
    rotate_left
    · intro w hSw; (try dsimp only at hSw); go_simp <;> with_reducible rfl
    try simp only [Act.put, List.setIfInBounds_toArray, List.set_cons_zero, List.set_cons_succ]
    refine wpAnyH_take (i := 6) (oi := { dst := some 59, op := Op.move (Operand.tmp 58), type := 4, pos := "law.go:102", after := #[{ on := 5, ground := Ground.data }, { on := 1, ground := Ground.chain }], guard := none }) (v := ?_) rfl (by kernel_rfl) (by kernel_rfl) (by kernel_rfl) (fun _ _ _ h => h) (Or.inl ⟨by rfl, ?_⟩) (by assumption) ?_
    rotate_left
    · intro w hSw; (try dsimp only at hSw); go_simp <;> with_reducible rfl
    try simp only [Act.put, List.setIfInBounds_toArray, List.set_cons_zero, List.set_cons_succ]
    refine wpAnyH_take (i := 7) (oi := { dst := some 60, op := Op.load 44 (Operand.tmp 8), type := 44, pos := "law.go:102", after := #[{ on := 6, ground := Ground.guard }], guard := some (6, true) }) (v := .agg (rc x A7 n7 c7 Y7 m7 d7).toArray) rfl (by kernel_rfl) (by kernel_rfl) (by kernel_rfl) (fun _ _ _ h => h) (yieldsIf_load_mid (by rfl) 44 _ rfl w7.heap.size (0) rfl (rc x A7 n7 c7 Y7 m7 d7) _ (fun V hV => hV.1) Try.underlying44 rfl s44) (by assumption) ?_
    try simp only [Act.put, List.setIfInBounds_toArray, List.set_cons_zero, List.set_cons_succ]
    refine wpAnyH_take (i := 9) (oi := { dst := some 62, op := Op.move (Operand.tmp 1), type := 24, pos := "law.go:102", after := #[{ on := 6, ground := Ground.guard }], guard := some (6, true) }) (v := ?_) rfl (by kernel_rfl) (by kernel_rfl) (by kernel_rfl) (fun _ _ _ h => h) (Or.inl ⟨by rfl, ?_⟩) (by assumption) ?_
    rotate_left
    · intro w hSw; (try dsimp only at hSw); go_simp <;> with_reducible rfl
    try simp only [Act.put, List.setIfInBounds_toArray, List.set_cons_zero, List.set_cons_succ]
    refine wpAnyH_take (i := 10) (oi := { dst := some 63, op := Op.convert 24 9 (Operand.tmp 62), type := 9, pos := "law.go:102", after := #[{ on := 9, ground := Ground.data }, { on := 6, ground := Ground.guard }], guard := some (6, true) }) (v := ?_) rfl (by kernel_rfl) (by kernel_rfl) (by kernel_rfl) (fun _ _ _ h => h) (Or.inl ⟨by rfl, ?_⟩) (by assumption) ?_
    rotate_left
    · intro w hSw; (try dsimp only at hSw); go_simp <;> with_reducible rfl
    try simp only [Act.put, List.setIfInBounds_toArray, List.set_cons_zero, List.set_cons_succ]
    refine wpAnyH_ready (rs := [8]) (by kernel_rfl) (by simp) ?_
    refine AllReadyH.cons (o := { dst := some 61, op := Op.call { callee := Callee.value (Operand.func 26), args := #[Operand.tmp 60], argTypes := #[44] }, type := 9, pos := "law.go:102", after := #[{ on := 7, ground := Ground.data }, { on := 6, ground := Ground.chain }, { on := 6, ground := Ground.guard }], guard := some (6, true) }) rfl (fun K hK => ?_) AllReadyH.nil
    go_simp
    go_at_call 26
    refine ((hrs _).out HB9.out).mono ?_
    rintro e w10 ⟨rfl, hb10⟩
    have HB10 := Lib.hid (HB9.out.trans (hb10.mono HB9.out.size))
    clear hb10
    go_wp2_with fail
    refine hK.out _ _ ((HX8 _).out HB10.out) (fun hHeld => ?_)
    clear hK K
    refine wpAnyH_take (i := 11) (oi := { dst := some 64, op := Op.binOp BinOp.eql 9 (Operand.tmp 61) (Operand.tmp 63) 9, type := 4, pos := "law.go:102", after := #[{ on := 8, ground := Ground.data }, { on := 10, ground := Ground.data }, { on := 6, ground := Ground.guard }], guard := some (6, true) }) (v := ?_) rfl (by kernel_rfl) (by kernel_rfl) (by kernel_rfl) (fun _ _ _ h => h) (Or.inl ⟨by rfl, ?_⟩) (by assumption) ?_
    rotate_left
    · intro w hSw; (try dsimp only at hSw); go_simp <;> with_reducible rfl
    try simp only [Act.put, List.setIfInBounds_toArray, List.set_cons_zero, List.set_cons_succ]
    refine wpAnyH_take (i := 12) (oi := { dst := some 65, op := Op.pick (Operand.tmp 59) (Operand.tmp 64) (Operand.const (Value.bool false)), type := 4, pos := "law.go:102", after := #[{ on := 6, ground := Ground.data }, { on := 11, ground := Ground.data }], guard := none }) (v := ?_) rfl (by kernel_rfl) (by kernel_rfl) (by kernel_rfl) (fun _ _ _ h => h) (Or.inl ⟨by rfl, ?_⟩) (by assumption) ?_
    rotate_left
    · intro w hSw; (try dsimp only at hSw); go_simp <;> with_reducible rfl
    try simp only [Act.put, List.setIfInBounds_toArray, List.set_cons_zero, List.set_cons_succ]
    refine wpAnyH_take (i := 13) (oi := { dst := some 4, op := Op.assign (Operand.tmp 65), type := 4, pos := "law.go:102", after := #[{ on := 12, ground := Ground.data }, { on := 8, ground := Ground.chain }, { on := 0, ground := Ground.phase }, { on := 1, ground := Ground.phase }, { on := 2, ground := Ground.phase }, { on := 3, ground := Ground.phase }, { on := 4, ground := Ground.phase }, { on := 5, ground := Ground.phase }, { on := 6, ground := Ground.phase }, { on := 7, ground := Ground.phase }, { on := 8, ground := Ground.phase }, { on := 9, ground := Ground.phase }, { on := 10, ground := Ground.phase }, { on := 11, ground := Ground.phase }, { on := 12, ground := Ground.phase }], guard := none }) (v := ?_) rfl (by kernel_rfl) (by kernel_rfl) (by kernel_rfl) (fun _ _ _ h => h) (Or.inl ⟨by rfl, ?_⟩) (by assumption) ?_
    rotate_left
    · intro w hSw; (try dsimp only at hSw); go_simp <;> with_reducible rfl
    try simp only [Act.put, List.setIfInBounds_toArray, List.set_cons_zero, List.set_cons_succ]
    refine wpAnyH_done (by kernel_rfl) ?_ _
    refine NoPanic.normal ?_
    go_wp2_with fail
    go_ret
    exact ⟨rfl, HB8.out.trans (HB10.out.mono HB8.out.size)⟩
  · skip
    obtain ⟨b0, bb, bz⟩ := box1 w7 (Obj.cells (rc zeroR none 0 0 none 0 0).toArray 44)
    have HB8 := Lib.hid (HB7.out.trans (bb.mono HB7.out.size))
    have B8 := Lib.hid b0
    clear b0 bb bz
    go_wp2_with (first | (refine wpList_store_new rfl 44 _ _ rfl w7 _ (rc zeroR none 0 0 none 0 0).toArray rfl rfl s44 rfl (all_oneCell_toArray (rc_one _ _ _ _ _ _ _)) ?_) | fail)
    refine (awake_any H _).mono ?_
    rintro e w9 ⟨rfl, hb9⟩
    have HB9 := Lib.hid (HB8.out.trans (hb9.mono HB8.out.size))
    have B9 : Hid (w9.heap[w7.heap.size]? = some (.cells (rc zeroR none 0 0 none 0 0).toArray 44 (0, 0))) := (hb9.block _ (by simp)).trans B8.out
    clear hb9
    go_wp2_with (first | (refine wpList_load_row rfl 44 _ rfl w7.heap.size rfl _ _ _ B9.out _ Try.underlying44 rfl s44 ?_) | fail)
    refine (refAlike_eq zeroR none none none none 0 0 0 0 0 0 0 0 0 w9 (Bts.nil_ _ _) (Bts.nil_ _ _) (Strs.nil_ _ _) (Strs.nil_ _ _) (by omega) (Nat.zero_le _)).mono ?_
    rintro e w10 ⟨rfl, hb10⟩
    have HB10 := Lib.hid (HB9.out.trans (hb10.mono HB9.out.size))
    clear hb10
    go_wp2_with fail
    go_ret
    exact ⟨rfl, HB10.out⟩
end Go.Proofs.Ytfignanjelebaaa.verbShorts
