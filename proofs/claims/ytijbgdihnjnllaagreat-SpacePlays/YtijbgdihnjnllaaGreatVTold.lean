/- 'told', walked. -/
import Derived.Test.YtijbgdihnjnllaaGreatVGame
namespace Go.Proofs.YtijbgdihnjnllaaGreat.V
open Go.RowKit
set_option linter.unusedVariables false
set_option maxRecDepth 20000
def sumz (f : Nat → Nat → Nat) : Nat → Nat
  | 0 => 0
  | k + 1 => sumz f k + nzn (f k)
theorem set11 {w : World} {g : Nat} {v0 v1 v2 v3 v4 v5 v6 v7 v8 v9 v10 : Value} (h : w.heap[g]? = some (Obj.cells D.z11 72)) : (((((((((((w.setCell ⟨g, 0, none⟩ v0).setCell ⟨g, 1, none⟩ v1).setCell ⟨g, 2, none⟩ v2).setCell ⟨g, 3, none⟩ v3).setCell ⟨g, 4, none⟩ v4).setCell ⟨g, 5, none⟩ v5).setCell ⟨g, 6, none⟩ v6).setCell ⟨g, 7, none⟩ v7).setCell ⟨g, 8, none⟩ v8).setCell ⟨g, 9, none⟩ v9).setCell ⟨g, 10, none⟩ v10).cell? ⟨g, 3, none⟩ = some v3 := by
  have h0 := F.heap_set h 0 v0
  have h1 := F.heap_set h0 1 v1
  have h2 := F.heap_set h1 2 v2
  have h3 := F.heap_set h2 3 v3
  have h4 := F.heap_set h3 4 v4
  have h5 := F.heap_set h4 5 v5
  have h6 := F.heap_set h5 6 v6
  have h7 := F.heap_set h6 7 v7
  have h8 := F.heap_set h7 8 v8
  have h9 := F.heap_set h8 9 v9
  have h10 := F.heap_set h9 10 v10
  rw [cell_of_row _ g 3 _ 72 _ h10]
  simp [D.z11]
theorem below_drewN {B : Nat} {a w : World} (h : Below B a w) (n : Nat) : Below B a (w.drewN n) := ⟨h.os, h.tape, h.output, h.size, h.block⟩
theorem node_any {w0 w : World} {p d N q i : Nat} {O : List Nat} {s : DS} {X : Secs2} {y : Nat → D.Nn} {f : Nat → Nat → Nat} {C : Nat → Nat → UInt8} {G : Nat → Nat → Bool} (h : Sto w0 w p d O N s X q []) (hf : Fls N (view X []) y f C G) (hi : i < 2) :
    ∃ v0 v1 v2 v3 v4 v5 v6 v7 v8 v9 v10 : Int, v3 = ((y i).s : Int) ∧ ∀ W, Below w.heap.size w W → Calls Tryz.prog 30 #[.pointer (some ⟨p, 0, none⟩), .int .i64 ((2 + i : Nat) : Int)] W fun e w' => e = .returned (.tuple #[.agg #[.int .i64 v0, .int .i64 v1, .int .i64 v2, .int .i64 v3, .int .i64 v4, .int .i64 v5, .int .i64 v6, .int .i64 v7, .int .i64 v8, .int .i64 v9, .int .i64 v10], .int .i64 0]) ∧ Below W.heap.size W w' :=
  ⟨_, _, _, _, _, _, _, _, _, _, _, rfl, fun W hb => (hf.fl i hi).node (h.below hb) (by omega)⟩
set_option maxHeartbeats 4000000 in
theorem told_any {w0 w : World} {b p d q N : Nat} (h : PInv w0 w b p d q N) : Calls Tryz.prog 11 #[.pointer (some ⟨b, 0, none⟩), .int .i64 (N : Int)] w fun e w' => e = .returned (.bool true) ∧ Below w.heap.size w w' := by
  obtain ⟨O, s, X, y, f, C, G, hs, hf, hm, hp⟩ := h
  have HS := Lib.hid hs
  have HF := Lib.hid hf
  have HM := Lib.hid hm
  have hN1 := hs.n1
  have hN0 := hs.n64
  clear hs hf hm hp
  go_enter Tryz.func11, Tryz.ntmps11
  go_wp2_with fail
  go_loopw [5, 6, 7] (fun u v i wr => ∃ k : Nat, k ≤ 2 ∧ i = .int .i64 k ∧ u = .int .i64 (sumz f k : Nat) ∧ ∃ A n c l, v = .slice A n c ∧ Hid (T.Ints wr wr.heap.size A n c l ∧ (k < 2 → ∀ x ∈ l, x ∉ nzl (f k)) ∧ Below w.heap.size w wr)) (fun _ _ i _ => 2 - (intOf i).toNat)
  case atStart => exact ⟨0, by omega, rfl, rfl, _, _, _, [], rfl, ⟨rfl, Nat.le_refl _, by unfold maxLen; omega, fun h => absurd h (by omega)⟩, fun _ x hx => absurd hx (by simp), (Below.refl _ _).alloc (Nat.le_refl _) _⟩
  case round =>
    obtain ⟨k, hk, rfl, rfl, A, n, c, l, rfl, hi, hd, hb⟩ := hrel
    by_cases hlt : k < 2
    · obtain ⟨nd, hnd⟩ : ∃ nd : Int, ((2 + k : Nat) : Int) = nd := ⟨_, rfl⟩
      obtain ⟨v0, v1, v2, v3, v4, v5, v6, v7, v8, v9, v10, hv3, hnode⟩ := node_any (HS.out.below hb) HF.out hlt
      have HND := Lib.hid hnode
      rw [hnd] at HND
      have HI := Lib.hid hi
      have HD := Lib.hid hd
      have HB := Lib.hid hb
      have c0 := (HM.out.keep (hb.block b HM.out.lt)).c0
      have c1 := (HM.out.keep (hb.block b HM.out.lt)).cn hlt
      rw [hnd] at c1
      have HC : Hid (∀ W, Below wr.heap.size wr W → W.cell? ⟨b, 0, none⟩ = some (.pointer (some ⟨p, 0, none⟩)) ∧ W.cell? ⟨b, 1 + k, none⟩ = some (.int .i64 nd)) := fun W hW => ⟨by rw [hW.cell (p := ⟨b, 0, none⟩) (by have := HM.out.lt; have := hb.size; show b < _; omega)]; exact c0, by rw [hW.cell (p := ⟨b, 1 + k, none⟩) (by have := HM.out.lt; have := hb.size; show b < _; omega)]; exact c1⟩
      have HNE := Lib.hid hnd
      have HW0 : Hid (Below wr.heap.size wr wr.drew) := (Below.refl _ _).drew
      have HW1 : Hid (Below wr.heap.size wr (wr.alloc (Obj.cells D.z11 72)).drew) := ((Below.refl _ _).alloc (Nat.le_refl _) _).drew
      clear hi hd hb hnd c0 c1 hnode
      go_upto_region 6 with fail
      go_cut [8, 9] from 17 to 149 (fun s8 s9 wx => ∃ z, s8 = .pointer (some ⟨z, 0, none⟩) ∧ s9 = .int .i64 0 ∧ Hid (Below wr.heap.size wr wx ∧ wx.cell? ⟨z, 3, none⟩ = some (.int .i64 ((y k).s : Int)) ∧ wr.heap.size ≤ z ∧ z < wx.heap.size))
      case first =>
        go_region_held3 (fun W => W.cell? ⟨b, 0, none⟩ = some (.pointer (some ⟨p, 0, none⟩)) ∧ W.cell? ⟨b, 1 + k, none⟩ = some (.int .i64 nd)) (first | with_reducible exact HC.out _ HW0.out | with_reducible exact HC.out _ HW1.out | with_reducible exact HC.out _ HW2.out | with_reducible exact HC.out _ (HW2.out.alloc HW2.out.size _) | with_reducible exact HC.out _ (((((((((((HW2.out.setCell (p := ⟨wr.heap.size, 0, none⟩) (Nat.le_refl _) _).setCell (p := ⟨wr.heap.size, 1, none⟩) (Nat.le_refl _) _).setCell (p := ⟨wr.heap.size, 2, none⟩) (Nat.le_refl _) _).setCell (p := ⟨wr.heap.size, 3, none⟩) (Nat.le_refl _) _).setCell (p := ⟨wr.heap.size, 4, none⟩) (Nat.le_refl _) _).setCell (p := ⟨wr.heap.size, 5, none⟩) (Nat.le_refl _) _).setCell (p := ⟨wr.heap.size, 6, none⟩) (Nat.le_refl _) _).setCell (p := ⟨wr.heap.size, 7, none⟩) (Nat.le_refl _) _).setCell (p := ⟨wr.heap.size, 8, none⟩) (Nat.le_refl _) _).setCell (p := ⟨wr.heap.size, 9, none⟩) (Nat.le_refl _) _).setCell (p := ⟨wr.heap.size, 10, none⟩) (Nat.le_refl _) _))
          (first
          | (go_at_call 30; (with_reducible refine (HND.out _ HW0.out).mono ?_); rintro e w2 ⟨rfl, hb2⟩; have HW2 := Lib.hid (HW0.out.trans (hb2.mono HW0.out.size)); have HW3 : Hid (Below wr.heap.size wr (w2.alloc (Obj.cells D.z11 72))) := HW2.out.alloc HW2.out.size _; clear hb2)
          | (go_at_call 30; (with_reducible refine (HND.out _ HW1.out).mono ?_); rintro e w2 ⟨rfl, hb2⟩; have HW2 := Lib.hid (HW1.out.trans (hb2.mono HW1.out.size)); have hz : w2.heap[wr.heap.size]? = some (Obj.cells D.z11 72) := (hb2.block wr.heap.size (by simp [World.drew])).trans (D.box1 wr (Obj.cells D.z11 72)).1; have z0 : w2.cell? ⟨wr.heap.size, 0, none⟩ = some (.int .i64 0) := (cell_of_row w2 wr.heap.size 0 _ 72 _ hz).trans rfl; have z1 : w2.cell? ⟨wr.heap.size, 1, none⟩ = some (.int .i64 0) := (cell_of_row w2 wr.heap.size 1 _ 72 _ hz).trans rfl; have z2 : w2.cell? ⟨wr.heap.size, 2, none⟩ = some (.int .i64 0) := (cell_of_row w2 wr.heap.size 2 _ 72 _ hz).trans rfl; have z3 : w2.cell? ⟨wr.heap.size, 3, none⟩ = some (.int .i64 0) := (cell_of_row w2 wr.heap.size 3 _ 72 _ hz).trans rfl; have z4 : w2.cell? ⟨wr.heap.size, 4, none⟩ = some (.int .i64 0) := (cell_of_row w2 wr.heap.size 4 _ 72 _ hz).trans rfl; have z5 : w2.cell? ⟨wr.heap.size, 5, none⟩ = some (.int .i64 0) := (cell_of_row w2 wr.heap.size 5 _ 72 _ hz).trans rfl; have z6 : w2.cell? ⟨wr.heap.size, 6, none⟩ = some (.int .i64 0) := (cell_of_row w2 wr.heap.size 6 _ 72 _ hz).trans rfl; have z7 : w2.cell? ⟨wr.heap.size, 7, none⟩ = some (.int .i64 0) := (cell_of_row w2 wr.heap.size 7 _ 72 _ hz).trans rfl; have z8 : w2.cell? ⟨wr.heap.size, 8, none⟩ = some (.int .i64 0) := (cell_of_row w2 wr.heap.size 8 _ 72 _ hz).trans rfl; have z9 : w2.cell? ⟨wr.heap.size, 9, none⟩ = some (.int .i64 0) := (cell_of_row w2 wr.heap.size 9 _ 72 _ hz).trans rfl; have z10 : w2.cell? ⟨wr.heap.size, 10, none⟩ = some (.int .i64 0) := (cell_of_row w2 wr.heap.size 10 _ 72 _ hz).trans rfl; have f0 : w2.frozen? ⟨wr.heap.size, 0, none⟩ = false := F.free_in hz 0; have f1 : w2.frozen? ⟨wr.heap.size, 1, none⟩ = false := F.free_in hz 1; have f2 : w2.frozen? ⟨wr.heap.size, 2, none⟩ = false := F.free_in hz 2; have f3 : w2.frozen? ⟨wr.heap.size, 3, none⟩ = false := F.free_in hz 3; have f4 : w2.frozen? ⟨wr.heap.size, 4, none⟩ = false := F.free_in hz 4; have f5 : w2.frozen? ⟨wr.heap.size, 5, none⟩ = false := F.free_in hz 5; have f6 : w2.frozen? ⟨wr.heap.size, 6, none⟩ = false := F.free_in hz 6; have f7 : w2.frozen? ⟨wr.heap.size, 7, none⟩ = false := F.free_in hz 7; have f8 : w2.frozen? ⟨wr.heap.size, 8, none⟩ = false := F.free_in hz 8; have f9 : w2.frozen? ⟨wr.heap.size, 9, none⟩ = false := F.free_in hz 9; have f10 : w2.frozen? ⟨wr.heap.size, 10, none⟩ = false := F.free_in hz 10; have HZ := Lib.hid hz; clear hb2 hz))
        · go_wp2_with fail
          go_meet
          exact ⟨_, rfl, rfl, HW2.out.alloc HW2.out.size _, (cell_of_row _ _ 3 _ 72 _ (D.box1 w2 _).1).trans rfl, HW2.out.size, by simp⟩
        · go_wp2_with fail
          go_meet
          exact ⟨_, rfl, rfl, (((((((((((HW2.out.setCell (p := ⟨wr.heap.size, 0, none⟩) (Nat.le_refl _) _).setCell (p := ⟨wr.heap.size, 1, none⟩) (Nat.le_refl _) _).setCell (p := ⟨wr.heap.size, 2, none⟩) (Nat.le_refl _) _).setCell (p := ⟨wr.heap.size, 3, none⟩) (Nat.le_refl _) _).setCell (p := ⟨wr.heap.size, 4, none⟩) (Nat.le_refl _) _).setCell (p := ⟨wr.heap.size, 5, none⟩) (Nat.le_refl _) _).setCell (p := ⟨wr.heap.size, 6, none⟩) (Nat.le_refl _) _).setCell (p := ⟨wr.heap.size, 7, none⟩) (Nat.le_refl _) _).setCell (p := ⟨wr.heap.size, 8, none⟩) (Nat.le_refl _) _).setCell (p := ⟨wr.heap.size, 9, none⟩) (Nat.le_refl _) _).setCell (p := ⟨wr.heap.size, 10, none⟩) (Nat.le_refl _) _), set11 HZ.out, Nat.le_refl _, by simp; exact (Array.getElem?_eq_some_iff.1 HZ.out).1⟩
      case rest =>
        obtain ⟨z, rfl, rfl, hw, hz3, hzl, hzr⟩ := hcut
        have HWc := Lib.hid hw
        have HZ3 := Lib.hid hz3
        have HSc := Lib.hid (HS.out.below ((HB.out.trans (hw.mono HB.out.size))))
        have HBc := Lib.hid (HB.out.trans (hw.mono HB.out.size))
        have HIc := Lib.hid (HI.out.below (hw.mono (Nat.le_refl _)))
        have HCc : Hid (∀ W, Below wc.heap.size wc W → W.cell? ⟨b, 0, none⟩ = some (.pointer (some ⟨p, 0, none⟩)) ∧ W.cell? ⟨b, 1 + k, none⟩ = some (.int .i64 nd)) := fun W hW => HC.out W (hw.trans (hW.mono hw.size))
        have HMc : Hid (GM wc b p (fun i => byt (C i) 0 (y i).s) G) := HM.out.keep (HBc.out.block b HM.out.lt)
        have HD0 : Hid (Below wc.heap.size wc wc.drew) := (Below.refl _ _).drew
        have hys := (ok_size (HF.out.fl k hlt).ok (HF.out.fl k hlt).kind).1
        have hread := read_fl (a := 0) (z := 9728) (s' := (y k).s) (HSc.out.below HD0.out) (HF.out.fl k hlt) (by omega) (by omega) (by omega)
        rw [HNE.out, show ((0 : Nat) : Int) = 0 from rfl, show ((9728 : Nat) : Int) = 9728 from rfl] at hread
        have HRD := Lib.hid hread
        have HLE := Lib.hid hzl
        clear hw hz3 hread HW0 HW1 HND HC hzl
        go_wp2_with fail
        go_region_held3 (fun W => W.cell? ⟨b, 0, none⟩ = some (.pointer (some ⟨p, 0, none⟩)) ∧ W.cell? ⟨b, 1 + k, none⟩ = some (.int .i64 nd)) (first | with_reducible exact HCc.out _ HD0.out | with_reducible exact HCc.out _ HB7.out)
          (first
          | (go_at_call 20; (with_reducible refine HRD.out.mono ?_); rintro e w7 ⟨A7, n7, c7, rfl, hb7, hl7⟩; have HB7 := Lib.hid (HD0.out.trans (hl7.mono HD0.out.size)); have HT7 := Lib.hid hb7; clear hb7 hl7))
        have HD7 : Hid (Below wc.heap.size wc w7.drew) := HB7.out.drew
        have HS7 := Lib.hid (HSc.out.below HD7.out)
        have hsec := sectors_yes ((HF.out.fl k hlt).open_ HS7.out (by omega)) HS7.out (HF.out.fl k hlt).mid (HF.out.fl k hlt).con
        rw [HNE.out] at hsec
        have HSE := Lib.hid hsec
        clear hsec HRD
        go_wp2_with fail
        go_region_held3 (fun W => W.cell? ⟨b, 0, none⟩ = some (.pointer (some ⟨p, 0, none⟩)) ∧ W.cell? ⟨b, 1 + k, none⟩ = some (.int .i64 nd)) (first | with_reducible exact HCc.out _ HD7.out | with_reducible exact HCc.out _ HB8.out)
          (first
          | (go_at_call 23; (with_reducible refine HSE.out.mono ?_); rintro e w8 ⟨A8, c8, L8, rfl, hi8, hr8, hp8, hl8⟩; have HB8 := Lib.hid (HD7.out.trans (hl8.mono HD7.out.size)); have HI8 := Lib.hid hi8; have HR8 := Lib.hid hr8; have HP8 := Lib.hid hp8; have HL8 := Lib.hid hl8; clear hi8 hr8 hp8 hl8))
        go_wp2_with fail
        have hsct : sct (G k) = nzn (f k) := sct_nzn (HF.out.fl k hlt).mid (HF.out.fl k hlt).min (HF.out.bl k hlt)
        have hl8 : L8.length = nzn (f k) := by rw [HP8.out.length_eq]; unfold nzl nzn; rw [List.length_map]
        obtain ⟨t8, ht8⟩ : ∃ t8, L8.length = t8 := ⟨_, rfl⟩
        have HLT : Hid (L8.length = t8) := ht8
        have HNZ : Hid (nzn (f k) = t8) := by rw [← hl8]; exact ht8
        obtain ⟨L, hL⟩ : ∃ L, byt (C k) 0 (y k).s = L := ⟨_, rfl⟩
        have hsz : (sb L).size = (y k).s := by rw [sb_size, ← hL, byt_len]
        have HRS : Hid (∀ W, Calls Tryz.prog 29 #[.agg (rc L (G k)).toArray] W fun e w' => e = .returned (.int .i64 (t8 : Int)) ∧ Below W.heap.size W w') := fun W => by have h := rfSectors_any L (G k) W; rw [hsct, ← hl8, ht8] at h; exact h
        have HS9 : Hid (∀ W, Below w8.heap.size w8 W → W.cell? ⟨z, 3, none⟩ = some (.int .i64 ((y k).s : Int)) ∧ W.cell? ⟨b, 3 + k * 77, none⟩ = some (.string (sb L)) ∧ (convert 27 9 (.slice A7 n7 c7)).run Tryz.prog W = .ok (.string (sb L)) W ∧ W.rangeAt b (3 + k * 77) (rc L (G k))) := fun W hW => by
          have hcW : Below wc.heap.size wc W := HB8.out.trans (hW.mono HB8.out.size)
          have hM : GM W b p (fun i => byt (C i) 0 (y i).s) G := HMc.out.keep (hcW.block b HMc.out.lt)
          have hr := hM.range hlt
          rw [Nat.mul_comm] at hr
          rw [← hL]
          refine ⟨by rw [hcW.cell (p := ⟨z, 3, none⟩) hzr]; exact HZ3.out, hr 0 _ rfl, ?_, hr⟩
          exact HT7.out.str W fun q hq => (HL8.out.trans (hW.mono HL8.out.size)).cell (p := q) hq
        have hs46 : (Tryz.prog.info? 46).map (·.size) = some (rc L (G k)).length := by rw [rc_len]; kernel_rfl
        have HW9 : Hid (Below w8.heap.size w8 w8.drew) := (Below.refl _ _).drew
        have q1 : (((y k).s : Int) != ((y k).s : Int)) = false := by simp
        have q2 : ((sb L).toList != (sb L).toList) = false := by simp
        have q3 : ((t8 : Int) != (t8 : Int)) = false := by simp
        rw [ht8] at HI8 ⊢
        clear hsct hl8 ht8 hL
        refine wp_region_noPanic ?_
        refine wp_region_held_drew (S := fun W => W.cell? ⟨z, 3, none⟩ = some (.int .i64 ((y k).s : Int)) ∧ W.cell? ⟨b, 3 + k * 77, none⟩ = some (.string (sb L)) ∧ (convert 27 9 (.slice A7 n7 c7)).run Tryz.prog W = .ok (.string (sb L)) W ∧ W.rangeAt b (3 + k * 77) (rc L (G k))) (by kernel_rfl) (HS9.out _ HW9.out) (fun hHeld => ?_)
        refine wpAnyH_take (i := 0) (oi := { dst := some 63, op := Op.move (Operand.tmp 9), type := 33, pos := "law.go:81", after := #[], guard := none }) (v := ?_) rfl (by kernel_rfl) (by kernel_rfl) (by kernel_rfl) (fun _ _ _ h => h) (Or.inl ⟨by rfl, ?_⟩) (by assumption) ?_
        rotate_left
        · intro w hSw; (try dsimp only at hSw); go_simp <;> with_reducible rfl
        try simp only [Act.put, List.setIfInBounds_toArray, List.set_cons_zero, List.set_cons_succ]
        refine wpAnyH_take (i := 1) (oi := { dst := some 64, op := Op.binOp BinOp.neq 33 (Operand.tmp 63) (Operand.const (Value.int IntKind.i64 0)) 33, type := 4, pos := "law.go:81", after := #[{ on := 0, ground := Ground.data }], guard := none }) (v := ?_) rfl (by kernel_rfl) (by kernel_rfl) (by kernel_rfl) (fun _ _ _ h => h) (Or.inl ⟨by rfl, ?_⟩) (by assumption) ?_
        rotate_left
        · intro w hSw; (try dsimp only at hSw); go_simp <;> with_reducible rfl
        try simp only [Act.put, List.setIfInBounds_toArray, List.set_cons_zero, List.set_cons_succ]
        refine wpAnyH_take (i := 2) (oi := { dst := some 65, op := Op.move (Operand.tmp 64), type := 4, pos := "law.go:81", after := #[{ on := 1, ground := Ground.data }], guard := none }) (v := ?_) rfl (by kernel_rfl) (by kernel_rfl) (by kernel_rfl) (fun _ _ _ h => h) (Or.inl ⟨by rfl, ?_⟩) (by assumption) ?_
        rotate_left
        · intro w hSw; (try dsimp only at hSw); go_simp <;> with_reducible rfl
        try simp only [Act.put, List.setIfInBounds_toArray, List.set_cons_zero, List.set_cons_succ]
        refine wpAnyH_take (i := 3) (oi := { dst := some 66, op := Op.move (Operand.tmp 11), type := 33, pos := "law.go:81", after := #[{ on := 2, ground := Ground.guard }], guard := some (2, false) }) (v := ?_) rfl (by kernel_rfl) (by kernel_rfl) (by kernel_rfl) (fun _ _ _ h => h) (Or.inl ⟨by rfl, ?_⟩) (by assumption) ?_
        rotate_left
        · intro w hSw; (try dsimp only at hSw); go_simp <;> with_reducible rfl
        try simp only [Act.put, List.setIfInBounds_toArray, List.set_cons_zero, List.set_cons_succ]
        refine wpAnyH_take (i := 4) (oi := { dst := some 67, op := Op.binOp BinOp.neq 33 (Operand.tmp 66) (Operand.const (Value.int IntKind.i64 0)) 33, type := 4, pos := "law.go:81", after := #[{ on := 3, ground := Ground.data }, { on := 2, ground := Ground.guard }], guard := some (2, false) }) (v := ?_) rfl (by kernel_rfl) (by kernel_rfl) (by kernel_rfl) (fun _ _ _ h => h) (Or.inl ⟨by rfl, ?_⟩) (by assumption) ?_
        rotate_left
        · intro w hSw; (try dsimp only at hSw); go_simp <;> with_reducible rfl
        try simp only [Act.put, List.setIfInBounds_toArray, List.set_cons_zero, List.set_cons_succ]
        refine wpAnyH_take (i := 5) (oi := { dst := some 68, op := Op.pick (Operand.tmp 65) (Operand.const (Value.bool true)) (Operand.tmp 67), type := 4, pos := "law.go:81", after := #[{ on := 2, ground := Ground.data }, { on := 4, ground := Ground.data }], guard := none }) (v := ?_) rfl (by kernel_rfl) (by kernel_rfl) (by kernel_rfl) (fun _ _ _ h => h) (Or.inl ⟨by rfl, ?_⟩) (by assumption) ?_
        rotate_left
        · intro w hSw; (try dsimp only at hSw); go_simp <;> with_reducible rfl
        try simp only [Act.put, List.setIfInBounds_toArray, List.set_cons_zero, List.set_cons_succ]
        refine wpAnyH_take (i := 6) (oi := { dst := some 69, op := Op.move (Operand.tmp 68), type := 4, pos := "law.go:81", after := #[{ on := 5, ground := Ground.data }, { on := 2, ground := Ground.chain }], guard := none }) (v := ?_) rfl (by kernel_rfl) (by kernel_rfl) (by kernel_rfl) (fun _ _ _ h => h) (Or.inl ⟨by rfl, ?_⟩) (by assumption) ?_
        rotate_left
        · intro w hSw; (try dsimp only at hSw); go_simp <;> with_reducible rfl
        try simp only [Act.put, List.setIfInBounds_toArray, List.set_cons_zero, List.set_cons_succ]
        refine wpAnyH_take (i := 7) (oi := { dst := some 70, op := Op.move (Operand.tmp 13), type := 33, pos := "law.go:81", after := #[{ on := 6, ground := Ground.guard }], guard := some (6, false) }) (v := ?_) rfl (by kernel_rfl) (by kernel_rfl) (by kernel_rfl) (fun _ _ _ h => h) (Or.inl ⟨by rfl, ?_⟩) (by assumption) ?_
        rotate_left
        · intro w hSw; (try dsimp only at hSw); go_simp <;> with_reducible rfl
        try simp only [Act.put, List.setIfInBounds_toArray, List.set_cons_zero, List.set_cons_succ]
        refine wpAnyH_take (i := 8) (oi := { dst := some 71, op := Op.binOp BinOp.neq 33 (Operand.tmp 70) (Operand.const (Value.int IntKind.i64 0)) 33, type := 4, pos := "law.go:81", after := #[{ on := 7, ground := Ground.data }, { on := 6, ground := Ground.guard }], guard := some (6, false) }) (v := ?_) rfl (by kernel_rfl) (by kernel_rfl) (by kernel_rfl) (fun _ _ _ h => h) (Or.inl ⟨by rfl, ?_⟩) (by assumption) ?_
        rotate_left
        · intro w hSw; (try dsimp only at hSw); go_simp <;> with_reducible rfl
        try simp only [Act.put, List.setIfInBounds_toArray, List.set_cons_zero, List.set_cons_succ]
        refine wpAnyH_take (i := 9) (oi := { dst := some 72, op := Op.pick (Operand.tmp 69) (Operand.const (Value.bool true)) (Operand.tmp 71), type := 4, pos := "law.go:81", after := #[{ on := 6, ground := Ground.data }, { on := 8, ground := Ground.data }], guard := none }) (v := ?_) rfl (by kernel_rfl) (by kernel_rfl) (by kernel_rfl) (fun _ _ _ h => h) (Or.inl ⟨by rfl, ?_⟩) (by assumption) ?_
        rotate_left
        · intro w hSw; (try dsimp only at hSw); go_simp <;> with_reducible rfl
        try simp only [Act.put, List.setIfInBounds_toArray, List.set_cons_zero, List.set_cons_succ]
        refine wpAnyH_take (i := 10) (oi := { dst := some 73, op := Op.move (Operand.tmp 72), type := 4, pos := "law.go:81", after := #[{ on := 9, ground := Ground.data }, { on := 6, ground := Ground.chain }], guard := none }) (v := ?_) rfl (by kernel_rfl) (by kernel_rfl) (by kernel_rfl) (fun _ _ _ h => h) (Or.inl ⟨by rfl, ?_⟩) (by assumption) ?_
        rotate_left
        · intro w hSw; (try dsimp only at hSw); go_simp <;> with_reducible rfl
        try simp only [Act.put, List.setIfInBounds_toArray, List.set_cons_zero, List.set_cons_succ]
        refine wpAnyH_take (i := 11) (oi := { dst := some 74, op := Op.fieldAddr 72 (Operand.tmp 8) 3, type := 0, pos := "law.go:81", after := #[{ on := 10, ground := Ground.guard }], guard := some (10, false) }) (v := ?_) rfl (by kernel_rfl) (by kernel_rfl) (by kernel_rfl) (fun _ _ _ h => h) (Or.inl ⟨by rfl, ?_⟩) (by assumption) ?_
        rotate_left
        · intro w hSw; (try dsimp only at hSw); go_simp <;> with_reducible rfl
        try simp only [Act.put, List.setIfInBounds_toArray, List.set_cons_zero, List.set_cons_succ]
        refine wpAnyH_take (i := 12) (oi := { dst := some 75, op := Op.load 3 (Operand.tmp 74), type := 3, pos := "law.go:81", after := #[{ on := 11, ground := Ground.data }, { on := 10, ground := Ground.guard }], guard := some (10, false) }) (v := ?_) rfl (by kernel_rfl) (by kernel_rfl) (by kernel_rfl) (fun _ _ _ h => h) (Or.inl ⟨by rfl, ?_⟩) (by assumption) ?_
        rotate_left
        · intro w hSw; (try dsimp only at hSw); go_simp <;> with_reducible rfl
        try simp only [Act.put, List.setIfInBounds_toArray, List.set_cons_zero, List.set_cons_succ]
        refine wpAnyH_take (i := 13) (oi := { dst := some 76, op := Op.move (Operand.tmp 0), type := 23, pos := "law.go:81", after := #[{ on := 10, ground := Ground.guard }], guard := some (10, false) }) (v := ?_) rfl (by kernel_rfl) (by kernel_rfl) (by kernel_rfl) (fun _ _ _ h => h) (Or.inl ⟨by rfl, ?_⟩) (by assumption) ?_
        rotate_left
        · intro w hSw; (try dsimp only at hSw); go_simp <;> with_reducible rfl
        try simp only [Act.put, List.setIfInBounds_toArray, List.set_cons_zero, List.set_cons_succ]
        refine wpAnyH_take (i := 14) (oi := { dst := some 77, op := Op.move (Operand.tmp 7), type := 3, pos := "law.go:81", after := #[{ on := 10, ground := Ground.guard }], guard := some (10, false) }) (v := ?_) rfl (by kernel_rfl) (by kernel_rfl) (by kernel_rfl) (fun _ _ _ h => h) (Or.inl ⟨by rfl, ?_⟩) (by assumption) ?_
        rotate_left
        · intro w hSw; (try dsimp only at hSw); go_simp <;> with_reducible rfl
        try simp only [Act.put, List.setIfInBounds_toArray, List.set_cons_zero, List.set_cons_succ]
        refine wpAnyH_take (i := 15) (oi := { dst := some 78, op := Op.nilCheck (Operand.tmp 76), type := 0, pos := "law.go:81", after := #[{ on := 13, ground := Ground.data }, { on := 10, ground := Ground.guard }], guard := some (10, false) }) (v := ?_) rfl (by kernel_rfl) (by kernel_rfl) (by kernel_rfl) (fun _ _ _ h => h) (Or.inl ⟨by rfl, ?_⟩) (by assumption) ?_
        rotate_left
        · intro w hSw; (try dsimp only at hSw); go_simp <;> with_reducible rfl
        try simp only [Act.put, List.setIfInBounds_toArray, List.set_cons_zero, List.set_cons_succ]
        refine wpAnyH_take (i := 16) (oi := { dst := some 79, op := Op.fieldAddr 67 (Operand.tmp 78) 2, type := 0, pos := "law.go:81", after := #[{ on := 15, ground := Ground.data }, { on := 10, ground := Ground.guard }], guard := some (10, false) }) (v := ?_) rfl (by kernel_rfl) (by kernel_rfl) (by kernel_rfl) (fun _ _ _ h => h) (Or.inl ⟨by rfl, ?_⟩) (by assumption) ?_
        rotate_left
        · intro w hSw; (try dsimp only at hSw); go_simp <;> with_reducible rfl
        try simp only [Act.put, List.setIfInBounds_toArray, List.set_cons_zero, List.set_cons_succ]
        refine wpAnyH_take (i := 17) (oi := { dst := some 80, op := Op.indexAddr 65 (Operand.tmp 79) (Operand.tmp 77), type := 0, pos := "law.go:81", after := #[{ on := 16, ground := Ground.data }, { on := 14, ground := Ground.data }, { on := 10, ground := Ground.guard }], guard := some (10, false) }) (v := ?_) rfl (by kernel_rfl) (by kernel_rfl) (by kernel_rfl) (fun _ _ _ h => h) (Or.inl ⟨by rfl, ?_⟩) (by assumption) ?_
        rotate_left
        · intro w hSw; (try dsimp only at hSw); go_simp <;> with_reducible rfl
        try simp only [Act.put, List.setIfInBounds_toArray, List.set_cons_zero, List.set_cons_succ]
        refine wpAnyH_take (i := 18) (oi := { dst := some 81, op := Op.fieldAddr 46 (Operand.tmp 80) 0, type := 0, pos := "law.go:81", after := #[{ on := 17, ground := Ground.data }, { on := 10, ground := Ground.guard }], guard := some (10, false) }) (v := ?_) rfl (by kernel_rfl) (by kernel_rfl) (by kernel_rfl) (fun _ _ _ h => h) (Or.inl ⟨by rfl, ?_⟩) (by assumption) ?_
        rotate_left
        · intro w hSw; (try dsimp only at hSw); go_simp <;> with_reducible rfl
        try simp only [Act.put, List.setIfInBounds_toArray, List.set_cons_zero, List.set_cons_succ]
        refine wpAnyH_take (i := 19) (oi := { dst := some 82, op := Op.load 9 (Operand.tmp 81), type := 9, pos := "law.go:81", after := #[{ on := 18, ground := Ground.data }, { on := 10, ground := Ground.guard }], guard := some (10, false) }) (v := ?_) rfl (by kernel_rfl) (by kernel_rfl) (by kernel_rfl) (fun _ _ _ h => h) (Or.inl ⟨by rfl, ?_⟩) (by assumption) ?_
        rotate_left
        · intro w hSw; (try dsimp only at hSw); go_simp <;> with_reducible rfl
        try simp only [Act.put, List.setIfInBounds_toArray, List.set_cons_zero, List.set_cons_succ]
        refine wpAnyH_take (i := 20) (oi := { dst := some 83, op := Op.call { callee := Callee.builtin Builtin.len, args := #[Operand.tmp 82], argTypes := #[9] }, type := 3, pos := "law.go:81", after := #[{ on := 19, ground := Ground.data }, { on := 10, ground := Ground.guard }], guard := some (10, false) }) (v := ?_) rfl (by kernel_rfl) (by kernel_rfl) (by kernel_rfl) (fun _ _ _ h => h) (Or.inl ⟨by rfl, ?_⟩) (by assumption) ?_
        rotate_left
        · intro w hSw; (try dsimp only at hSw); go_simp <;> with_reducible rfl
        try simp only [Act.put, List.setIfInBounds_toArray, List.set_cons_zero, List.set_cons_succ]
        refine wpAnyH_take (i := 21) (oi := { dst := some 84, op := Op.binOp BinOp.neq 3 (Operand.tmp 75) (Operand.tmp 83) 3, type := 4, pos := "law.go:81", after := #[{ on := 12, ground := Ground.data }, { on := 20, ground := Ground.data }, { on := 10, ground := Ground.guard }], guard := some (10, false) }) (v := ?_) rfl (by kernel_rfl) (by kernel_rfl) (by kernel_rfl) (fun _ _ _ h => h) (Or.inl ⟨by rfl, ?_⟩) (by assumption) ?_
        rotate_left
        · intro w hSw; (try dsimp only at hSw); go_simp <;> with_reducible rfl
        try simp only [Act.put, List.setIfInBounds_toArray, List.set_cons_zero, List.set_cons_succ]
        refine wpAnyH_take (i := 22) (oi := { dst := some 85, op := Op.pick (Operand.tmp 73) (Operand.const (Value.bool true)) (Operand.tmp 84), type := 4, pos := "law.go:81", after := #[{ on := 10, ground := Ground.data }, { on := 21, ground := Ground.data }], guard := none }) (v := ?_) rfl (by kernel_rfl) (by kernel_rfl) (by kernel_rfl) (fun _ _ _ h => h) (Or.inl ⟨by rfl, ?_⟩) (by assumption) ?_
        rotate_left
        · intro w hSw; (try dsimp only at hSw); go_simp <;> with_reducible rfl
        try simp only [Act.put, List.setIfInBounds_toArray, List.set_cons_zero, List.set_cons_succ]
        refine wpAnyH_take (i := 23) (oi := { dst := some 86, op := Op.move (Operand.tmp 85), type := 4, pos := "law.go:81", after := #[{ on := 22, ground := Ground.data }, { on := 10, ground := Ground.chain }], guard := none }) (v := ?_) rfl (by kernel_rfl) (by kernel_rfl) (by kernel_rfl) (fun _ _ _ h => h) (Or.inl ⟨by rfl, ?_⟩) (by assumption) ?_
        rotate_left
        · intro w hSw; (try dsimp only at hSw); go_simp <;> with_reducible rfl
        try simp only [Act.put, List.setIfInBounds_toArray, List.set_cons_zero, List.set_cons_succ]
        refine wpAnyH_take (i := 24) (oi := { dst := some 87, op := Op.move (Operand.tmp 10), type := 27, pos := "law.go:81", after := #[{ on := 23, ground := Ground.guard }], guard := some (23, false) }) (v := ?_) rfl (by kernel_rfl) (by kernel_rfl) (by kernel_rfl) (fun _ _ _ h => h) (Or.inl ⟨by rfl, ?_⟩) (by assumption) ?_
        rotate_left
        · intro w hSw; (try dsimp only at hSw); go_simp <;> with_reducible rfl
        try simp only [Act.put, List.setIfInBounds_toArray, List.set_cons_zero, List.set_cons_succ]
        refine wpAnyH_take (i := 25) (oi := { dst := some 88, op := Op.convert 27 9 (Operand.tmp 87), type := 9, pos := "law.go:81", after := #[{ on := 24, ground := Ground.data }, { on := 23, ground := Ground.guard }], guard := some (23, false) }) (v := ?_) rfl (by kernel_rfl) (by kernel_rfl) (by kernel_rfl) (fun _ _ _ h => h) (Or.inl ⟨by rfl, ?_⟩) (by assumption) ?_
        rotate_left
        · intro w hSw; (try dsimp only at hSw); go_simp <;> with_reducible rfl
        try simp only [Act.put, List.setIfInBounds_toArray, List.set_cons_zero, List.set_cons_succ]
        refine wpAnyH_take (i := 26) (oi := { dst := some 89, op := Op.move (Operand.tmp 0), type := 23, pos := "law.go:81", after := #[{ on := 23, ground := Ground.guard }], guard := some (23, false) }) (v := ?_) rfl (by kernel_rfl) (by kernel_rfl) (by kernel_rfl) (fun _ _ _ h => h) (Or.inl ⟨by rfl, ?_⟩) (by assumption) ?_
        rotate_left
        · intro w hSw; (try dsimp only at hSw); go_simp <;> with_reducible rfl
        try simp only [Act.put, List.setIfInBounds_toArray, List.set_cons_zero, List.set_cons_succ]
        refine wpAnyH_take (i := 27) (oi := { dst := some 90, op := Op.move (Operand.tmp 7), type := 3, pos := "law.go:81", after := #[{ on := 23, ground := Ground.guard }], guard := some (23, false) }) (v := ?_) rfl (by kernel_rfl) (by kernel_rfl) (by kernel_rfl) (fun _ _ _ h => h) (Or.inl ⟨by rfl, ?_⟩) (by assumption) ?_
        rotate_left
        · intro w hSw; (try dsimp only at hSw); go_simp <;> with_reducible rfl
        try simp only [Act.put, List.setIfInBounds_toArray, List.set_cons_zero, List.set_cons_succ]
        refine wpAnyH_take (i := 28) (oi := { dst := some 91, op := Op.nilCheck (Operand.tmp 89), type := 0, pos := "law.go:81", after := #[{ on := 26, ground := Ground.data }, { on := 23, ground := Ground.guard }], guard := some (23, false) }) (v := ?_) rfl (by kernel_rfl) (by kernel_rfl) (by kernel_rfl) (fun _ _ _ h => h) (Or.inl ⟨by rfl, ?_⟩) (by assumption) ?_
        rotate_left
        · intro w hSw; (try dsimp only at hSw); go_simp <;> with_reducible rfl
        try simp only [Act.put, List.setIfInBounds_toArray, List.set_cons_zero, List.set_cons_succ]
        refine wpAnyH_take (i := 29) (oi := { dst := some 92, op := Op.fieldAddr 67 (Operand.tmp 91) 2, type := 0, pos := "law.go:81", after := #[{ on := 28, ground := Ground.data }, { on := 23, ground := Ground.guard }], guard := some (23, false) }) (v := ?_) rfl (by kernel_rfl) (by kernel_rfl) (by kernel_rfl) (fun _ _ _ h => h) (Or.inl ⟨by rfl, ?_⟩) (by assumption) ?_
        rotate_left
        · intro w hSw; (try dsimp only at hSw); go_simp <;> with_reducible rfl
        try simp only [Act.put, List.setIfInBounds_toArray, List.set_cons_zero, List.set_cons_succ]
        refine wpAnyH_take (i := 30) (oi := { dst := some 93, op := Op.indexAddr 65 (Operand.tmp 92) (Operand.tmp 90), type := 0, pos := "law.go:81", after := #[{ on := 29, ground := Ground.data }, { on := 27, ground := Ground.data }, { on := 23, ground := Ground.guard }], guard := some (23, false) }) (v := ?_) rfl (by kernel_rfl) (by kernel_rfl) (by kernel_rfl) (fun _ _ _ h => h) (Or.inl ⟨by rfl, ?_⟩) (by assumption) ?_
        rotate_left
        · intro w hSw; (try dsimp only at hSw); go_simp <;> with_reducible rfl
        try simp only [Act.put, List.setIfInBounds_toArray, List.set_cons_zero, List.set_cons_succ]
        refine wpAnyH_take (i := 31) (oi := { dst := some 94, op := Op.fieldAddr 46 (Operand.tmp 93) 0, type := 0, pos := "law.go:81", after := #[{ on := 30, ground := Ground.data }, { on := 23, ground := Ground.guard }], guard := some (23, false) }) (v := ?_) rfl (by kernel_rfl) (by kernel_rfl) (by kernel_rfl) (fun _ _ _ h => h) (Or.inl ⟨by rfl, ?_⟩) (by assumption) ?_
        rotate_left
        · intro w hSw; (try dsimp only at hSw); go_simp <;> with_reducible rfl
        try simp only [Act.put, List.setIfInBounds_toArray, List.set_cons_zero, List.set_cons_succ]
        refine wpAnyH_take (i := 32) (oi := { dst := some 95, op := Op.load 9 (Operand.tmp 94), type := 9, pos := "law.go:81", after := #[{ on := 31, ground := Ground.data }, { on := 23, ground := Ground.guard }], guard := some (23, false) }) (v := ?_) rfl (by kernel_rfl) (by kernel_rfl) (by kernel_rfl) (fun _ _ _ h => h) (Or.inl ⟨by rfl, ?_⟩) (by assumption) ?_
        rotate_left
        · intro w hSw; (try dsimp only at hSw); go_simp <;> with_reducible rfl
        try simp only [Act.put, List.setIfInBounds_toArray, List.set_cons_zero, List.set_cons_succ]
        refine wpAnyH_take (i := 33) (oi := { dst := some 96, op := Op.binOp BinOp.neq 9 (Operand.tmp 88) (Operand.tmp 95) 9, type := 4, pos := "law.go:81", after := #[{ on := 25, ground := Ground.data }, { on := 32, ground := Ground.data }, { on := 23, ground := Ground.guard }], guard := some (23, false) }) (v := ?_) rfl (by kernel_rfl) (by kernel_rfl) (by kernel_rfl) (fun _ _ _ h => h) (Or.inl ⟨by rfl, ?_⟩) (by assumption) ?_
        rotate_left
        · intro w hSw; (try dsimp only at hSw); go_simp <;> with_reducible rfl
        try simp only [Act.put, List.setIfInBounds_toArray, List.set_cons_zero, List.set_cons_succ]
        refine wpAnyH_take (i := 34) (oi := { dst := some 97, op := Op.pick (Operand.tmp 86) (Operand.const (Value.bool true)) (Operand.tmp 96), type := 4, pos := "law.go:81", after := #[{ on := 23, ground := Ground.data }, { on := 33, ground := Ground.data }], guard := none }) (v := ?_) rfl (by kernel_rfl) (by kernel_rfl) (by kernel_rfl) (fun _ _ _ h => h) (Or.inl ⟨by rfl, ?_⟩) (by assumption) ?_
        rotate_left
        · intro w hSw; (try dsimp only at hSw); go_simp <;> with_reducible rfl
        try simp only [Act.put, List.setIfInBounds_toArray, List.set_cons_zero, List.set_cons_succ]
        refine wpAnyH_take (i := 35) (oi := { dst := some 98, op := Op.move (Operand.tmp 97), type := 4, pos := "law.go:81", after := #[{ on := 34, ground := Ground.data }, { on := 23, ground := Ground.chain }], guard := none }) (v := ?_) rfl (by kernel_rfl) (by kernel_rfl) (by kernel_rfl) (fun _ _ _ h => h) (Or.inl ⟨by rfl, ?_⟩) (by assumption) ?_
        rotate_left
        · intro w hSw; (try dsimp only at hSw); go_simp <;> with_reducible rfl
        try simp only [Act.put, List.setIfInBounds_toArray, List.set_cons_zero, List.set_cons_succ]
        refine wpAnyH_take (i := 36) (oi := { dst := some 99, op := Op.move (Operand.tmp 12), type := 54, pos := "law.go:81", after := #[{ on := 35, ground := Ground.guard }], guard := some (35, false) }) (v := ?_) rfl (by kernel_rfl) (by kernel_rfl) (by kernel_rfl) (fun _ _ _ h => h) (Or.inl ⟨by rfl, ?_⟩) (by assumption) ?_
        rotate_left
        · intro w hSw; (try dsimp only at hSw); go_simp <;> with_reducible rfl
        try simp only [Act.put, List.setIfInBounds_toArray, List.set_cons_zero, List.set_cons_succ]
        refine wpAnyH_take (i := 37) (oi := { dst := some 100, op := Op.call { callee := Callee.builtin Builtin.len, args := #[Operand.tmp 99], argTypes := #[54] }, type := 3, pos := "law.go:81", after := #[{ on := 36, ground := Ground.data }, { on := 35, ground := Ground.guard }], guard := some (35, false) }) (v := ?_) rfl (by kernel_rfl) (by kernel_rfl) (by kernel_rfl) (fun _ _ _ h => h) (Or.inl ⟨by rfl, ?_⟩) (by assumption) ?_
        rotate_left
        · intro w hSw; (try dsimp only at hSw); go_simp <;> with_reducible rfl
        try simp only [Act.put, List.setIfInBounds_toArray, List.set_cons_zero, List.set_cons_succ]
        refine wpAnyH_take (i := 38) (oi := { dst := some 101, op := Op.move (Operand.tmp 0), type := 23, pos := "law.go:81", after := #[{ on := 35, ground := Ground.guard }], guard := some (35, false) }) (v := ?_) rfl (by kernel_rfl) (by kernel_rfl) (by kernel_rfl) (fun _ _ _ h => h) (Or.inl ⟨by rfl, ?_⟩) (by assumption) ?_
        rotate_left
        · intro w hSw; (try dsimp only at hSw); go_simp <;> with_reducible rfl
        try simp only [Act.put, List.setIfInBounds_toArray, List.set_cons_zero, List.set_cons_succ]
        refine wpAnyH_take (i := 39) (oi := { dst := some 102, op := Op.move (Operand.tmp 7), type := 3, pos := "law.go:81", after := #[{ on := 35, ground := Ground.guard }], guard := some (35, false) }) (v := ?_) rfl (by kernel_rfl) (by kernel_rfl) (by kernel_rfl) (fun _ _ _ h => h) (Or.inl ⟨by rfl, ?_⟩) (by assumption) ?_
        rotate_left
        · intro w hSw; (try dsimp only at hSw); go_simp <;> with_reducible rfl
        try simp only [Act.put, List.setIfInBounds_toArray, List.set_cons_zero, List.set_cons_succ]
        refine wpAnyH_take (i := 40) (oi := { dst := some 103, op := Op.nilCheck (Operand.tmp 101), type := 0, pos := "law.go:81", after := #[{ on := 38, ground := Ground.data }, { on := 35, ground := Ground.guard }], guard := some (35, false) }) (v := ?_) rfl (by kernel_rfl) (by kernel_rfl) (by kernel_rfl) (fun _ _ _ h => h) (Or.inl ⟨by rfl, ?_⟩) (by assumption) ?_
        rotate_left
        · intro w hSw; (try dsimp only at hSw); go_simp <;> with_reducible rfl
        try simp only [Act.put, List.setIfInBounds_toArray, List.set_cons_zero, List.set_cons_succ]
        refine wpAnyH_take (i := 41) (oi := { dst := some 104, op := Op.fieldAddr 67 (Operand.tmp 103) 2, type := 0, pos := "law.go:81", after := #[{ on := 40, ground := Ground.data }, { on := 35, ground := Ground.guard }], guard := some (35, false) }) (v := ?_) rfl (by kernel_rfl) (by kernel_rfl) (by kernel_rfl) (fun _ _ _ h => h) (Or.inl ⟨by rfl, ?_⟩) (by assumption) ?_
        rotate_left
        · intro w hSw; (try dsimp only at hSw); go_simp <;> with_reducible rfl
        try simp only [Act.put, List.setIfInBounds_toArray, List.set_cons_zero, List.set_cons_succ]
        refine wpAnyH_take (i := 42) (oi := { dst := some 105, op := Op.indexAddr 65 (Operand.tmp 104) (Operand.tmp 102), type := 0, pos := "law.go:81", after := #[{ on := 41, ground := Ground.data }, { on := 39, ground := Ground.data }, { on := 35, ground := Ground.guard }], guard := some (35, false) }) (v := ?_) rfl (by kernel_rfl) (by kernel_rfl) (by kernel_rfl) (fun _ _ _ h => h) (Or.inl ⟨by rfl, ?_⟩) (by assumption) ?_
        rotate_left
        · intro w hSw; (try dsimp only at hSw); go_simp <;> with_reducible rfl
        try simp only [Act.put, List.setIfInBounds_toArray, List.set_cons_zero, List.set_cons_succ]
        refine wpAnyH_take (i := 43) (oi := { dst := some 106, op := Op.load 46 (Operand.tmp 105), type := 46, pos := "law.go:81", after := #[{ on := 42, ground := Ground.data }, { on := 35, ground := Ground.guard }], guard := some (35, false) }) (v := .agg (rc L (G k)).toArray) rfl (by kernel_rfl) (by kernel_rfl) (by kernel_rfl) (fun _ _ _ h => h) (yieldsIf_load_mid (by rfl) 46 _ rfl b (3 + k * 77) rfl (rc L (G k)) _ (fun w hw => hw.2.2.2) Tryz.underlying46 rfl hs46) (by assumption) ?_
        try simp only [Act.put, List.setIfInBounds_toArray, List.set_cons_zero, List.set_cons_succ]
        refine wpAnyH_ready (rs := [44]) (by kernel_rfl) (by simp) ?_
        refine AllReadyH.cons (o := { dst := some 107, op := Op.call { callee := Callee.value (Operand.func 29), args := #[Operand.tmp 106], argTypes := #[46] }, type := 3, pos := "law.go:81", after := #[{ on := 43, ground := Ground.data }, { on := 35, ground := Ground.chain }, { on := 35, ground := Ground.guard }], guard := some (35, false) }) rfl (fun K hK => ?_) AllReadyH.nil
        go_simp
        go_at_call 29
        refine (HRS.out _).mono ?_
        rintro e w9 ⟨rfl, hb9⟩
        have HB9 := Lib.hid (HW9.out.trans (hb9.mono HW9.out.size))
        clear hb9
        go_wp2_with fail
        refine hK.out _ _ (HS9.out _ HB9.out) (fun hHeld => ?_)
        clear hK K
        refine wpAnyH_take (i := 45) (oi := { dst := some 108, op := Op.binOp BinOp.neq 3 (Operand.tmp 100) (Operand.tmp 107) 3, type := 4, pos := "law.go:81", after := #[{ on := 37, ground := Ground.data }, { on := 44, ground := Ground.data }, { on := 35, ground := Ground.guard }], guard := some (35, false) }) (v := ?_) rfl (by kernel_rfl) (by kernel_rfl) (by kernel_rfl) (fun _ _ _ h => h) (Or.inl ⟨by rfl, ?_⟩) (by assumption) ?_
        rotate_left
        · intro w hSw; (try dsimp only at hSw); go_simp <;> with_reducible rfl
        try simp only [Act.put, List.setIfInBounds_toArray, List.set_cons_zero, List.set_cons_succ]
        refine wpAnyH_take (i := 46) (oi := { dst := some 109, op := Op.pick (Operand.tmp 98) (Operand.const (Value.bool true)) (Operand.tmp 108), type := 4, pos := "law.go:81", after := #[{ on := 35, ground := Ground.data }, { on := 45, ground := Ground.data }], guard := none }) (v := ?_) rfl (by kernel_rfl) (by kernel_rfl) (by kernel_rfl) (fun _ _ _ h => h) (Or.inl ⟨by rfl, ?_⟩) (by assumption) ?_
        rotate_left
        · intro w hSw; (try dsimp only at hSw); go_simp <;> with_reducible rfl
        try simp only [Act.put, List.setIfInBounds_toArray, List.set_cons_zero, List.set_cons_succ]
        refine wpAnyH_done (by kernel_rfl) ?_ _
        refine NoPanic.normal ?_
        have HI9 := Lib.hid ((HI8.out.below HB9.out).more (B' := w9.heap.size) HB9.out.size)
        have hwl : wr.heap.size ≤ wc.heap.size := HWc.out.size
        have HJ9 := Lib.hid (HIc.out.below ((HB8.out.trans (HB9.out.mono HB8.out.size)).mono hwl))
        have HBw := Lib.hid (HBc.out.trans ((HB8.out.trans (HB9.out.mono HB8.out.size)).mono HBc.out.size))
        clear HS9 HRS HW9 hHeld q1 q2 q3 hs46 hsz HL8 HB8 HI8 HB9 HIc HT7 HS7 HD7 HB7 HD0 HMc HCc HSc HZ3 HWc hwl hzr HLE hys HSE
        have hl8 : c8 ≤ maxLen := HI9.out.lim
        have hl9 : t8 ≤ c8 := HI9.out.cap
        have hl10 : c ≤ maxLen := HJ9.out.lim
        have hl11 : n ≤ c := HJ9.out.cap
        unfold maxLen at hl8 hl10
        generalize wr = V0 at *
        go_wp2_with fail
        go_loopw [14] (fun i wr => ∃ kk : Nat, kk ≤ t8 ∧ i = .int .i64 kk ∧ Hid (Below w9.heap.size w9 wr ∧ ∀ p, wr.cell? p = w9.cell? p)) (fun i _ => t8 - (intOf i).toNat)
        case atStart => exact ⟨0, Nat.zero_le _, rfl, Below.refl _ _, fun _ => rfl⟩
        case round =>
          obtain ⟨kk, hkk, rfl, HRR⟩ := hrel
          by_cases hk8 : kk < t8
          · obtain ⟨b8, o8, rfl, _, hc8⟩ := HI9.out.at_ (by omega)
            have hx := hc8 kk hk8
            have hxm : L8[kk]?.getD 0 ∈ L8 := by rw [List.getElem?_eq_getElem (by rw [HLT.out]; exact hk8)]; exact List.getElem_mem _
            have HXN : Hid (∀ v ∈ l, (v == L8[kk]?.getD 0) = false) := fun v hv => by
              rw [beq_eq_false_iff_ne]
              intro e
              exact HD.out hlt v hv (by rw [e]; exact HP8.out.mem_iff.1 hxm)
            have hxw : wr.cell? ⟨b8, o8 + kk, none⟩ = some (.int .i64 (L8[kk]?.getD 0)) := by rw [HRR.out.2]; exact hx
            have hxq : w9.cell? ⟨b8, o8 + kk, none⟩ = some (.int .i64 (L8[kk]?.getD 0)) := hx
            have hprev : 0 < kk → ∃ x' : Int, wr.cell? ⟨b8, o8 + (kk - 1), none⟩ = some (.int .i64 x') ∧ x' < L8[kk]?.getD 0 := fun h0 => ⟨L8[kk - 1]?.getD 0, by rw [HRR.out.2]; exact hc8 (kk - 1) (by omega), by
              have hp := List.pairwise_iff_getElem.1 HR8.out (kk - 1) kk (by rw [HLT.out]; omega) (by rw [HLT.out]; exact hk8) (by omega)
              rw [List.getElem?_eq_getElem (by rw [HLT.out]; omega), List.getElem?_eq_getElem (by rw [HLT.out]; exact hk8)]
              exact hp⟩
            clear hc8 hx hxm
            generalize L8[kk]?.getD 0 = x at *
            by_cases h0 : kk = 0
            · have hd : decide (0 < kk) = false := decide_eq_false (by omega)
              have hd2 : ¬ 0 < kk := by omega
              have hxz : w9.cell? ⟨b8, o8, none⟩ = some (.int .i64 x) := by have := hxq; rw [h0] at this; exact this
              have hxv : wr.cell? ⟨b8, o8, none⟩ = some (.int .i64 x) := by rw [HRR.out.2]; exact hxz
              have hz8 : 0 < t8 := by omega
              clear hprev
              go_wp2_with fail
              go_quiet (fail)
              go_wp2_with fail
              generalize wr = V1 at *
              go_loopw [15] (fun i wr => ∃ j : Nat, j ≤ n ∧ i = .int .i64 j ∧ Hid (Below w9.heap.size w9 wr ∧ ∀ p, wr.cell? p = w9.cell? p)) (fun i _ => n - (intOf i).toNat)
              case atStart => exact ⟨0, Nat.zero_le _, rfl, below_drewN HRR.out.1 _, HRR.out.2⟩
              case round =>
                obtain ⟨j, hj, rfl, HQ⟩ := hrel
                by_cases hjn : j < n
                · obtain ⟨b9, o9, rfl, _, hc9⟩ := HJ9.out.at_ (by omega)
                  have hy := hc9 j hjn
                  have hym : l[j]?.getD 0 ∈ l := by rw [List.getElem?_eq_getElem (by rw [HJ9.out.len]; exact hjn)]; exact List.getElem_mem _
                  have hne := HXN.out _ hym
                  have hyw : wr.cell? ⟨b9, o9 + j, none⟩ = some (.int .i64 (l[j]?.getD 0)) := by rw [HQ.out.2]; exact hy
                  have hxw3 : wr.cell? ⟨b8, o8, none⟩ = some (.int .i64 x) := by rw [HQ.out.2]; exact hxz
                  have hxw2 : wr.cell? ⟨b8, o8 + kk, none⟩ = some (.int .i64 x) := by rw [HQ.out.2]; exact hxq
                  clear hc9 hy hym
                  generalize l[j]?.getD 0 = u at *
                  go_wp2_with fail
                  go_quiet (fail)
                  go_wp2_with fail
                  go_roundw
                  case rel => exact ⟨j + 1, by omega, by go_num, below_drewN HQ.out.1 _, HQ.out.2⟩
                  case measure => simp [intOf]; omega
                · obtain rfl : j = n := by omega
                  go_wp2_with fail
                  go_roundw
                  case rel => exact ⟨kk + 1, by omega, congrArg (Value.int IntKind.i64) (by omega), HQ.out⟩
                  case measure => simp [intOf]; omega
            · obtain ⟨x', hx', hlt'⟩ := hprev (by omega)
              have e1 : (kk : Int) - 1 = ((kk - 1 : Nat) : Int) := by omega
              have e2 : ¬ x ≤ x' := by omega
              have hd : decide (0 < kk) = true := decide_eq_true (by omega)
              have hd2 : 0 < kk := by omega
              have e4 : kk - 1 < t8 := by omega
              clear hprev
              go_wp2_with fail
              go_quiet (fail)
              go_wp2_with fail
              generalize wr = V1 at *
              go_loopw [15] (fun i wr => ∃ j : Nat, j ≤ n ∧ i = .int .i64 j ∧ Hid (Below w9.heap.size w9 wr ∧ ∀ p, wr.cell? p = w9.cell? p)) (fun i _ => n - (intOf i).toNat)
              case atStart => exact ⟨0, Nat.zero_le _, rfl, below_drewN HRR.out.1 _, HRR.out.2⟩
              case round =>
                obtain ⟨j, hj, rfl, HQ⟩ := hrel
                by_cases hjn : j < n
                · obtain ⟨b9, o9, rfl, _, hc9⟩ := HJ9.out.at_ (by omega)
                  have hy := hc9 j hjn
                  have hym : l[j]?.getD 0 ∈ l := by rw [List.getElem?_eq_getElem (by rw [HJ9.out.len]; exact hjn)]; exact List.getElem_mem _
                  have hne := HXN.out _ hym
                  have hyw : wr.cell? ⟨b9, o9 + j, none⟩ = some (.int .i64 (l[j]?.getD 0)) := by rw [HQ.out.2]; exact hy
                  have hxw2 : wr.cell? ⟨b8, o8 + kk, none⟩ = some (.int .i64 x) := by rw [HQ.out.2]; exact hxq
                  clear hc9 hy hym
                  generalize l[j]?.getD 0 = u at *
                  go_wp2_with fail
                  go_quiet (fail)
                  go_wp2_with fail
                  go_roundw
                  case rel => exact ⟨j + 1, by omega, by go_num, below_drewN HQ.out.1 _, HQ.out.2⟩
                  case measure => simp [intOf]; omega
                · obtain rfl : j = n := by omega
                  go_wp2_with fail
                  go_roundw
                  case rel => exact ⟨kk + 1, by omega, by go_num, HQ.out⟩
                  case measure => simp [intOf]; omega
          · obtain rfl : kk = t8 := by omega
            have HBe := Lib.hid (HBw.out.trans (HRR.out.1.mono HBw.out.size))
            have HIe := Lib.hid ((HI9.out.below HRR.out.1).more (B' := wr.heap.size) HRR.out.1.size)
            have HDN : Hid (k + 1 < 2 → ∀ x ∈ L8, x ∉ nzl (f (k + 1))) := fun h1 x hx hy => by
              obtain rfl : k = 0 := by omega
              have hx := HP8.out.mem_iff.1 hx
              unfold nzl at hx hy
              obtain ⟨i, hi, e⟩ := List.mem_map.1 hx
              obtain ⟨j, hj, e'⟩ := List.mem_map.1 hy
              refine (HF.out.fl 1 (by omega)).mid.oth j (mem_nzi.1 hj).1 (mem_nzi.1 hj).2 (mem_gl.2 ⟨i, (mem_nzi.1 hi).1, (mem_nzi.1 hi).2, ?_⟩)
              have : ((f 0 i : Nat) : Int) = ((f 1 j : Nat) : Int) := by rw [e]; exact e'.symm
              show f 0 i = f 1 j
              omega
            have hsum : ((sumz f (k + 1) : Nat) : Int) = ((sumz f k : Nat) : Int) + (kk : Int) := by rw [sumz, HNZ.out]; omega
            have hk86 : kk ≤ 86 := by rw [← HNZ.out]; exact nzn_86 _
            have hs86 : sumz f k ≤ 1000 := by
              have h0 := nzn_86 (f 0); have h1 := nzn_86 (f 1)
              have : k = 0 ∨ k = 1 := by omega
              rcases this with rfl | rfl <;> simp only [sumz] <;> omega
            clear HRR HI9 HJ9 HBw HR8 HP8 HLT
            generalize sumz f k = SK at *
            go_wp2_with fail
            go_roundw
            case rel => exact ⟨k + 1, by omega, by go_num, by rw [hsum], _, _, _, _, rfl, HIe.out, HDN.out, HBe.out⟩
            case measure => simp [intOf]; omega
    · obtain rfl : k = 2 := by omega
      have HSe := Lib.hid (HS.out.below hb)
      have hfr := (HF.out.two (i := 0) (by omega)).free (HS.out.below hb)
      have hsle : nzn (f 0) + nzn (f 1) ≤ N - 43 := by
        have h1 := count_mid (HF.out.two (i := 0) (by omega)).a.mid (gl_nodup (HF.out.two (i := 0) (by omega)).b.mid)
        rw [gl_len] at h1
        have h2 : K.count (view X [] 34) 43 (N - 43) ≤ N - 43 := by rw [count_len]; exact Nat.le_trans (List.length_filter_le _ _) (by simp)
        show nzn (f 0) + nzn (f (1 - 0)) ≤ N - 43
        omega
      have hfree : ((N - 43 - (nzn (f 0) + nzn (f (1 - 0))) : Nat) : Int) = (N : Int) - 43 - ((sumz f 2 : Nat) : Int) := by
        show ((N - 43 - (nzn (f 0) + nzn (f 1)) : Nat) : Int) = _
        simp only [sumz]
        omega
      rw [hfree] at hfr
      have hs2 : sumz f 2 ≤ 1000 := by have h0 := nzn_86 (f 0); have h1 := nzn_86 (f 1); simp only [sumz]; omega
      have HFR := Lib.hid hfr
      have c0 := (HM.out.keep (hb.block b HM.out.lt)).c0
      have HB := Lib.hid hb
      clear hi hd hb hfr hsle hfree
      generalize sumz f 2 = SK at *
      go_wp2_with fail
      refine HFR.out.mono ?_
      rintro e w9 ⟨rfl, hb9⟩
      have HE := Lib.hid (HB.out.trans (hb9.mono HB.out.size))
      have q1 : (((N : Int) - 43 - (SK : Int)) == ((N : Int) - 43 - (SK : Int))) = true := by simp
      clear hb9
      go_wp2_with fail
      go_ret
      exact ⟨rfl, HE.out⟩
end Go.Proofs.YtijbgdihnjnllaaGreat.V
