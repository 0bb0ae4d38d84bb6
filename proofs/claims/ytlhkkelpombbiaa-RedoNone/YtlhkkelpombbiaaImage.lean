/- Image, walked. -/
import Derived.Test.YtlhkkelpombbiaaGet
namespace Go.Proofs.Ytlhkkelpombbiaa
open Go.RowKit
set_option linter.unusedVariables false

theorem z67 (w : World) : (zeroValue 80).run Try.prog w = .ok (.agg (bc zeros).toArray) w :=
  (zero_of_info (n := 128) (by have h := i67; cases hq : Try.prog.info? 80 with
    | none => simp [hq] at h
    | some i => simp only [hq, Option.map_some, Option.some.injEq, Prod.mk.injEq] at h ⊢; exact ⟨h.1, h.2.1⟩)).1 w
/-- The first k of a slice of slices of bytes. -/
def Rows1 (w : World) (b n lo : Nat) (l : List (List UInt8)) (k : Nat) : Prop :=
  ∃ C, w.heap[b]? = some (.cells C 23 (0, 0)) ∧ C.size = n ∧ ∀ j x, j < k → l[j]? = some x → ∃ bj, C[j]? = some (.slice (some ⟨bj, 0, none⟩) 128 128) ∧ lo ≤ bj ∧ bj ≠ b ∧ w.heap[bj]? = some (.cells (bc x).toArray 80 (0, 0))
def ImgP (w : World) (N : Nat) (l : List (List UInt8)) (e : Ending) (w' : World) : Prop :=
  ∃ b, e = .returned (.slice (some ⟨b, 0, none⟩) N N) ∧ w.heap.size ≤ b ∧ Rows1 w' b N w.heap.size l N ∧ Below w.heap.size w w'
def nils (N : Nat) : Array Value := madeCells #[.slice none 0 0] N
theorem nils_size (N : Nat) : (nils N).size = N := size_madeCells _ _
theorem make46 (N : Nat) (hN : N ≤ 1024) (w : World) : (Instr.makeSlice 60 (.int .i64 N) (.int .i64 N)).run Try.prog w = .ok (.slice (some ⟨w.heap.size, 0, none⟩) N N) (w.alloc (.cells (nils N) 23)) := by
  have h : (Try.prog.info? 23).map (fun i => (i.zero, i.size, i.bytes)) = some (some (.slice none 0 0), 1, 24) := by kernel_rfl
  cases hq : Try.prog.info? 23 with
  | none => simp [hq] at h
  | some i =>
    simp only [hq, Option.map_some, Option.some.injEq, Prod.mk.injEq] at h
    have := run_makeSlice (P := Try.prog) w 60 23 i _ Try.underlying60 hq h.1 .i64 .i64 N N (by omega) (by omega) (by rw [h.2.1]; simp; omega) (by rw [h.2.2]; omega) (by omega)
    rw [this, h.2.1, Nat.mul_one]
    rfl
theorem image_nil (w : World) : Calls Try.prog 24 #[.pointer none] w fun e w' => e = .returned (.slice none 0 0) ∧ w = w' := by
  go_enter Try.func24, Try.ntmps24
  go_wp2_with fail
  go_ret
  exact ⟨rfl, rfl⟩
set_option maxRecDepth 20000 in
set_option maxHeartbeats 1000000 in
theorem image_any {w : World} {d : Nat} {O : List Nat} {N : Nat} {s : DS} (h : Drv w d O N s) :
    Calls Try.prog 24 #[.pointer (some ⟨d, 0, none⟩)] w (ImgP w N s.lasting) := by
  obtain ⟨bn, cn, bl, cl, vs, rfl, h⟩ := h
  have hn1 := h.n1
  have h1 := h.st.c1
  have H := Lib.hid h
  have hlt := h.las.lt
  have hdl := h.st.lt
  have hm := make46 N hn1
  have HZ := Lib.hid z67
  clear h
  go_enter Try.func24, Try.ntmps24
  go_wp2_with fail
  clear hm
  go_loopw [19] (fun i wr => ∃ k : Nat, k ≤ N ∧ i = .int .i64 k ∧ Hid (Rows1 wr w.heap.size N w.heap.size s.lasting k) ∧ Hid (Below w.heap.size w wr)) (fun i _ => N - (intOf i).toNat)
  case atStart =>
    exact ⟨0, Nat.zero_le _, rfl, ⟨_, heap_alloc_new _ _, nils_size N, fun j x hj => absurd hj (by omega)⟩, (Below.refl _ _).alloc (Nat.le_refl _) _⟩
  case round =>
    obtain ⟨k, hk, rfl, HR, HB⟩ := hrel
    by_cases hlt : k < N
    · obtain ⟨x, hx⟩ : ∃ x, s.lasting[k]? = some x := ⟨_, List.getElem?_eq_getElem (by rw [H.out.ok.lasting]; exact hlt)⟩
      have HX := Lib.hid hx
      clear hx
      have HL : Hid (x.length = 128) := (H.out.las.all k x HX.out).1
      have HI : Hid ((Try.prog.info? 80).map (·.size) = some (bc x).toArray.size) := by
        show _ = _
        rw [List.size_toArray, bc_len, HL.out]; exact s67
      have HS : Hid ((bc zeros).toArray.size = (bc x).toArray.size) := by
        show _ = _
        rw [List.size_toArray, List.size_toArray, bcz_len, bc_len, HL.out]
      have hz : ∀ w, (zeroValue 80).run Try.prog w = .ok (.agg (bc zeros).toArray) w := HZ.out
      go_wp2_with (first | (refine wpList_load_mid rfl 80 _ rfl bl _ rfl (bc x) _ (rangeAt_of_heap (H.out.las.all k x HX.out).2 (HB.out.block bl H.out.las.lt)) Try.underlying80 rfl (by rw [bc_len, HL.out]; exact s67) ?_) | (refine wpList_store_new rfl 80 _ _ rfl wr (bc zeros).toArray (bc x).toArray rfl rfl HI.out HS.out (all_oneCell_toArray (bc_one x)) ?_) | (refine wpList_load_new rfl 80 _ rfl wr (bc x).toArray 128 5 rfl Try.underlying80 HI.out ?_) | fail)
      clear hz
      refine (bytes_any x _ HL.out).mono ?_
      rintro e w2 ⟨b, rfl, hb1, hb2, hb3⟩
      obtain ⟨C, hC, hCs, hrow⟩ := HR.out
      have hwr : w.heap.size < wr.heap.size := (Array.getElem?_eq_some_iff.1 hC).1
      have hsz : (wr.alloc (.cells (bc x).toArray 80)).heap.size = wr.heap.size + 1 := by simp
      rw [hsz] at hb1
      have hkeep : ∀ j, j < wr.heap.size → w2.heap[j]? = wr.heap[j]? := fun j hj => by
        rw [hb3.block j (by rw [hsz]; omega), Below.heap_alloc _ _ _ hj]
      have hC2 : w2.heap[w.heap.size]? = some (.cells C 23 (0, 0)) := (hkeep _ hwr).trans hC
      have hcell : w2.cell? ⟨w.heap.size, k, none⟩ = some (C[k]?.getD undef) := by
        rw [cell_of hC2]; simp [hCs, hlt]
      have hfro := frozen_of hC2 k
      have HB2 : Hid (Below w.heap.size w w2) := ⟨hb3.os.trans HB.out.os, hb3.tape.trans HB.out.tape, hb3.output.trans HB.out.output, by have := hb3.size; have := HB.out.size; rw [hsz] at *; omega, fun j hj => by rw [hkeep j (by omega), HB.out.block j hj]⟩
      have HR2 : Hid (Rows1 (w2.setCell ⟨w.heap.size, k, none⟩ (.slice (some ⟨b, 0, none⟩) 128 128)) w.heap.size N w.heap.size s.lasting (k + 1)) := by
        refine ⟨_, heap_setCell_at hC2 _, by simp [hCs], fun j y hj hy => ?_⟩
        by_cases e : j = k
        · subst e
          have : y = x := by rw [HX.out] at hy; exact (Option.some.inj hy).symm
          subst this
          exact ⟨b, by simp [hCs, hlt], by omega, by omega, by rw [Below.heap_setCell _ _ _ _ (by show b ≠ w.heap.size; omega)]; exact hb2⟩
        · obtain ⟨bj, g1, g2, g3, g4⟩ := hrow j y (by omega) hy
          have hbj : bj < wr.heap.size := (Array.getElem?_eq_some_iff.1 g4).1
          exact ⟨bj, by rw [Array.getElem?_setIfInBounds_ne (by omega)]; exact g1, g2, g3, by rw [Below.heap_setCell _ _ _ _ g3, hkeep _ hbj]; exact g4⟩
      clear hb1 hb2 hb3 hC hCs hrow hwr hsz hkeep hC2 HR HB
      go_wp2_with fail
      go_roundw
      case rel => exact ⟨k + 1, by omega, by go_num, HR2, HB2.out.setCell (Nat.le_refl _) _⟩
      case measure => simp [intOf]; omega
    · obtain rfl : k = N := by omega
      go_wp2_with fail
      go_ret
      exact ⟨_, rfl, Nat.le_refl _, HR.out, HB.out⟩
end Go.Proofs.Ytlhkkelpombbiaa
