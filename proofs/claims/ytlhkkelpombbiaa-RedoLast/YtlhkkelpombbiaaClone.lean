/- slices.Clone of sectors, walked. -/
import Derived.Test.YtlhkkelpombbiaaFlush
import Derived.Lib.SliceRun
namespace Go.Proofs.Ytlhkkelpombbiaa
open Go.RowKit
set_option linter.unusedVariables false

def CloneP (w : World) (N : Nat) (l : List (List UInt8)) (e : Ending) (w' : World) : Prop :=
  ∃ g cap, e = .returned (.slice (some ⟨g, 0, none⟩) N cap) ∧ N ≤ cap ∧ w.heap.size ≤ g ∧ Secs w' g l ∧ Below w.heap.size w w'
/-- All cells of sectors are one cell each. -/
theorem Secs.ones {w : World} {b : Nat} {l : List (List UInt8)} {C : Array Value} (h : Secs w b l) (hC : w.heap[b]? = some (.cells C 80 (0, 0))) : ∀ v ∈ C.toList.take (l.length * 128), v.oneCell' = true := by
  intro v hv
  obtain ⟨j, hj, rfl⟩ := List.getElem_of_mem hv
  have hj' : j < l.length * 128 := by rw [List.length_take] at hj; omega
  have hd : j / 128 < l.length := by omega
  obtain ⟨h1, h2⟩ := h.all (j / 128) _ (List.getElem?_eq_getElem hd)
  have hm : j % 128 < (bc l[j / 128]).length := by rw [bc_len, h1]; exact Nat.mod_lt _ (by omega)
  have h3 := h2 (j % 128) _ (List.getElem?_eq_getElem hm)
  rw [cell_of hC, show j / 128 * 128 + j % 128 = j by omega, ← Array.getElem?_toList] at h3
  have h4 : (C.toList.take (l.length * 128))[j]? = C.toList[j]? := by rw [List.getElem?_take, if_pos hj']
  rw [List.getElem?_eq_getElem hj, h3] at h4
  rw [Option.some.inj h4]
  exact bc_one _ _ (List.getElem_mem hm)
set_option maxRecDepth 20000 in
set_option maxHeartbeats 1000000 in
theorem clone_any {w : World} {b N c : Nat} {l : List (List UInt8)} (h : Secs w b l) (hl : l.length = N) (h0 : 64 ≤ N) (h1 : N ≤ 1024) :
    Calls Try.prog 51 #[.slice (some ⟨b, 0, none⟩) N c] w (CloneP w N l) := by
  obtain ⟨C, hC, hCs⟩ := h.blk
  have hz := i67
  cases hq : Try.prog.info? 80 with
  | none => simp [hq] at hz
  | some i =>
    simp only [hq, Option.map_some, Option.some.injEq, Prod.mk.injEq] at hz
    have hbs : b ≠ w.heap.size := by have := h.lt; omega
    obtain ⟨g, cap, w2, hrun, hown, hgrow, hat, hlt⟩ := run_append_lies (P := Try.prog) (w.alloc (.cells #[] 80)) 81 81 w.heap.size 80 i _ 128 128 Try.underlying81 hq hz.1 hz.2.1 hz.2.2 (by show (bc zeros).toArray.size = 128; rw [List.size_toArray, bcz_len]) (by omega)
      (.slice (some ⟨w.heap.size, 0, none⟩) 0 0) 0 [] (World.ownsRow_made w #[] 0 (Nat.le_refl _) (by unfold maxLen; omega) (by simp)) ⟨b, 0, none⟩ N c (C.toList.take (N * 128))
      (by rw [List.length_take, Array.length_toList]; omega)
      (fun j u hu => by
        have hj : j < N * 128 := by have := (List.getElem?_eq_some_iff.1 hu).1; rw [List.length_take] at this; omega
        rw [Addr.add_mid, Nat.zero_add, World.cell?_alloc_lt _ _ _ h.lt, cell_of hC, ← Array.getElem?_toList, ← hu, List.getElem?_take, if_pos hj])
      (by rw [← hl]; exact h.ones hC) (by omega) (by unfold maxLen; omega) (by omega) (by simp) (w.heap.size + 1) (by simp)
    have HP : Hid (Secs w2 g l ∧ w.heap.size ≤ g ∧ N ≤ cap ∧ Below w.heap.size w w2) := by
      rcases hown.2 with ⟨hv, _⟩ | ⟨g', cap', cur, hv, hge, hg', hn, hm, hs, ht⟩
      · cases hv
      · simp only [Value.slice.injEq, Option.some.injEq, Addr.mk.injEq, and_true] at hv
        obtain ⟨rfl, _, rfl⟩ := hv
        refine ⟨h.copy hC hg' (by rw [hs, hl]; exact Nat.mul_le_mul_right _ (by omega)) (fun j hj => ?_), hge, by omega, ?_⟩
        · rw [hl] at hj
          have h1 : cur.toList[j]? = (C.toList.take (N * 128))[j]? := by
            rw [List.nil_append, Nat.zero_add] at ht
            rw [← ht, List.getElem?_take, if_pos hj]
          rw [← Array.getElem?_toList, h1, List.getElem?_take, if_pos hj, Array.getElem?_toList]
        · exact ((Below.refl _ _).alloc (Nat.le_refl _) _).grown hgrow (by simp) (fun k hk => by simp [Value.ownBlock] at hk; omega)
    clear hown hgrow hat hlt hC hCs hq hz h hl hbs
    rw [Nat.zero_add] at hrun
    have HR := Lib.hid hrun
    clear hrun
    have heq := fun W => Lib.run_eql_slice_nil (P := Try.prog) W 81 80 (some ⟨b, 0, none⟩) N c 0 0 Try.underlying81
    go_enter Try.func51, Try.ntmps51
    go_wp2_with (first | (refine wpList_append_run rfl _ _ 81 rfl _ _ _ _ rfl rfl HR.out ?_) | fail)
    go_ret
    exact ⟨g, cap, rfl, HP.out.2.2.1, HP.out.2.1, HP.out.1, HP.out.2.2.2⟩
end Go.Proofs.Ytlhkkelpombbiaa
