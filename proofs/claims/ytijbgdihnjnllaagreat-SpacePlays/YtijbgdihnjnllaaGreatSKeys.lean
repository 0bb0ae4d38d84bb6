/- slices.Sorted(maps.Keys(m)) of a map of sectors: its keys, rising. -/
import Derived.Test.YtijbgdihnjnllaaGreatSMap
namespace Go.Proofs.YtijbgdihnjnllaaGreat
open Go.RowKit Go.Maps Go.Sort Go.Shelf
set_option linter.unusedVariables false

theorem sortsA (m : Nat) : AnyZI.SortsIn Tryz.prog Tryz.sortedA_ren Fence.wide m :=
  ⟨fun blk off cap ss W hH hblk hsz => callsIn_wide.2 (AnyM.slices_Sort_int Tryz.sortA blk off cap ss W hH hblk hsz),
   fun p cap W => callsIn_wide.2 (AnyM.slices_Sort_int_none Tryz.sortA p cap W)⟩
theorem sorted_self {l ss : List Int} (hp : ss.Perm l) (hl : l.Pairwise (· < ·)) : ss.mergeSort (fun x y => decide (x ≤ y)) = l := by
  have h1 := mergeSort_of_perm_i hp
  refine h1.trans ?_
  have : l.Pairwise fun a b => (fun x y => decide (x ≤ y)) a b = true := hl.imp fun {a b} h => by simp; omega
  exact List.mergeSort_of_pairwise this
theorem keys_call (b : Nat) (W : World) : Calls Tryz.prog 91 #[.map (some b)] W fun e w' => e = .returned (.func (.func 134) #[] #[.pointer (some ⟨W.heap.size, 0, none⟩)]) ∧ w' = W.alloc (.cells #[.map (some b)] 102) :=
  (callsIn_wide (n := 5)).1 (AnyZI.keys_in Tryz.keysA Fence.wide 5 trivial rfl (some b) W)
set_option maxHeartbeats 1000000 in
theorem sorted_call {w : World} {b : Nat} {m : List Wr} (h : MapAt w b m) (hm : Rising m) (hl : m.length ≤ 24) :
    Calls Tryz.prog 90 #[.func (.func 134) #[] #[.pointer (some ⟨w.heap.size, 0, none⟩)]] (w.alloc (.cells #[.map (some b)] 102)) fun e w' =>
      ∃ v, e = .returned v ∧ w'.ownsRow w.heap.size 3 1 v (m.map (·.1)).length ((m.map (·.1)).map encZ) ∧ Below w.heap.size w w' := by
  have hbl := h.lt
  have hown : w.ownsMap Tryz.prog 3 RH b m.length (mapD m) := h
  have hseq : SeqGives Fence.wide 2 Tryz.prog 134 #[.pointer (some ⟨w.heap.size, 0, none⟩)] encZ (fun ss => ss.Perm (intKeys (mapD m))) (Maps.size (mapD m)) (w.alloc (.cells #[.map (some b)] 102)) :=
    AnyZI.keys_gives (ρ := Tryz.keysA_ren) { Tryz.keysA with } Fence.wide _ trivial rfl (by omega) w.heap.size b m.length (mapD m) _ (by simp) (by simp) (by
      obtain ⟨es, clock, hb, Ft, hs, hD⟩ := hown
      exact ⟨es, clock, (Below.heap_alloc _ _ b hbl).trans hb, Ft, hs, hD⟩)
  have hmax : Maps.size (mapD m) ≤ maxLen := by rw [size_mapD]; unfold maxLen; omega
  have hbytes : Maps.size (mapD m) * 8 ≤ 140737488355328 := by rw [size_mapD]; omega
  have cS := AnyZI.sorted_in Tryz.sortedA Fence.wide 5 trivial trivial trivial trivial rfl (by omega) (sortsA _) (enters_of Tryz.func56 (by kernel_rfl) rfl) 134 #[.pointer (some ⟨w.heap.size, 0, none⟩)] trivial (enters_of Tryz.func134 (by kernel_rfl) rfl) _ _ hmax hbytes _ hseq
  change CallsIn _ _ Tryz.prog 90 _ _ _ at cS
  refine ((callsIn_wide (n := 5)).1 cS).mono ?_
  rintro e w' ⟨v, ss, rfl, hS, hrow, hnil, hb⟩
  rw [intKeys_mapD] at hS
  have hr : (m.map (·.1)).Pairwise (· < ·) := List.pairwise_map.2 hm
  rw [sorted_self hS hr, hS.length_eq] at hrow
  exact ⟨v, rfl, ownsRow_base_a hrow (by simp), ((Below.refl _ w).alloc (Nat.le_refl _) _).trans (hb.mono (by simp))⟩
end Go.Proofs.YtijbgdihnjnllaaGreat
