/- The arguments, opened: a []string that came in is a slice that holds texts. -/
import Derived.Test.YtkkfndilgoamkaaStrs
import Derived.OpenShut
import Derived.ShutString
import Derived.ChangeOld
import Derived.SizedLaws
import Derived.Deep.Strs
namespace Go.Proofs.Ytkkfndilgoamkaa
open Go.ChangeShapes Go.WideShapes Go.ChangeAt Go.RowKit
set_option linter.unusedVariables false

theorem own : ownKnob Try.prog.godebug = none := by kernel_rfl
theorem laidOut : laidOutB Try.prog = true := by kernel_rfl
theorem strCells : Try.prog.cellsOf 9 = 1 := by kernel_rfl
theorem open_texts {H : Type} {enc : TypeId × Value → H} {W : World} {a : Option Addr} {n c : Nat} {d : DataW H} {p : List MemPlace} (h : DataW.Trod enc Try.prog W 0 (fun _ => true) true 22 (.slice a n c) d p) :
    ∃ l, Strs W W.heap.size a n c l := by
  obtain ⟨fuel, hf⟩ := h
  rcases Go.Deep.open_strs Try.underlying22 Try.underlying9 strCells hf with ⟨hcs, _⟩ | ⟨x, len, cap, m, S, hcs, _, hl, hm, hmm, _, hcell⟩
  · simp [Value.cells] at hcs
    obtain ⟨rfl, rfl, rfl⟩ := hcs
    exact ⟨[], Strs.nil_ _ _⟩
  · simp [Value.cells] at hcs
    obtain ⟨rfl, rfl, rfl⟩ := hcs
    simp only [if_true] at hmm
    subst hmm
    refine ⟨(List.range n).map fun i => (S i).data.toList, by simp, hl, hm, (fun e => by cases e), fun h0 => ?_⟩
    obtain ⟨b, off, spot⟩ := x
    have hspot : spot = none := by simpa [Addr.add] using World.cell?_spot (hcell 0 (by omega)).1
    subst hspot
    have hb : b < W.heap.size := by
      have := (hcell 0 (by omega)).1
      exact World.block_lt_of_cell? W ⟨b, off, none⟩ (by rw [Addr.add_lit] at this; exact this)
    refine ⟨b, off, rfl, hb, fun j hj => ?_⟩
    have h1 := (hcell j (by omega)).1
    rw [Addr.add_lit] at h1
    rw [h1]
    simp [hj, data_bs]
end Go.Proofs.Ytkkfndilgoamkaa
