/- super.Decode, walked. -/
import Derived.Test.YtbcomdjliioljaaEnc
namespace Go.Proofs.Ytbcomdjliioljaa
open Go.RowKit
set_option linter.unusedVariables false

/-- No sector: the beginning of zeros, and ErrForm. -/
def NoSec (w : World) (e : Ending) (w' : World) : Prop := e = .returned (.tuple #[.agg #[.int .i64 0, .int .i64 0, .int .i64 0], .int .i64 2]) ∧ Below w.heap.size w w'
def Said (w : World) (x y z : Nat) (e : Ending) (w' : World) : Prop := e = .returned (.tuple #[.agg #[.int .i64 x, .int .i64 y, .int .i64 z], .int .i64 0]) ∧ Below w.heap.size w w'
theorem decode_short (A : Option Addr) (n c : Nat) (w : World) (hn : n ≠ 128) : Calls Try.prog 10 #[.slice A n c] w (NoSec w) := by
  have h1 : ((n : Int) != 128) = true := by rw [bne_iff_ne]; omega
  go_enter Try.func10, Try.ntmps10
  go_wp2_with fail
  go_returns
  exact ⟨rfl, by go_grown⟩
/-- The list, when k numbers are laid. -/
def lst (x y z : Int) (k : Nat) : Array Value := #[.int .i64 (if 0 < k then x else 0), .int .i64 (if 1 < k then y else 0), .int .i64 (if 2 < k then z else 0)]
theorem lst_set (b : List UInt8) {k : Nat} (hk : k < 3) : (lst (num b 0) (num b 1) (num b 2) k).setIfInBounds k (.int .i64 (num b k)) = lst (num b 0) (num b 1) (num b 2) (k + 1) := by
  match k, hk with
  | 0, _ => rfl
  | 1, _ => rfl
  | 2, _ => rfl
/-- What stands in memory while the numbers are read. -/
structure Rd (w wr : World) (b : List UInt8) (g k : Nat) : Prop where
  form : F.FormAt wr g w.heap.size (b.drop (4 + 4 * k)) false
  zero : wr.heap[w.heap.size]? = some (.cells #[.int .i64 0, .int .i64 0, .int .i64 0] 23 (0, 0))
  list : wr.heap[w.heap.size + 1]? = some (.cells (lst (num b 0) (num b 1) (num b 2) k) 40 (0, 0))
  gt : w.heap.size + 1 < g
  bel : Below w.heap.size w wr
theorem Rd.cell {w wr : World} {b : List UInt8} {g k : Nat} (h : Rd w wr b g k) (hk : k < 3) : (∃ v, wr.cell? ⟨w.heap.size + 1, k, none⟩ = some v) ∧ wr.frozen? ⟨w.heap.size + 1, k, none⟩ = false := by
  have hs : k < (lst (num b 0) (num b 1) (num b 2) k).size := by simp [lst]; omega
  exact ⟨⟨(lst (num b 0) (num b 1) (num b 2) k)[k], by rw [F.cell_in h.list, Array.getElem?_eq_getElem hs]⟩, F.free_in h.list k⟩
theorem Rd.next {w wr w' : World} {b : List UInt8} {g k : Nat} (h : Rd w wr b g k) (hk : k < 3) (hf : F.FormAt w' g w.heap.size ((b.drop (4 + 4 * k)).drop 4) false) (hg : wr.grownBy w' (some g)) :
    (∃ v, w'.cell? ⟨w.heap.size + 1, k, none⟩ = some v) ∧ w'.frozen? ⟨w.heap.size + 1, k, none⟩ = false ∧ Rd w (w'.setCell ⟨w.heap.size + 1, k, none⟩ (.int .i64 (num b k))) b g (k + 1) := by
  have hlt := h.form.lt
  have hgt := h.gt
  have hset : ∀ j, j ≠ w.heap.size + 1 → (w'.setCell ⟨w.heap.size + 1, k, none⟩ (.int .i64 (num b k))).heap[j]? = w'.heap[j]? := fun j hj => Below.heap_setCell _ _ _ _ (fun e => hj e)
  have hblk : ∀ j, j < wr.heap.size → j ≠ g → w'.heap[j]? = wr.heap[j]? := fun j hj hne => hg.block j hj (fun e => by injection e with e; exact hne e)
  have h1 : w'.heap[w.heap.size + 1]? = some (.cells (lst (num b 0) (num b 1) (num b 2) k) 40 (0, 0)) := (hblk _ (by omega) (by omega)).trans h.list
  have hs : k < (lst (num b 0) (num b 1) (num b 2) k).size := by simp [lst]; omega
  refine ⟨⟨(lst (num b 0) (num b 1) (num b 2) k)[k], by rw [F.cell_in h1, Array.getElem?_eq_getElem hs]⟩, F.free_in h1 k, ?_, ?_, ?_, hgt, ?_⟩
  · rw [List.drop_drop] at hf
    obtain ⟨A, n, c, hh, hB⟩ := hf.ex
    have e : 4 + 4 * (k + 1) = 4 + 4 * k + 4 := by omega
    rw [e]
    refine ⟨hf.le, A, n, c, (hset g (by omega)).trans hh, hB.keep fun p hp => World.cell?_of_block (hset _ (by omega))⟩
  · rw [hset _ (by omega), hblk _ (by omega) (by omega)]; exact h.zero
  · rw [F.heap_set h1, lst_set b hk]
  · exact ((h.bel.grown hg h.bel.size (fun j hj => by cases hj; omega))).setCell (p := ⟨w.heap.size + 1, k, none⟩) (by simp) _
end Go.Proofs.Ytbcomdjliioljaa
