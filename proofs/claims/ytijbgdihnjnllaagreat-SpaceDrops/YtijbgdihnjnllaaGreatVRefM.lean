/- What the reference's Write and Trunc make; bytes 0 as a text. -/
import Derived.Test.YtijbgdihnjnllaaGreatVRef
namespace Go.Proofs.YtijbgdihnjnllaaGreat.V
open Go.RowKit
set_option linter.unusedVariables false
set_option maxRecDepth 20000
def noughts (k : Nat) : List UInt8 := List.replicate k 0
theorem mk_any (k : Nat) (hk : k ≤ 9728) (w : World) : (Instr.makeSlice 27 (.int .i64 (k : Int)) (.int .i64 (k : Int))).run Tryz.prog w = .ok (.slice (some ⟨w.heap.size, 0, none⟩) k k) (w.alloc (.cells (bc (noughts k)).toArray 5)) := by
  have h : (Tryz.prog.info? 5).map (fun i => (i.zero, i.size, i.bytes)) = some (some (.int .u8 0), 1, 1) := by kernel_rfl
  cases hq : Tryz.prog.info? 5 with
  | none => simp [hq] at h
  | some i =>
    simp only [hq, Option.map_some, Option.some.injEq, Prod.mk.injEq] at h
    have := run_makeSlice (P := Tryz.prog) w 27 5 i _ Tryz.underlying27 hq h.1 .i64 .i64 k k (by omega) (by omega) (by rw [h.2.1]; omega) (by rw [h.2.2]; omega) (by omega)
    rw [h.2.1] at this
    rw [this, show ((k : Int)).toNat = k by omega, Nat.mul_one]
    have e : madeCells (Value.int IntKind.u8 0).cells k = (bc (noughts k)).toArray := by
      apply Array.ext'
      unfold noughts bc
      rw [List.map_replicate]
      apply List.ext_getElem
      · simp [madeCells, Value.cells]
      · intro i h1 h2
        simp [madeCells, Value.cells, Nat.mod_one]
    rw [e]
/-- The text of bytes 0. -/
theorem mk_str (k : Nat) (hk : k ≤ 9728) (w W : World) (hW : W.heap[w.heap.size]? = some (.cells (bc (noughts k)).toArray 5 (0, 0))) : (convert 27 9 (.slice (some ⟨w.heap.size, 0, none⟩) k k)).run Tryz.prog W = .ok (.string (sb (noughts k))) W := by
  have hB : F.Bts W (w.heap.size + 1) (some ⟨w.heap.size, 0, none⟩) k k (noughts k) := ⟨by unfold noughts; simp, Nat.le_refl _, by unfold maxLen; omega, (fun e => by cases e), fun _ => ⟨w.heap.size, 0, rfl, by omega, fun j hj => by
    have hl : j < (noughts k).length := by unfold noughts; simpa using hj
    rw [Nat.zero_add, cell_of_row W _ j _ 5 _ hW, List.getElem?_toArray, bc_get hl]⟩⟩
  exact hB.str W fun _ _ => rfl
def pad (l : List UInt8) (a : Nat) : List UInt8 := l ++ noughts (a - l.length)
theorem pad_len (l : List UInt8) (a : Nat) : (pad l a).length = max l.length a := by unfold pad noughts; simp; omega
theorem pad_id {l : List UInt8} {a : Nat} (h : a ≤ l.length) : pad l a = l := by unfold pad noughts; rw [show a - l.length = 0 by omega]; simp
/-- The document's Write. -/
def wrL (l : List UInt8) (a : Nat) (d : List UInt8) : List UInt8 := (pad l a).take a ++ d ++ (pad l a).drop (a + d.length)
def wrG (g : Nat → Bool) (a n k : Nat) : Nat → Bool := fun b => g b || (decide (a / 128 ≤ b) && decide (b < a / 128 + k))
def slen (w : World) (b : Nat) : Nat := match w.cell? ⟨b, 0, none⟩ with | some (.string s) => s.size | _ => 0
theorem RF.slen {w : World} {b : Nat} {l : List UInt8} {g : Nat → Bool} (h : RF w b l g) : slen w b = l.length := by unfold V.slen; rw [h.c0]; rfl
end Go.Proofs.YtijbgdihnjnllaaGreat.V
