/- Whole entries loaded, stored and returned; a slice's part. -/
import Derived.Test.YtdlephffcbkalaaMem
namespace Go.Proofs.Ytdlephffcbkalaa
open Go.RowKit
set_option linter.unusedVariables false

theorem load_row {P : Program} (w : World) (g : Nat) (t ty : TypeId) (cs : Array Value) (fr : Nat × Nat) (d : TypeDesc) (hg : w.heap[g]? = some (.cells cs t fr)) (hu : P.underlying ty = some d) (hd : d.isRow = true) (hi : (P.info? ty).map (·.size) = some cs.size) :
    (loadVar ty ⟨g, 0, none⟩).run P w = .ok (.agg cs) w := by
  have := run_loadVar_mid w g 0 ty cs.toList d (fun j v hv => by rw [Nat.zero_add, cell_of_row w g j cs t fr hg]; simpa using hv) hu hd (by simpa using hi)
  simpa using this
/-- A whole row out of a block. -/
theorem wpList_load_row {P : Program} {ops : Array Oper} {rest : List Oper} {op : Oper} {a : Act} {w : World} {Q : Exit → Act → World → Prop} (hw : Region.wanted op (yielded ops a.tmps) = true) (ty : TypeId) (x : Operand) (ho : op.op = .load ty x)
    (g : Nat) (hx : a.eval x = .pointer (some ⟨g, 0, none⟩)) (C : Array Value) (t : TypeId) (fr : Nat × Nat) (hg : w.heap[g]? = some (.cells C t fr)) (d : TypeDesc)
    (hu : P.underlying ty = some d) (hd : d.isRow = true) (hi : (P.info? ty).map (·.size) = some C.size)
    (h : wpList P ops Q rest (a.put op.dst (.agg C)) w) : wpList P ops Q (op :: rest) a w :=
  wpList_step fun K hK => by
    simp only [hw, if_true]
    unfold Oper.wp execOp
    simp only [ho, hx, Instr.loadAt, Instr.sureAddr, Sem.run_bind, Sem.run_pure, Result.andThen_ok, load_row w g t ty C fr d hg hu hd hi]
    exact hK _ _ h
/-- A whole row into a block. -/
theorem wpList_store_row {P : Program} {ops : Array Oper} {rest : List Oper} {op : Oper} {a : Act} {w : World} {Q : Exit → Act → World → Prop} (hgd : op.guard = none) (ty : TypeId) (x y : Operand) (ho : op.op = .store ty x y)
    (g : Nat) (C C' : Array Value) (t : TypeId) (hx : a.eval x = .pointer (some ⟨g, 0, none⟩)) (hy : a.eval y = .agg C') (hg : w.heap[g]? = some (.cells C t (0, 0)))
    (hi : (P.info? ty).map (·.size) = some C'.size) (hs : C.size = C'.size) (h1 : C'.all (·.oneCell') = true)
    (h : wpList P ops Q rest (a.put op.dst undef) (w.setRow g C')) : wpList P ops Q (op :: rest) a w :=
  wpList_plain hgd fun K hK => by
    unfold Oper.wp execOp
    simp only [ho, hx, hy, Instr.storeAt, Instr.sureAddr, Sem.run_bind, Sem.run_pure, Result.andThen_ok, run_storeVar_row w g t ty C C' hg hi hs h1]
    exact hK _ _ h
/-- A whole array or struct into the block that was made last, at a region's list. -/
theorem wpList_store_new {P : Program} {ops : Array Oper} {rest : List Oper} {op : Oper} {a : Act} {Q : Exit → Act → World → Prop} (hgd : op.guard = none) (ty : TypeId) (x y : Operand) (ho : op.op = .store ty x y)
    (w : World) (c c' : Array Value) (hx : a.eval x = .pointer (some ⟨w.heap.size, 0, none⟩)) (hy : a.eval y = .agg c')
    (hi : (P.info? ty).map (·.size) = some c'.size) (hs : c.size = c'.size) (h1 : c'.all (·.oneCell') = true)
    (h : wpList P ops Q rest (a.put op.dst undef) (w.alloc (.cells c' ty))) : wpList P ops Q (op :: rest) a (w.alloc (.cells c ty)) :=
  wpList_plain hgd fun K hK => by
    unfold Oper.wp execOp
    simp only [ho, hx, hy, Instr.storeAt, Instr.sureAddr, Sem.run_bind, Sem.run_pure, Result.andThen_ok, run_storeVar_new w ty c c' hi hs h1]
    exact hK _ _ h
/-- Two results, a row out of its block and a number. -/
theorem ret_row2 {fn : Func} {p u : Tmp} {ty : TypeId} (h : fn.results = #[.cell p ty, .tmp u]) {tmps : Array Value} {W : World} {g : Nat} {cs : Array Value} {t : TypeId} {fr : Nat × Nat} {d : TypeDesc} (hp : tmps.getD p undef = .pointer (some ⟨g, 0, none⟩)) (hg : W.heap[g]? = some (.cells cs t fr))
    (hu : Try.prog.underlying ty = some d) (hd : d.isRow = true) (hi : (Try.prog.info? ty).map (·.size) = some cs.size) : (results fn tmps).run Try.prog W = .ok (.tuple #[.agg cs, tmps.getD u undef]) W := by
  rw [results_cell_tmp h, hp]
  have hl := load_row (P := Try.prog) W g t ty cs fr d hg hu hd hi
  simp only [asAddr, Sem.run_pure, Result.andThen_ok, hl]
theorem setRow_in (w : World) (g : Nat) (C C' : Array Value) (t : TypeId) (h : w.heap[g]? = some (.cells C t (0, 0))) : (w.setRow g C').heap[g]? = some (.cells C' t (0, 0)) := setRow_heap w g C C' t _ h
theorem below_row {B g : Nat} {a w : World} (h : Below B a w) (hg : B ≤ g) (C : Array Value) : Below B a (w.setRow g C) :=
  ⟨h.os, h.tape, h.output, by simpa [World.setRow] using h.size, fun k hk => (setRow_other w g k _ (by omega)).trans (h.block k hk)⟩
/-- A part of a slice. -/
theorem Bts.sub {w : World} {B n c bb off : Nat} {l : List UInt8} (h : Bts w B (some ⟨bb, off, none⟩) n c l) {s m : Nat} (hm : s + m ≤ n) : Bts w B (some ⟨bb, off + s, none⟩) m (c - s) ((l.drop s).take m) := by
  have h1 := h.len
  have h2 := h.cap
  have h3 := h.lim
  refine ⟨by rw [List.length_take, List.length_drop]; omega, by omega, by omega, (fun e => by cases e), fun h0 => ?_⟩
  obtain ⟨b, o, e, hb, hc⟩ := h.at_ (by omega)
  cases e
  refine ⟨bb, off + s, rfl, hb, fun j hj => ?_⟩
  rw [Nat.add_assoc, hc (s + j) (by omega), List.getElem?_take, if_pos hj, List.getElem?_drop]
/-- The same, with a third number. -/
theorem Bts.sub3 {w : World} {B n c bb off : Nat} {l : List UInt8} (h : Bts w B (some ⟨bb, off, none⟩) n c l) {s m : Nat} (hm : s + m ≤ n) : Bts w B (some ⟨bb, off + s, none⟩) m m ((l.drop s).take m) := by
  have h1 := h.sub hm
  have h2 := h1.cap
  have h3 := h1.lim
  exact ⟨h1.len, Nat.le_refl _, by omega, (fun e => by cases e), h1.at_⟩
end Go.Proofs.Ytdlephffcbkalaa
