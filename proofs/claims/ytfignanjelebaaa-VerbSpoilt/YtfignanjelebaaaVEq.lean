/- '==' on handles, stats and recalls; a part of a row loaded, guarded or not; slices of texts and of numbers. -/
import Derived.Test.YtfignanjelebaaaVSmall
import Derived.Laws.StructEq
namespace Go.Proofs.Ytfignanjelebaaa
open Go.RowKit
set_option linter.unusedVariables false
theorem part3 {xs : Array Value} {i : Nat} {v : Value} (h : xs[i]? = some v) (w : World) : (part 3 xs i).run Try.prog w = .ok v w := by
  simp [part, h]
theorem und23 : Try.prog.underlying 23 = some (.struct (Try.prog.fieldsOf 23)) := by kernel_rfl
theorem und41 : Try.prog.underlying 41 = some (.struct (Try.prog.fieldsOf 41)) := by kernel_rfl
theorem und52 : Try.prog.underlying 52 = some (.struct (Try.prog.fieldsOf 52)) := by kernel_rfl
theorem stood23 : Try.prog.stoodInHeld 23 = false := by kernel_rfl
theorem stood41 : Try.prog.stoodInHeld 41 = false := by kernel_rfl
theorem stood52 : Try.prog.stoodInHeld 52 = false := by kernel_rfl
/-- A struct's fields compared, by type and offset alone. -/
def eqF (d : Nat) (xs ys : Array Value) : List (TypeId × Nat) → Sem Bool
  | [] => pure true
  | f :: fs => do
    let a ← part f.1 xs f.2
    let b ← part f.1 ys f.2
    let r ← Op.equalIn d f.1 a b
    if (!r) = true then pure false else eqF d xs ys fs
theorem eqFields_eq (d : Nat) (xs ys : Array Value) : ∀ fs : List Field, (fs.all fun f => decide (f.name ≠ "_")) = true → Op.eqFields d xs ys fs = eqF d xs ys (fs.map fun f => (f.type, f.offset))
  | [], _ => rfl
  | f :: fs, h => by
    simp only [List.all_cons, Bool.and_eq_true, decide_eq_true_eq] at h
    rw [Op.eqFields, if_pos h.1, List.map_cons, eqF, eqFields_eq d xs ys fs h.2]
theorem eqF_cons {d : Nat} {xs ys : Array Value} {t : TypeId} {o : Nat} {fs : List (TypeId × Nat)} {a b : Value} {r : Bool} {w : World} (hx : (part t xs o).run Try.prog w = .ok a w) (hy : (part t ys o).run Try.prog w = .ok b w) (he : (Op.equalIn d t a b).run Try.prog w = .ok r w) :
    (eqF d xs ys ((t, o) :: fs)).run Try.prog w = if r = true then (eqF d xs ys fs).run Try.prog w else .ok false w := by
  rw [eqF]
  simp only [Sem.run_bind, hx, hy, he, Result.andThen_ok]
  cases r <;> simp
theorem eqF_nil {d : Nat} {xs ys : Array Value} {w : World} : (eqF d xs ys []).run Try.prog w = .ok true w := by simp [eqF]
theorem eqI (d : Nat) (a b : Int) (w : World) : (Op.equalIn (d + 1) 3 (.int .i64 a) (.int .i64 b)).run Try.prog w = .ok (a == b) w := run_equalIn_int w d 3 .i64 .i64 a b Try.underlying3
theorem eqFI {d : Nat} {xs ys : Array Value} {o : Nat} {fs : List (TypeId × Nat)} (a b : Int) {w : World} (hx : xs[o]? = some (.int .i64 a)) (hy : ys[o]? = some (.int .i64 b)) :
    (eqF (d + 1) xs ys ((3, o) :: fs)).run Try.prog w = if a = b then (eqF (d + 1) xs ys fs).run Try.prog w else .ok false w := by
  rw [eqF_cons (part3 hx w) (part3 hy w) (eqI d a b w)]
  simp
theorem ok23 : ((Try.prog.fieldsOf 23).toList.all fun f => decide (f.name ≠ "_")) = true := by kernel_rfl
theorem ok41 : ((Try.prog.fieldsOf 41).toList.all fun f => decide (f.name ≠ "_")) = true := by kernel_rfl
theorem ok52 : ((Try.prog.fieldsOf 52).toList.all fun f => decide (f.name ≠ "_")) = true := by kernel_rfl
theorem fields23 : (Try.prog.fieldsOf 23).toList.map (fun f => (f.type, f.offset)) = [(3, 0), (3, 1)] := by kernel_rfl
theorem fields41 : (Try.prog.fieldsOf 41).toList.map (fun f => (f.type, f.offset)) = [(23, 0), (3, 2), (3, 3), (3, 4), (3, 5)] := by kernel_rfl
theorem fields52 : (Try.prog.fieldsOf 52).toList.map (fun f => (f.type, f.offset)) = [(3, 0), (23, 1)] := by kernel_rfl
theorem eq23 (d : Nat) (a b a' b' : Int) (w : World) : (Op.equalIn (d + 2) 23 (.agg #[.int .i64 a, .int .i64 b]) (.agg #[.int .i64 a', .int .i64 b'])).run Try.prog w = .ok (decide (a = a' ∧ b = b')) w := by
  rw [run_equalIn_agg w (d + 1) 23 _ _ und23 stood23, eqFields_eq _ _ _ _ ok23, fields23]
  rw [eqFI a a' rfl rfl, eqFI b b' rfl rfl, eqF_nil]
  repeat' split
  all_goals congr 1
  all_goals simp_all
theorem part23 (r : Rp) (w : World) : (part 23 (sc r).toArray 0).run Try.prog w = .ok (.agg #[.int .i64 r.nd, .int .i64 r.gn]) w := by kernel_rfl
theorem part23' (r : Rc) (w : World) : (part 23 (kc r).toArray 1).run Try.prog w = .ok (.agg #[.int .i64 r.nd, .int .i64 r.gn]) w := by kernel_rfl
theorem eq41 (x y : Rp) (w : World) : (Op.equalIn 10000 41 (.agg (sc x).toArray) (.agg (sc y).toArray)).run Try.prog w = .ok (decide (x.st = y.st)) w := by
  rw [show (10000 : Nat) = 9999 + 1 from rfl, run_equalIn_agg w 9999 41 _ _ und41 stood41, eqFields_eq _ _ _ _ ok41, fields41]
  rw [eqF_cons (part23 x w) (part23 y w) (eq23 9997 _ _ _ _ w), eqFI x.k y.k rfl rfl, eqFI x.lk y.lk rfl rfl, eqFI x.sz y.sz rfl rfl, eqFI x.ch y.ch rfl rfl, eqF_nil]
  simp only [Rp.st, List.cons.injEq, and_true]
  repeat' split
  all_goals congr 1
  all_goals first | (symm; rw [decide_eq_true_eq]; simp_all; done) | (symm; rw [decide_eq_false_iff_not]; rintro ⟨h0, h1, h2, h3, h4, h5⟩; simp_all; done)
theorem eq52 (x y : Rc) (w : World) : (Op.equalIn 10000 52 (.agg (kc x).toArray) (.agg (kc y).toArray)).run Try.prog w = .ok (decide (x.xs = y.xs)) w := by
  rw [show (10000 : Nat) = 9999 + 1 from rfl, run_equalIn_agg w 9999 52 _ _ und52 stood52, eqFields_eq _ _ _ _ ok52, fields52]
  rw [eqFI x.ep y.ep rfl rfl, eqF_cons (part23' x w) (part23' y w) (eq23 9997 _ _ _ _ w), eqF_nil]
  simp only [Rc.xs, List.cons.injEq, and_true]
  repeat' split
  all_goals congr 1
  all_goals first | (symm; rw [decide_eq_true_eq]; simp_all; done) | (symm; rw [decide_eq_false_iff_not]; rintro ⟨h0, h1, h2⟩; simp_all; done)
/-- A part of a row in the midst of a block; it serves guarded loads too. -/
theorem wpList_load_part {P : Program} {ops : Array Oper} {rest : List Oper} {op : Oper} {a : Act} {w : World} {Q : Exit → Act → World → Prop} (hw : Region.wanted op (yielded ops a.tmps) = true) (ty : TypeId) (x : Operand) (ho : op.op = .load ty x)
    (b o : Nat) (hx : a.eval x = .pointer (some ⟨b, o, none⟩)) (cs : List Value) (hc : w.rangeAt b o cs) (d : TypeDesc)
    (hu : P.underlying ty = some d) (hd : d.isRow = true) (hi : (P.info? ty).map (·.size) = some cs.length)
    (h : wpList P ops Q rest (a.put op.dst (.agg cs.toArray)) w) : wpList P ops Q (op :: rest) a w :=
  wpList_step fun K hK => by
    simp only [hw, if_true]
    unfold Oper.wp execOp
    simp only [ho, hx, Instr.loadAt, Instr.sureAddr, Sem.run_bind, Sem.run_pure, Result.andThen_ok, run_loadVar_mid w b o ty cs d hc hu hd hi]
    exact hK _ _ h
/-- A part of a row that lies whole. -/
theorem range_of {W : World} {g : Nat} {C : Array Value} {t : TypeId} {fr : Nat × Nat} (h : W.heap[g]? = some (.cells C t fr)) (o : Nat) (cs : List Value) (hc : ∀ j v, cs[j]? = some v → C[o + j]? = some v) : W.rangeAt g o cs := by
  intro j v hv
  rw [cell_of_row W g (o + j) C t fr h]
  exact hc j v hv
theorem vc_cells {W : World} {g : Nat} {v : Vb} {A : Option Addr} {n c : Nat} {t : TypeId} {fr : Nat × Nat} (h : W.heap[g]? = some (.cells (vc v A n c).toArray t fr)) :
    W.cell? ⟨g, 0, none⟩ = some (.int .i64 v.k) ∧ W.cell? ⟨g, 1, none⟩ = some (.int .i64 v.st) ∧ W.cell? ⟨g, 2, none⟩ = some (.int .i64 v.lf) ∧ W.cell? ⟨g, 3, none⟩ = some (.int .i64 v.sq) ∧ W.cell? ⟨g, 4, none⟩ = some (.int .i64 v.ep) ∧ W.cell? ⟨g, 5, none⟩ = some (.string ⟨v.p.toArray⟩) ∧ W.cell? ⟨g, 6, none⟩ = some (.string ⟨v.o.toArray⟩) ∧ W.cell? ⟨g, 7, none⟩ = some (.int .i64 v.nd) ∧ W.cell? ⟨g, 8, none⟩ = some (.int .i64 v.gn) ∧ W.cell? ⟨g, 9, none⟩ = some (.int .i64 v.a) ∧ W.cell? ⟨g, 10, none⟩ = some (.int .i64 v.sz) ∧ W.cell? ⟨g, 11, none⟩ = some (.int .i64 v.md) ∧ W.cell? ⟨g, 12, none⟩ = some (.slice A n c) :=
  ⟨cell_of_row _ _ 0 _ _ _ h, cell_of_row _ _ 1 _ _ _ h, cell_of_row _ _ 2 _ _ _ h, cell_of_row _ _ 3 _ _ _ h, cell_of_row _ _ 4 _ _ _ h, cell_of_row _ _ 5 _ _ _ h, cell_of_row _ _ 6 _ _ _ h, cell_of_row _ _ 7 _ _ _ h, cell_of_row _ _ 8 _ _ _ h, cell_of_row _ _ 9 _ _ _ h, cell_of_row _ _ 10 _ _ _ h, cell_of_row _ _ 11 _ _ _ h, cell_of_row _ _ 12 _ _ _ h⟩
theorem rc_cells {W : World} {g : Nat} {r : Rp} {A A' : Option Addr} {n c n' c' : Nat} {t : TypeId} {fr : Nat × Nat} (h : W.heap[g]? = some (.cells (rc r A n c A' n' c').toArray t fr)) :
    W.cell? ⟨g, 0, none⟩ = some (.int .i64 r.lf) ∧ W.cell? ⟨g, 1, none⟩ = some (.int .i64 r.sq) ∧ W.cell? ⟨g, 2, none⟩ = some (.int .i64 r.ep) ∧ W.cell? ⟨g, 3, none⟩ = some (.int .i64 r.e) ∧ W.cell? ⟨g, 4, none⟩ = some (.int .i64 r.nd) ∧ W.cell? ⟨g, 5, none⟩ = some (.int .i64 r.gn) ∧ W.cell? ⟨g, 6, none⟩ = some (.int .i64 r.k) ∧ W.cell? ⟨g, 7, none⟩ = some (.int .i64 r.lk) ∧ W.cell? ⟨g, 8, none⟩ = some (.int .i64 r.sz) ∧ W.cell? ⟨g, 9, none⟩ = some (.int .i64 r.ch) ∧ W.cell? ⟨g, 10, none⟩ = some (.slice A n c) ∧ W.cell? ⟨g, 11, none⟩ = some (.slice A' n' c') :=
  ⟨cell_of_row _ _ 0 _ _ _ h, cell_of_row _ _ 1 _ _ _ h, cell_of_row _ _ 2 _ _ _ h, cell_of_row _ _ 3 _ _ _ h, cell_of_row _ _ 4 _ _ _ h, cell_of_row _ _ 5 _ _ _ h, cell_of_row _ _ 6 _ _ _ h, cell_of_row _ _ 7 _ _ _ h, cell_of_row _ _ 8 _ _ _ h, cell_of_row _ _ 9 _ _ _ h, cell_of_row _ _ 10 _ _ _ h, cell_of_row _ _ 11 _ _ _ h⟩
theorem sc_cells {W : World} {g : Nat} {r : Rp} {t : TypeId} {fr : Nat × Nat} (h : W.heap[g]? = some (.cells (sc r).toArray t fr)) :
    W.cell? ⟨g, 0, none⟩ = some (.int .i64 r.nd) ∧ W.cell? ⟨g, 1, none⟩ = some (.int .i64 r.gn) ∧ W.cell? ⟨g, 2, none⟩ = some (.int .i64 r.k) ∧ W.cell? ⟨g, 3, none⟩ = some (.int .i64 r.lk) ∧ W.cell? ⟨g, 4, none⟩ = some (.int .i64 r.sz) ∧ W.cell? ⟨g, 5, none⟩ = some (.int .i64 r.ch) :=
  ⟨cell_of_row _ _ 0 _ _ _ h, cell_of_row _ _ 1 _ _ _ h, cell_of_row _ _ 2 _ _ _ h, cell_of_row _ _ 3 _ _ _ h, cell_of_row _ _ 4 _ _ _ h, cell_of_row _ _ 5 _ _ _ h⟩
theorem kc_cells {W : World} {g : Nat} {r : Rc} {t : TypeId} {fr : Nat × Nat} (h : W.heap[g]? = some (.cells (kc r).toArray t fr)) :
    W.cell? ⟨g, 0, none⟩ = some (.int .i64 r.ep) ∧ W.cell? ⟨g, 1, none⟩ = some (.int .i64 r.nd) ∧ W.cell? ⟨g, 2, none⟩ = some (.int .i64 r.gn) :=
  ⟨cell_of_row _ _ 0 _ _ _ h, cell_of_row _ _ 1 _ _ _ h, cell_of_row _ _ 2 _ _ _ h⟩
end Go.Proofs.Ytfignanjelebaaa
