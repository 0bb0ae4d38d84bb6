/- Words for memory: a block known whole, loaded and stored whole; cells of numbers and of bytes; requests and replies as values. -/
import Derived.Test.YtfignanjelebaaaOpen
import Derived.Test.YtfignanjelebaaaRefsB
import Derived.Test.YtfignanjelebaaaVPlain
import Derived.Deep.MidRow
import Derived.Deep.WholeRow
import Derived.Laws.Rows
import Derived.Laws.ResultCell
import Derived.Laws.CopyOwn
import Derived.Deep.RegionLaw
import Derived.Handy
import Derived.Deep.Cut
import Derived.Deep.RegionHeld3
import Derived.BigQuiet
import Derived.Deep.QuietTactic
namespace Go.Proofs.Ytfignanjelebaaa
open Go.RowKit
set_option linter.unusedVariables false

def iv (n : Int) : Value := .int .i64 n
theorem bv_one (l : List UInt8) : ∀ v ∈ l.map bv, v.oneCell' = true := by
  intro v hv
  obtain ⟨b, _, rfl⟩ := List.mem_map.1 hv
  rfl
theorem s26 : (Try.prog.info? 26).map (·.size) = some 13 := by kernel_rfl
theorem s44 : (Try.prog.info? 44).map (·.size) = some 12 := by kernel_rfl
theorem s52 : (Try.prog.info? 52).map (·.size) = some 3 := by kernel_rfl
theorem s41 : (Try.prog.info? 41).map (·.size) = some 6 := by kernel_rfl
theorem s23 : (Try.prog.info? 23).map (·.size) = some 2 := by kernel_rfl
theorem s3 : (Try.prog.info? 3).map (·.size) = some 1 := by kernel_rfl
theorem box_below (w : World) (o : Obj) : Below w.heap.size w (w.alloc o) := (Below.refl _ w).alloc (Nat.le_refl _) o
theorem box1 (w : World) (o : Obj) : (w.alloc o).heap[w.heap.size]? = some o ∧ Below w.heap.size w (w.alloc o) ∧ (w.alloc o).heap.size = w.heap.size + 1 :=
  ⟨heap_alloc_new w o, box_below w o, by simp⟩
theorem box2 (w : World) (o1 o2 : Obj) : ((w.alloc o1).alloc o2).heap[w.heap.size]? = some o1 ∧ ((w.alloc o1).alloc o2).heap[w.heap.size + 1]? = some o2 ∧ Below w.heap.size w ((w.alloc o1).alloc o2) ∧ ((w.alloc o1).alloc o2).heap.size = w.heap.size + 1 + 1 := by
  obtain ⟨a1, a2, a3⟩ := box1 w o1
  obtain ⟨b1, b2, b3⟩ := box1 (w.alloc o1) o2
  rw [a3] at b1 b2 b3
  exact ⟨(b2.block _ (by omega)).trans a1, b1, a2.trans (b2.mono (by omega)), b3⟩
theorem box3 (w : World) (o1 o2 o3 : Obj) : (((w.alloc o1).alloc o2).alloc o3).heap[w.heap.size]? = some o1 ∧ (((w.alloc o1).alloc o2).alloc o3).heap[w.heap.size + 1]? = some o2 ∧ (((w.alloc o1).alloc o2).alloc o3).heap[w.heap.size + 1 + 1]? = some o3 ∧ Below w.heap.size w (((w.alloc o1).alloc o2).alloc o3) ∧ (((w.alloc o1).alloc o2).alloc o3).heap.size = w.heap.size + 1 + 1 + 1 := by
  obtain ⟨a1, a2, a3, a4⟩ := box2 w o1 o2
  obtain ⟨b1, b2, b3⟩ := box1 ((w.alloc o1).alloc o2) o3
  rw [a4] at b1 b2 b3
  exact ⟨(b2.block _ (by omega)).trans a1, (b2.block _ (by omega)).trans a2, b1, a3.trans (b2.mono (by omega)), b3⟩
theorem load_row {P : Program} (w : World) (g : Nat) (t ty : TypeId) (cs : Array Value) (fr : Nat × Nat) (d : TypeDesc) (hg : w.heap[g]? = some (.cells cs t fr)) (hu : P.underlying ty = some d) (hd : d.isRow = true) (hi : (P.info? ty).map (·.size) = some cs.size) :
    (loadVar ty ⟨g, 0, none⟩).run P w = .ok (.agg cs) w := by
  have := run_loadVar_mid w g 0 ty cs.toList d (fun j v hv => by rw [Nat.zero_add, cell_of_row w g j cs t fr hg]; simpa using hv) hu hd (by simpa using hi)
  simpa using this
/-- A whole row out of a block. -/
theorem wpList_load_row {P : Program} {ops : Array Oper} {rest : List Oper} {op : Oper} {a : Act} {w : World} {Q : Exit → Act → World → Prop} (hw : Region.wanted op (yielded ops a.tmps) = true) (ty : TypeId) (x : Operand) (ho : op.op = .load ty x)
    (g : Nat) (hx : a.eval x = .pointer (some ⟨g, 0, none⟩)) (C : Array Value) (t : TypeId) (fr : Nat × Nat) (hg : w.heap[g]? = some (.cells C t fr)) (d : TypeDesc)
    (hu : P.underlying ty = some d) (hd : d.isRow = true) (hi : (P.info? ty).map (·.size) = some C.size)
    (h : wpList P ops Q rest (a.put op.dst (.agg C)) w) : wpList P ops Q (op :: rest) a w :=
  wpList_step fun K hK => by
    simp only [hw, if_true]
    unfold Oper.wp execOp
    simp only [ho, hx, Instr.loadAt, Instr.sureAddr, Sem.run_bind, Sem.run_pure, Result.andThen_ok, load_row w g t ty C fr d hg hu hd hi]
    exact hK _ _ h
/-- A whole row into a block. -/
theorem wpList_store_row {P : Program} {ops : Array Oper} {rest : List Oper} {op : Oper} {a : Act} {w : World} {Q : Exit → Act → World → Prop} (hgd : op.guard = none) (ty : TypeId) (x y : Operand) (ho : op.op = .store ty x y)
    (g : Nat) (C C' : Array Value) (t : TypeId) (hx : a.eval x = .pointer (some ⟨g, 0, none⟩)) (hy : a.eval y = .agg C') (hg : w.heap[g]? = some (.cells C t (0, 0)))
    (hi : (P.info? ty).map (·.size) = some C'.size) (hs : C.size = C'.size) (h1 : C'.all (·.oneCell') = true)
    (h : wpList P ops Q rest (a.put op.dst undef) (w.setRow g C')) : wpList P ops Q (op :: rest) a w :=
  wpList_plain hgd fun K hK => by
    unfold Oper.wp execOp
    simp only [ho, hx, hy, Instr.storeAt, Instr.sureAddr, Sem.run_bind, Sem.run_pure, Result.andThen_ok, run_storeVar_row w g t ty C C' hg hi hs h1]
    exact hK _ _ h
/-- A whole array or struct into the block that was made last, at a region's list. -/
theorem wpList_store_new {P : Program} {ops : Array Oper} {rest : List Oper} {op : Oper} {a : Act} {Q : Exit → Act → World → Prop} (hgd : op.guard = none) (ty : TypeId) (x y : Operand) (ho : op.op = .store ty x y)
    (w : World) (c c' : Array Value) (hx : a.eval x = .pointer (some ⟨w.heap.size, 0, none⟩)) (hy : a.eval y = .agg c')
    (hi : (P.info? ty).map (·.size) = some c'.size) (hs : c.size = c'.size) (h1 : c'.all (·.oneCell') = true)
    (h : wpList P ops Q rest (a.put op.dst undef) (w.alloc (.cells c' ty))) : wpList P ops Q (op :: rest) a (w.alloc (.cells c ty)) :=
  wpList_plain hgd fun K hK => by
    unfold Oper.wp execOp
    simp only [ho, hx, hy, Instr.storeAt, Instr.sureAddr, Sem.run_bind, Sem.run_pure, Result.andThen_ok, run_storeVar_new w ty c c' hi hs h1]
    exact hK _ _ h
/-- 'copy(dst, src)' into a block known whole. -/
theorem copy_run {w : World} {dT ty elem : TypeId} (hu : Try.prog.underlying dT = some (.slice elem)) (hs : (Try.prog.info? elem).map (·.size) = some 1) {g off dLen dCap sLen sCap : Nat} {ad : Addr} {L cs : List Value} {t : TypeId}
    (hg : w.heap[g]? = some (.cells L.toArray t (0, 0))) (hn : cs.length = Nat.min sLen dLen) (hsrc : ∀ j v, cs[j]? = some v → w.cell? (ad.add j) = some v) (hfit : off + cs.length ≤ L.length) (h1 : ∀ v ∈ cs, v.oneCell' = true) :
    ∃ w', (Builtin.copy_ #[dT, dT] ty #[.slice (some ⟨g, off, none⟩) dLen dCap, .slice (some ad) sLen sCap]).run Try.prog w = .ok (goInt cs.length) w' ∧ w'.heap[g]? = some (.cells (splice L off cs).toArray t (0, 0)) ∧ w.grownBy w' (some g) ∧ w'.heap.size = w.heap.size := by
  have hr := run_copy_row (P := Try.prog) w dT dT ty elem g off dLen dCap ad sLen sCap L.toArray t cs hu hs hg hn hsrc (by simpa using hfit) h1
  refine ⟨_, hr, ?_, ⟨rfl, rfl, rfl, by simp [World.setRow], fun k _ hk => setRow_other w g k _ (fun e => hk (by simp [e]))⟩, by simp [World.setRow]⟩
  simpa [splice] using setRow_heap w g _ _ t _ hg
/-- One result, a row out of its block. -/
theorem ret_row {fn : Func} {p : Tmp} {ty : TypeId} (h : fn.results = #[.cell p ty]) {tmps : Array Value} {W : World} {g : Nat} {cs : Array Value} {t : TypeId} {fr : Nat × Nat} {d : TypeDesc} (hp : tmps.getD p undef = .pointer (some ⟨g, 0, none⟩)) (hg : W.heap[g]? = some (.cells cs t fr))
    (hu : Try.prog.underlying ty = some d) (hd : d.isRow = true) (hi : (Try.prog.info? ty).map (·.size) = some cs.size) : (results fn tmps).run Try.prog W = .ok (.agg cs) W := by
  have hl := load_row (P := Try.prog) W g t ty cs fr d hg hu hd hi
  have hp' : tmps[p]?.getD undef = .pointer (some ⟨g, 0, none⟩) := by simpa using hp
  simp only [results, h]
  simp [hp', asAddr, hl]
/-- Two results, a row out of its block and a number. -/
theorem ret_row2 {fn : Func} {p u : Tmp} {ty : TypeId} (h : fn.results = #[.cell p ty, .tmp u]) {tmps : Array Value} {W : World} {g : Nat} {cs : Array Value} {t : TypeId} {fr : Nat × Nat} {d : TypeDesc} (hp : tmps.getD p undef = .pointer (some ⟨g, 0, none⟩)) (hg : W.heap[g]? = some (.cells cs t fr))
    (hu : Try.prog.underlying ty = some d) (hd : d.isRow = true) (hi : (Try.prog.info? ty).map (·.size) = some cs.size) : (results fn tmps).run Try.prog W = .ok (.tuple #[.agg cs, tmps.getD u undef]) W := by
  rw [results_cell_tmp h, hp]
  have hl := load_row (P := Try.prog) W g t ty cs fr d hg hu hd hi
  simp only [asAddr, Sem.run_pure, Result.andThen_ok, hl]
theorem setRow_in (w : World) (g : Nat) (C C' : Array Value) (t : TypeId) (h : w.heap[g]? = some (.cells C t (0, 0))) : (w.setRow g C').heap[g]? = some (.cells C' t (0, 0)) := setRow_heap w g C C' t _ h
theorem heap_setCells {b : Nat} {t : TypeId} : ∀ (vs : List Value) (o : Nat) {w : World} {C : List Value}, w.heap[b]? = some (.cells C.toArray t (0, 0)) → o + vs.length = C.length → (w.setCells b o vs).heap[b]? = some (.cells (C.take o ++ vs).toArray t (0, 0))
  | [], o, w, C, h, hl => by
    have : C.take o = C := List.take_of_length_le (by simp at hl; omega)
    rw [World.setCells, this, List.append_nil]
    exact h
  | v :: r, o, w, C, h, hl => by
    have hlt : o < C.length := by simp at hl; omega
    have h' : (w.setCell ⟨b, o, none⟩ v).heap[b]? = some (.cells (C.set o v).toArray t (0, 0)) := by
      have := heap_set h o v
      simpa using this
    have := heap_setCells r (o + 1) h' (by simp at hl ⊢; omega)
    rw [World.setCells, this]
    congr 3
    rw [List.take_succ_eq_append_getElem (by simpa using hlt), List.take_set_of_le (Nat.le_refl _)]
    simp
theorem heap_setCells_ne {b b' : Nat} (hb : b' ≠ b) : ∀ (vs : List Value) (o : Nat) (w : World), (w.setCells b o vs).heap[b']? = w.heap[b']?
  | [], _, _ => rfl
  | v :: r, o, w => by rw [World.setCells, heap_setCells_ne hb r (o + 1), Below.heap_setCell _ _ _ _ hb]
theorem below_setCells {b B : Nat} (hB : B ≤ b) : ∀ (vs : List Value) (o : Nat) {a w : World}, Below B a w → Below B a (w.setCells b o vs)
  | [], _, _, _, h => h
  | v :: r, o, _, _, h => below_setCells hB r (o + 1) (h.setCell (p := ⟨b, o, none⟩) hB v)
/-- A request's cells. -/
def vc (v : Vb) (A : Option Addr) (n c : Nat) : List Value := [iv v.k, iv v.st, iv v.lf, iv v.sq, iv v.ep, .string ⟨v.p.toArray⟩, .string ⟨v.o.toArray⟩, iv v.nd, iv v.gn, iv v.a, iv v.sz, iv v.md, .slice A n c]
/-- A reply's. -/
def rc (r : Rp) (A : Option Addr) (n c : Nat) (A' : Option Addr) (n' c' : Nat) : List Value := [iv r.lf, iv r.sq, iv r.ep, iv r.e, iv r.nd, iv r.gn, iv r.k, iv r.lk, iv r.sz, iv r.ch, .slice A n c, .slice A' n' c']
def sc (r : Rp) : List Value := [iv r.nd, iv r.gn, iv r.k, iv r.lk, iv r.sz, iv r.ch]
def kc (r : Rc) : List Value := [iv r.ep, iv r.nd, iv r.gn]
theorem vc_one (v : Vb) (A : Option Addr) (n c : Nat) : ∀ u ∈ vc v A n c, u.oneCell' = true := by
  intro u hu
  simp only [vc, List.mem_cons, List.not_mem_nil, or_false] at hu
  rcases hu with rfl | rfl | rfl | rfl | rfl | rfl | rfl | rfl | rfl | rfl | rfl | rfl | rfl <;> rfl
theorem rc_one (r : Rp) (A : Option Addr) (n c : Nat) (A' : Option Addr) (n' c' : Nat) : ∀ u ∈ rc r A n c A' n' c', u.oneCell' = true := by
  intro u hu
  simp only [rc, List.mem_cons, List.not_mem_nil, or_false] at hu
  rcases hu with rfl | rfl | rfl | rfl | rfl | rfl | rfl | rfl | rfl | rfl | rfl | rfl <;> rfl
theorem sc_one (r : Rp) : ∀ u ∈ sc r, u.oneCell' = true := by
  intro u hu
  simp only [sc, List.mem_cons, List.not_mem_nil, or_false] at hu
  rcases hu with rfl | rfl | rfl | rfl | rfl | rfl <;> rfl
theorem kc_one (r : Rc) : ∀ u ∈ kc r, u.oneCell' = true := by
  intro u hu
  simp only [kc, List.mem_cons, List.not_mem_nil, or_false] at hu
  rcases hu with rfl | rfl | rfl <;> rfl
/-- A slice of numbers. -/
structure Ints (w : World) (B : Nat) (A : Option Addr) (n c : Nat) (l : List Int) : Prop where
  len : l.length = n
  cells : ∀ k, k < n → ∃ b off, A = some ⟨b, off, none⟩ ∧ b < B ∧ w.cell? ⟨b, off + k, none⟩ = some (iv (l[k]?.getD 0))
end Go.Proofs.Ytfignanjelebaaa
