/- Words for memory: what a call changes (Chg), bytes as cells, a row of sectors, a block known whole. No program. -/
import Derived.WalkKit
import Derived.ProofKit
import Derived.Below
import Derived.Laws.OwnMore
import Derived.Deep.MidRow
import Derived.Deep.WholeRow
import Derived.Deep.AppendLies
import Derived.Lib.Hide
import Derived.Deep.Draws
namespace Go.Proofs.Ytlhkkelpombbiaa
open Go.RowKit
set_option linter.unusedVariables false

/-- Of what was there, nothing but the blocks of O has changed. -/
structure Chg (O : List Nat) (w w' : World) : Prop where
  os : w'.os = w.os
  tape : w'.tape = w.tape
  output : w'.output = w.output
  size : w.heap.size ≤ w'.heap.size
  block : ∀ k, k < w.heap.size → k ∉ O → w'.heap[k]? = w.heap[k]?
section
variable {O O' : List Nat} {a w w' : World}
theorem Chg.refl (O : List Nat) (w : World) : Chg O w w := ⟨rfl, rfl, rfl, Nat.le_refl _, fun _ _ _ => rfl⟩
theorem Chg.trans {c : World} (h : Chg O a w) (k : Chg O' w c) (hO : ∀ b ∈ O', b ∈ O ∨ a.heap.size ≤ b) : Chg O a c :=
  ⟨k.os.trans h.os, k.tape.trans h.tape, k.output.trans h.output, Nat.le_trans h.size k.size, fun i hi hn => by
    rw [k.block i (Nat.lt_of_lt_of_le hi h.size) (fun hm => by rcases hO i hm with h1 | h1; exact hn h1; omega), h.block i hi hn]⟩
theorem Chg.tr {c : World} (h : Chg O a w) (k : Chg O w c) : Chg O a c := h.trans k fun b hb => .inl hb
theorem Chg.mono (h : Chg O a w) (hO : ∀ b ∈ O, b ∈ O' ∨ a.heap.size ≤ b) : Chg O' a w :=
  (Chg.refl O' a).trans h hO
theorem Chg.below {B : Nat} (h : Chg O a w) (hB : B ≤ a.heap.size) (hO : ∀ b ∈ O, B ≤ b) : Below B a w :=
  ⟨h.os, h.tape, h.output, h.size, fun k hk => h.block k (by omega) fun hm => by have := hO k hm; omega⟩
theorem Chg.of_below (h : Below w.heap.size w w') : Chg O w w' := ⟨h.os, h.tape, h.output, h.size, fun k hk _ => h.block k hk⟩
theorem Chg.drew (h : Chg O a w) : Chg O a w.drew := ⟨h.os, h.tape, h.output, h.size, h.block⟩
theorem Chg.drewN (h : Chg O a w) (n : Nat) : Chg O a (w.drewN n) := ⟨h.os, h.tape, h.output, h.size, h.block⟩
theorem Chg.alloc (h : Chg O a w) (o : Obj) : Chg O a (w.alloc o) :=
  ⟨h.os, h.tape, h.output, by simp; have := h.size; omega, fun k hk hn => by rw [Below.heap_alloc w o k (Nat.lt_of_lt_of_le hk h.size), h.block k hk hn]⟩
theorem Chg.setCell (h : Chg O a w) {p : Addr} (hp : p.block ∈ O ∨ a.heap.size ≤ p.block) (u : Value) : Chg O a (w.setCell p u) :=
  ⟨h.os, h.tape, h.output, by simp; exact h.size, fun k hk hn => by
    rw [Below.heap_setCell w p u k (fun e => by subst e; rcases hp with h1 | h1; exact hn h1; omega), h.block k hk hn]⟩
theorem Chg.setCells {b : Nat} (hp : b ∈ O ∨ a.heap.size ≤ b) : ∀ (vs : List Value) (o : Nat) {w : World}, Chg O a w → Chg O a (w.setCells b o vs)
  | [], _, _, h => h
  | v :: r, o, _, h => Chg.setCells hp r (o + 1) (h.setCell hp v)
theorem Chg.grown {row : Option Nat} (h : Chg O a w) (hg : w.grownBy w' row) (hr : ∀ k, row = some k → k ∈ O ∨ a.heap.size ≤ k) : Chg O a w' :=
  ⟨hg.os.trans h.os, hg.tape.trans h.tape, hg.output.trans h.output, Nat.le_trans h.size hg.size, fun k hk hn => by
    rw [hg.block k (Nat.lt_of_lt_of_le hk h.size) (fun e => by rcases hr k e.symm with h1 | h1; exact hn h1; omega), h.block k hk hn]⟩
end

theorem Chg.heapEq {O : List Nat} {a w w' : World} (h : Chg O a w) (he : w'.heap = w.heap) (h1 : w'.os = w.os) (h2 : w'.tape = w.tape) (h3 : w'.output = w.output) : Chg O a w' :=
  ⟨h1.trans h.os, h2.trans h.tape, h3.trans h.output, by rw [he]; exact h.size, fun k hk hn => by rw [he]; exact h.block k hk hn⟩
theorem heap_setCell_at {w : World} {b o : Nat} {C : Array Value} {t : TypeId} {fr : Nat × Nat} (h : w.heap[b]? = some (.cells C t fr)) (v : Value) :
    (w.setCell ⟨b, o, none⟩ v).heap[b]? = some (.cells (C.setIfInBounds o v) t fr) := by
  simp only [World.setCell]
  first
  | (rw [Array.getElem?_modify]; simp [h]; done)
  | (simp [h])
/-- Cells set one by one. -/
def setAll (C : Array Value) : Nat → List Value → Array Value
  | _, [] => C
  | o, v :: r => setAll (C.setIfInBounds o v) (o + 1) r
theorem setAll_size (C : Array Value) : ∀ (vs : List Value) (o : Nat), (setAll C o vs).size = C.size := by
  intro vs
  induction vs generalizing C with
  | nil => intro o; rfl
  | cons v r ih => intro o; rw [setAll, ih]; simp
theorem heap_setCells_at {b : Nat} {t : TypeId} {fr : Nat × Nat} : ∀ (vs : List Value) (o : Nat) {w : World} {C : Array Value}, w.heap[b]? = some (.cells C t fr) → (w.setCells b o vs).heap[b]? = some (.cells (setAll C o vs) t fr)
  | [], _, _, _, h => h
  | v :: r, o, _, _, h => heap_setCells_at r (o + 1) (heap_setCell_at h v)
theorem heap_setCells_ne {b b' : Nat} (hb : b' ≠ b) : ∀ (vs : List Value) (o : Nat) (w : World), (w.setCells b o vs).heap[b']? = w.heap[b']?
  | [], _, _ => rfl
  | v :: r, o, w => by rw [World.setCells, heap_setCells_ne hb r (o + 1), Below.heap_setCell _ _ _ _ hb]
theorem heap_size_setCells (b : Nat) : ∀ (vs : List Value) (o : Nat) (w : World), (w.setCells b o vs).heap.size = w.heap.size
  | [], _, _ => rfl
  | v :: r, o, w => by rw [World.setCells, heap_size_setCells b r (o + 1)]; simp
theorem cell_of {w : World} {b : Nat} {C : Array Value} {t : TypeId} {fr : Nat × Nat} (h : w.heap[b]? = some (.cells C t fr)) (j : Nat) : w.cell? ⟨b, j, none⟩ = C[j]? := cell_of_row w b j C t fr h
theorem frozen_of {w : World} {b : Nat} {C : Array Value} {t : TypeId} (h : w.heap[b]? = some (.cells C t (0, 0))) (j : Nat) : w.frozen? ⟨b, j, none⟩ = false := by
  simp [World.frozen?, h]
theorem there_of {w : World} {b : Nat} {C : Array Value} {t : TypeId} (h : w.heap[b]? = some (.cells C t (0, 0))) {o n : Nat} (hn : o + n ≤ C.size) : w.there b o n := fun j hj =>
  ⟨by rw [cell_of h, Array.getElem?_eq_getElem (by omega)]; rfl, frozen_of h _⟩

/-- Bytes as cells. -/
def bc (l : List UInt8) : List Value := l.map fun x => .int .u8 (x.toNat : Int)
theorem bc_len (l : List UInt8) : (bc l).length = l.length := by simp [bc]
theorem bc_one (l : List UInt8) : ∀ v ∈ bc l, v.oneCell' = true := by
  intro v hv
  simp only [bc, List.mem_map] at hv
  obtain ⟨x, _, rfl⟩ := hv
  rfl
theorem bc_get {l : List UInt8} {j : Nat} (h : j < l.length) : (bc l)[j]? = some (.int .u8 ((l[j]?.getD 0).toNat : Int)) := by simp [bc, h]

/-- The sectors l lie in block b, one behind the other (128 bytes each), and may be written. -/
structure Secs (w : World) (b : Nat) (l : List (List UInt8)) : Prop where
  blk : ∃ C, w.heap[b]? = some (.cells C 80 (0, 0)) ∧ l.length * 128 ≤ C.size
  all : ∀ i s, l[i]? = some s → s.length = 128 ∧ w.rangeAt b (i * 128) (bc s)
section
variable {w w' : World} {b : Nat} {l : List (List UInt8)}
theorem Secs.lt (h : Secs w b l) : b < w.heap.size := by
  obtain ⟨C, hC, _⟩ := h.blk
  exact (Array.getElem?_eq_some_iff.1 hC).1
theorem rangeAt_of_heap {o : Nat} {cs : List Value} (h : w.rangeAt b o cs) (he : w'.heap[b]? = w.heap[b]?) : w'.rangeAt b o cs := fun j v hv => by
  rw [World.cell?_of_block (a := ⟨b, o + j, none⟩) he]; exact h j v hv
theorem Secs.keep (h : Secs w b l) (he : w'.heap[b]? = w.heap[b]?) : Secs w' b l :=
  ⟨by rw [he]; exact h.blk, fun i s hi => ⟨(h.all i s hi).1, rangeAt_of_heap (h.all i s hi).2 he⟩⟩
theorem Secs.there (h : Secs w b l) {i : Nat} (hi : i < l.length) : w.there b (i * 128) 128 := by
  obtain ⟨C, hC, hs⟩ := h.blk
  exact there_of hC (by have : (i + 1) * 128 ≤ l.length * 128 := Nat.mul_le_mul_right _ hi; omega)
theorem Secs.set (h : Secs w b l) {i : Nat} (hi : i < l.length) {s : List UInt8} (hs : s.length = 128) : Secs (w.setCells b (i * 128) (bc s)) b (l.set i s) := by
  refine ⟨?_, fun j t hj => ?_⟩
  · obtain ⟨C, hC, hz⟩ := h.blk
    exact ⟨_, heap_setCells_at _ _ hC, by rw [setAll_size, List.length_set]; exact hz⟩
  · rw [List.getElem?_set] at hj
    split at hj
    · rename_i e
      subst e
      cases hj
      exact ⟨hs, World.rangeAt_setCells_same _ _ _ _ (by rw [bc_len, hs]; exact h.there hi)⟩
    · rename_i e
      obtain ⟨h1, h2⟩ := h.all j t hj
      refine ⟨h1, World.rangeAt_setCells_apart h2 _ _ _ ?_⟩
      rw [bc_len, bc_len, h1, hs]
      omega
/-- The same sectors out of a block that holds the same cells. -/
theorem Secs.copy {b' : Nat} {C C' : Array Value} (h : Secs w b l) (hC : w.heap[b]? = some (.cells C 80 (0, 0))) (hC' : w'.heap[b']? = some (.cells C' 80 (0, 0))) (hz : l.length * 128 ≤ C'.size)
    (he : ∀ j, j < l.length * 128 → C'[j]? = C[j]?) : Secs w' b' l := by
  refine ⟨⟨C', hC', hz⟩, fun i s hi => ?_⟩
  obtain ⟨h1, h2⟩ := h.all i s hi
  refine ⟨h1, fun j v hj => ?_⟩
  have hl : i < l.length := (List.getElem?_eq_some_iff.1 hi).1
  have hj' : j < (bc s).length := (List.getElem?_eq_some_iff.1 hj).1
  rw [bc_len, h1] at hj'
  have : (i + 1) * 128 ≤ l.length * 128 := Nat.mul_le_mul_right _ hl
  rw [cell_of hC', he _ (by omega), ← cell_of hC]
  exact h2 j v hj
end
/-- A list of lists of k each, one behind the other. -/
theorem flat_get {α : Type} {f : α → List Value} {k : Nat} : ∀ {l : List α}, (∀ x ∈ l, (f x).length = k) → ∀ {i j : Nat} {x : α}, l[i]? = some x → j < k → (l.flatMap f)[i * k + j]? = (f x)[j]? := by
  intro l
  induction l with
  | nil => intro _ i j x h; simp at h
  | cons a r ih =>
    intro hk i j x h hj
    have ha : (f a).length = k := hk a (by simp)
    rw [List.flatMap_cons]
    cases i with
    | zero =>
      simp at h
      subst h
      rw [Nat.zero_mul, Nat.zero_add, List.getElem?_append_left (by omega)]
    | succ i =>
      have h' : r[i]? = some x := by simpa using h
      rw [List.getElem?_append_right (by rw [ha, Nat.succ_mul]; omega), ha, Nat.succ_mul, show i * k + k + j - k = i * k + j by omega]
      exact ih (fun y hy => hk y (by simp [hy])) h' hj
theorem flat_len {α : Type} {f : α → List Value} {k : Nat} : ∀ {l : List α}, (∀ x ∈ l, (f x).length = k) → (l.flatMap f).length = l.length * k := by
  intro l
  induction l with
  | nil => intro _; simp
  | cons a r ih => intro hk; rw [List.flatMap_cons, List.length_append, hk a (by simp), ih (fun y hy => hk y (by simp [hy])), List.length_cons, Nat.succ_mul]; omega
/-- append, by its run's equation. -/
theorem wp_append_run {P : Program} {o : Oper} {a : Act} {w : World} {K : Act → World → Prop} {Q : Exit → Act → World → Prop} (s x : Operand) (t : TypeId)
    (ho : o.op = .call { callee := .builtin .append, args := #[s, x], argTypes := #[t, t] }) (v y v' : Value) (w' : World) (hs : a.eval s = v) (hx : a.eval x = y)
    (hr : (Builtin.append_ #[t, t] o.type #[v, y]).run P w = .ok v' w') (h : K (a.put o.dst v') w') : o.wp P a w K Q := by
  unfold Oper.wp execOp
  simp only [ho, resolve, invoke, builtin, Sem.run_bind, Sem.run_pure, Result.andThen_ok, List.map_toArray, List.map_cons, List.map_nil, hs, hx, hr]
  exact h
theorem wpList_append_run {P : Program} {ops : Array Oper} {rest : List Oper} {o : Oper} {a : Act} {w : World} {Q : Exit → Act → World → Prop} (hgd : o.guard = none) (s x : Operand) (t : TypeId)
    (ho : o.op = .call { callee := .builtin .append, args := #[s, x], argTypes := #[t, t] }) (v y v' : Value) (w' : World) (hs : a.eval s = v) (hx : a.eval x = y)
    (hr : (Builtin.append_ #[t, t] o.type #[v, y]).run P w = .ok v' w') (h : wpList P ops Q rest (a.put o.dst v') w') : wpList P ops Q (o :: rest) a w :=
  wpList_plain hgd fun _ hK => wp_append_run s x t ho v y v' w' hs hx hr (hK _ _ h)
/-- A whole array or struct into the block that was made last, at a region's list. -/
theorem wpList_store_new {P : Program} {ops : Array Oper} {rest : List Oper} {op : Oper} {a : Act} {Q : Exit → Act → World → Prop} (hgd : op.guard = none) (ty : TypeId) (x y : Operand) (ho : op.op = .store ty x y)
    (w : World) (c c' : Array Value) (hx : a.eval x = .pointer (some ⟨w.heap.size, 0, none⟩)) (hy : a.eval y = .agg c')
    (hi : (P.info? ty).map (·.size) = some c'.size) (hs : c.size = c'.size) (h1 : c'.all (·.oneCell') = true)
    (h : wpList P ops Q rest (a.put op.dst undef) (w.alloc (.cells c' ty))) : wpList P ops Q (op :: rest) a (w.alloc (.cells c ty)) :=
  wpList_plain hgd fun K hK => by
    unfold Oper.wp execOp
    simp only [ho, hx, hy, Instr.storeAt, Instr.sureAddr, Sem.run_bind, Sem.run_pure, Result.andThen_ok, run_storeVar_new w ty c c' hi hs h1]
    exact hK _ _ h
theorem wpList_load_new {P : Program} {ops : Array Oper} {rest : List Oper} {op : Oper} {a : Act} {Q : Exit → Act → World → Prop} (hgd : op.guard = none) (ty : TypeId) (x : Operand) (ho : op.op = .load ty x)
    (w : World) (c : Array Value) (n : Nat) (e : TypeId) (hx : a.eval x = .pointer (some ⟨w.heap.size, 0, none⟩)) (hu : P.underlying ty = some (.array n e))
    (hi : (P.info? ty).map (·.size) = some c.size)
    (h : wpList P ops Q rest (a.put op.dst (.agg c)) (w.alloc (.cells c ty))) : wpList P ops Q (op :: rest) a (w.alloc (.cells c ty)) :=
  wpList_plain hgd fun K hK => by
    unfold Oper.wp execOp
    simp only [ho, hx, Instr.loadAt, Instr.sureAddr, Sem.run_bind, Sem.run_pure, Result.andThen_ok, run_loadVar_new w ty c n e hu hi]
    exact hK _ _ h
end Go.Proofs.Ytlhkkelpombbiaa
