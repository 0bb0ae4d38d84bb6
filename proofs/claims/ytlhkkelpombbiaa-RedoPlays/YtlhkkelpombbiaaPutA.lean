/- For Put: what its operations on whole writes come to; the frame of its loop. -/
import Derived.Test.YtlhkkelpombbiaaFits
import Derived.Great.BuildSlice
import Derived.Deep.RegionHeld3
namespace Go.Proofs.Ytlhkkelpombbiaa
open Go.RowKit
set_option linter.unusedVariables false

/-- append and copy, at a step of a region that draws its order, by their runs' equations. -/
theorem step_append_run {P : Program} {ops : Array Oper} {o : Oper} {a : Act} {w : World} {K : Act → World → Prop} {Q : Exit → Act → World → Prop} {E : Prop} (hgd : o.guard = none) (s x : Operand) (t : TypeId)
    (ho : o.op = .call { callee := .builtin .append, args := #[s, x], argTypes := #[t, t] }) (v y v' : Value) (w' : World) (hs : a.eval s = v) (hx : a.eval x = y)
    (hr : (Builtin.append_ #[t, t] o.type #[v, y]).run P w = .ok v' w') (h : K (a.put o.dst v') w') : if Region.wanted o (yielded ops a.tmps) = true then Oper.wp P o a w K Q else E := by
  have hw : Region.wanted o (yielded ops a.tmps) = true := by simp [Region.wanted, hgd]
  rw [if_pos hw]
  exact wp_append_run s x t ho v y v' w' hs hx hr h
theorem wp_copy_run {P : Program} {o : Oper} {a : Act} {w : World} {K : Act → World → Prop} {Q : Exit → Act → World → Prop} (s x : Operand) (t t' : TypeId)
    (ho : o.op = .call { callee := .builtin .copy, args := #[s, x], argTypes := #[t, t'] }) (v y v' : Value) (w' : World) (hs : a.eval s = v) (hx : a.eval x = y)
    (hr : (Builtin.copy_ #[t, t'] o.type #[v, y]).run P w = .ok v' w') (h : K (a.put o.dst v') w') : o.wp P a w K Q := by
  unfold Oper.wp execOp
  simp only [ho, resolve, invoke, builtin, Sem.run_bind, Sem.run_pure, Result.andThen_ok, List.map_toArray, List.map_cons, List.map_nil, hs, hx, hr]
  exact h
theorem step_copy_run {P : Program} {ops : Array Oper} {o : Oper} {a : Act} {w : World} {K : Act → World → Prop} {Q : Exit → Act → World → Prop} {E : Prop} (hgd : o.guard = none) (s x : Operand) (t t' : TypeId)
    (ho : o.op = .call { callee := .builtin .copy, args := #[s, x], argTypes := #[t, t'] }) (v y v' : Value) (w' : World) (hs : a.eval s = v) (hx : a.eval x = y)
    (hr : (Builtin.copy_ #[t, t'] o.type #[v, y]).run P w = .ok v' w') (h : K (a.put o.dst v') w') : if Region.wanted o (yielded ops a.tmps) = true then Oper.wp P o a w K Q else E := by
  have hw : Region.wanted o (yielded ops a.tmps) = true := by simp [Region.wanted, hgd]
  rw [if_pos hw]
  exact wp_copy_run s x t t' ho v y v' w' hs hx hr h
/-- 'write{at: m}'. -/
theorem build69 (m : Nat) (w : World) : (Instr.build 95 #[(0, .int .i64 (m : Int))]).run Try.prog w = .ok (.agg (wc (m, zeros)).toArray) w := by
  have h0 := z69 w
  unfold Instr.build
  simp only [Sem.run_bind, h0, Result.andThen_ok, Try.runUnderlying95]
  have h2 : (Array.mapM (fun f : Field => do
              let __do_lift ← sizeOf f.type
              pure (f.offset, __do_lift)) #[{ name := "at", type := 3, offset := 0, embedded := false, tag := "", pkgPath := "copyhold/drive", byteOffset := 0 }, { name := "data", type := 80, offset := 1, embedded := false, tag := "", pkgPath := "copyhold/drive", byteOffset := 8 }]).run Try.prog w = .ok #[(0, 1), (1, 128)] w := by
    simp [Array.mapM_eq_foldlM, Sem.run_bind, Try.sizeOf3, Try.sizeOf80]
  rw [h2]
  simp only [Result.andThen_ok]
  have h3 : Instr.fill (fun x => (#[(0, 1), (1, 128)] : Array (Nat × Nat))[x]?) (Value.agg (wc (0, zeros)).toArray).cells [(0, Value.int .i64 (m : Int))] = some (wc (m, zeros)).toArray := by
    simp [Instr.fill, Value.cells, wc]
  rw [h3]
  rfl
theorem fill_one (cs : List Value) (h : cs.length = 129) (cells : Array Value) (hc : cells.size = 129) : Instr.fill (fun i => some (i * 129, 129)) cells [(0, .agg cs.toArray)] = some cs.toArray := by
  obtain ⟨r, hr, hs, hk⟩ := Great.fill_dense (s := 129) (by omega) [.agg cs.toArray] 0 cells (fun v hv => by simp at hv; subst hv; simpa [Value.cells] using h) (by simp [hc])
  have : r = cs.toArray := by
    apply Array.ext_getElem?
    intro k
    rw [hk k]
    by_cases h1 : k < 129
    · rw [if_pos ⟨by omega, by simpa using h1⟩]
      have e1 : k / 129 = 0 := by omega
      have e2 : k % 129 = k := by omega
      rw [e1, e2]
      simp [Value.cells]
    · rw [if_neg (by simp; omega), Array.getElem?_eq_none (by omega), Array.getElem?_eq_none (by simp; omega)]
  rw [this] at hr
  exact hr
theorem buildS (cs : List Value) (h : cs.length = 129) (w : World) : (Instr.buildSlice 82 1 #[(0, .agg cs.toArray)]).run Try.prog w = .ok (.slice (some ⟨w.heap.size, 0, none⟩) 1 1) (w.alloc (.cells cs.toArray 95)) := by
  have hz := i69
  cases hq : Try.prog.info? 95 with
  | none => simp [hq] at hz
  | some i =>
    simp only [hq, Option.map_some, Option.some.injEq, Prod.mk.injEq] at hz
    refine run_buildSlice w 82 95 1 _ _ i _ Try.underlying82 hq hz.1 (by rw [hz.2.1]; omega) (by rw [hz.2.1]; omega) ?_
    rw [hz.2.1]
    exact fill_one cs h _ (by simp)
/-- A struct literal, a slice literal, by their runs' equations. -/
theorem wpList_build_run {P : Program} {ops : Array Oper} {rest : List Oper} {o : Oper} {a : Act} {w : World} {Q : Exit → Act → World → Prop} (hgd : o.guard = none) (t : TypeId) (x : Operand) (ho : o.op = .build t #[(0, x)])
    (u : Value) (hv : a.eval x = u) (v : Value) (hr : (Instr.build t #[(0, u)]).run P w = .ok v w) (h : wpList P ops Q rest (a.put o.dst v) w) : wpList P ops Q (o :: rest) a w :=
  wpList_plain hgd fun K hK => by
    unfold Oper.wp execOp
    simp only [ho, Sem.run_bind, List.map_toArray, List.map_cons, List.map_nil, hv, hr, Result.andThen_ok]
    exact hK _ _ h
theorem step_buildSlice_run {P : Program} {ops : Array Oper} {o : Oper} {a : Act} {w : World} {K : Act → World → Prop} {Q : Exit → Act → World → Prop} {E : Prop} (hgd : o.guard = none) (t : TypeId) (len : Nat) (x : Operand) (ho : o.op = .buildSlice t len #[(0, x)])
    (u : Value) (hv : a.eval x = u) (v : Value) (w' : World) (hr : (Instr.buildSlice t len #[(0, u)]).run P w = .ok v w') (h : K (a.put o.dst v) w') : if Region.wanted o (yielded ops a.tmps) = true then Oper.wp P o a w K Q else E := by
  have hw : Region.wanted o (yielded ops a.tmps) = true := by simp [Region.wanted, hgd]
  rw [if_pos hw]
  unfold Oper.wp execOp
  simp only [ho, Sem.run_bind, List.map_toArray, List.map_cons, List.map_nil, hv, hr, Result.andThen_ok]
  exact h
theorem setAll_app : ∀ (c a b : List Value), b.length = c.length → setAll (a ++ b).toArray a.length c = (a ++ c).toArray := by
  intro c
  induction c with
  | nil => intro a b h; have : b = [] := List.length_eq_zero_iff.1 h; subst this; rfl
  | cons v r ih =>
    intro a b h
    cases b with
    | nil => cases h
    | cons x t =>
      rw [setAll]
      have e : ((a ++ x :: t).toArray.setIfInBounds a.length v) = ((a ++ [v]) ++ t).toArray := by
        simp
      rw [e]
      have := ih (a ++ [v]) t (by simpa using h)
      rw [List.length_append] at this
      simpa using this
theorem setAll_wc (m : Nat) (l : List UInt8) (h : l.length = 128) : setAll (wc (m, zeros)).toArray 1 (bc l) = (wc (m, l)).toArray :=
  setAll_app (bc l) [.int .i64 (m : Int)] (bc zeros) (by rw [bcz_len, bc_len, h])
/-- A sector of 'now' is written. -/
theorem DrvAt.wrote {w : World} {d N bn cn bl cl : Nat} {s : DS} {vs : Value} (h : DrvAt w d N s bn cn bl cl vs) {n : Nat} {x : List UInt8} (hn : n < N) (hx : x.length = 128) :
    DrvAt (w.setCells bn (n * 128) (bc x)) d N { s with now := s.now.set n x } bn cn bl cl vs := by
  obtain ⟨n1, n2, n3, n4⟩ := ne_of_nd h
  refine ⟨(heap_setCells_ne n1 _ _ _).trans h.st, h.now.set (by rw [h.ok.now]; exact hn) hx, h.las.keep (heap_setCells_ne (fun e => n3 e.symm) _ _ _), ownsRow_keep h.sin fun b hb => heap_setCells_ne (fun e => (n4 b hb).2.1 e.symm) _ _ _, ?_, h.n0, h.n1, h.c0, h.c1, h.nd⟩
  exact ⟨by simp [h.ok.now], h.ok.lasting, h.ok.since, h.ok.lo, h.ok.hi, h.ok.fuse⟩
/-- The writes since the last flush are one more. -/
def Apps (w : World) (vs : Value) (k : Nat) (xs : List Value) (cs : List Value) (g cap : Nat) (w' : World) : Prop :=
  (Builtin.append_ #[82, 82] 82 #[vs, .slice (some ⟨w.heap.size, 0, none⟩) 1 1]).run Try.prog (w.alloc (.cells cs.toArray 95)) = .ok (.slice (some ⟨g, 0, none⟩) (k + 1) cap) w' ∧
    w'.ownsRow 0 95 129 (.slice (some ⟨g, 0, none⟩) (k + 1) cap) (k + 1) (xs ++ cs) ∧ (w.alloc (.cells cs.toArray 95)).grownBy w' vs.ownBlock ∧ (vs.ownBlock = some g ∨ g = w.heap.size + 1) ∧ g < w'.heap.size
theorem app_one {w : World} {vs : Value} {k : Nat} {xs : List Value} (h : w.ownsRow 0 95 129 vs k xs) (cs : List Value) (hl : cs.length = 129) (h1 : ∀ v ∈ cs, v.oneCell' = true) (hb : (k + 1) * 136 ≤ 140737488355328) : ∃ g cap w', Apps w vs k xs cs g cap w' := by
  have hz := i69
  cases hq : Try.prog.info? 95 with
  | none => simp [hq] at hz
  | some i =>
    simp only [hq, Option.map_some, Option.some.injEq, Prod.mk.injEq] at hz
    have hnew : (w.alloc (.cells cs.toArray 95)).heap[w.heap.size]? = some (.cells cs.toArray 95 (0, 0)) := heap_alloc_new _ _
    have := run_append_lies (P := Try.prog) (w.alloc (.cells cs.toArray 95)) 82 82 0 95 i _ 129 136 Try.underlying82 hq hz.1 hz.2.1 hz.2.2 (by show (wc (0, zeros)).toArray.size = 129; rw [List.size_toArray, wc_len zeros_len]) (by omega)
      vs k xs (ownsRow_keep h fun b hb => Below.heap_alloc _ _ _ (h.lt b hb).2) ⟨w.heap.size, 0, none⟩ 1 1 cs (by omega) (fun j u hu => by rw [Addr.add_mid, Nat.zero_add, cell_of hnew, List.getElem?_toArray]; exact hu) h1 (by omega) (by unfold maxLen; omega) hb (by omega) (w.heap.size + 1) (by simp)
    exact this
/-- One cell that holds a slice of writes, read and written. -/
theorem wp_load60 {o : Oper} {a : Act} {w : World} {K : Act → World → Prop} {Q : Exit → Act → World → Prop} (x : Operand) (ho : o.op = .load 82 x) (p : Addr) (hx : a.eval x = .pointer (some p)) (v : Value) (hc : w.cell? p = some v)
    (h : K (a.put o.dst v) w) : o.wp Try.prog a w K Q := by
  unfold Oper.wp execOp
  simp only [ho, hx]
  simp [hc, go_sem]
  exact h
theorem wp_store60 {o : Oper} {a : Act} {w : World} {K : Act → World → Prop} {Q : Exit → Act → World → Prop} (x y : Operand) (ho : o.op = .store 82 x y) (p : Addr) (v : Value) (hx : a.eval x = .pointer (some p)) (hy : a.eval y = v) (u : Value) (hc : w.cell? p = some u) (hf : w.frozen? p = false)
    (h1 : ∃ A n c, v = .slice A n c) (h : K (a.put o.dst undef) (w.setCell p v)) : o.wp Try.prog a w K Q := by
  obtain ⟨A, n, c, rfl⟩ := h1
  unfold Oper.wp execOp
  simp only [ho, hx, hy]
  simp [hc, hf, go_sem]
  exact h
/-- The loop of Put, behind k writes. -/
def PutR (w : World) (d N bn cn bl cl : Nat) (O : List Nat) (s : DS) (ws : List Wr) (k : Nat) (wr : World) (sk : DS) (vsk : Value) : Prop :=
  DrvAt wr d N sk bn cn bl cl vsk ∧ sk.down = false ∧ s.putGo ws = sk.putGo (ws.drop k) ∧ sk.since.length = s.since.length + k ∧ Chg O w wr ∧ ∀ g, vsk.ownBlock = some g → g ∈ O ∨ w.heap.size ≤ g
theorem drop_at {α : Type} {l : List α} {k : Nat} {x : α} (h : l[k]? = some x) : l.drop k = x :: l.drop (k + 1) := by
  obtain ⟨hk, rfl⟩ := List.getElem?_eq_some_iff.1 h
  exact List.drop_eq_getElem_cons hk
theorem fitE_zero {N : Nat} {ws : List Wr} (h : fitE N ws = 0) : ∀ x ∈ ws, (∃ m : Nat, x.1 = m ∧ m < N) ∧ x.2.length = 128 := by
  unfold fitE at h
  split at h
  · rename_i h1
    split at h
    · rename_i h2
      intro x hx
      have g1 := List.all_eq_true.1 h1 x hx
      have g2 := List.all_eq_true.1 h2 x hx
      simp only [inR, Bool.and_eq_true, decide_eq_true_eq] at g1
      exact ⟨⟨x.1.toNat, by omega, by omega⟩, by simpa using g2⟩
    · cases h
  · cases h
theorem DrvAt.slice {w : World} {d N bn cn bl cl : Nat} {s : DS} {vs : Value} (h : DrvAt w d N s bn cn bl cl vs) : ∃ A c, vs = .slice A s.since.length c ∧ s.since.length ≤ c ∧ c ≤ maxLen := by
  rcases h.sin.2 with ⟨rfl, h0⟩ | ⟨g, cap, cur, rfl, _, hg, hn, hm, _⟩
  · exact ⟨none, 0, by rw [h0], by omega, by decide⟩
  · exact ⟨_, _, rfl, hn, hm⟩
end Go.Proofs.Ytlhkkelpombbiaa
