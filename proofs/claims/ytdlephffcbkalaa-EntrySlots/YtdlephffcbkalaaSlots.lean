/- Slots: the range over slices.Chunk, walked. -/
import Derived.Test.YtdlephffcbkalaaChunk
import Derived.Test.YtdlephffcbkalaaDecB
import Derived.Test.YtdlephffcbkalaaNames
import Derived.Test.YtdlephffcbkalaaMath
namespace Go.Proofs.Ytdlephffcbkalaa
open Go.RowKit Go.Shelf
set_option linter.unusedVariables false
attribute [local go_sem] Oper.semAt_some

set_option maxHeartbeats 1000000 in
theorem chunk_in (n : Nat) (A : Option Addr) (len cap : Nat) (w : World) :
    CallsIn Fence.wide n Try.prog 27 #[.slice A len cap, .int .i64 32] w fun e w' => e = .returned (.func (.func 33) #[] #[.pointer (some ⟨w.heap.size, 0, none⟩), .pointer (some ⟨w.heap.size + 1, 0, none⟩)]) ∧ w' = (w.alloc (.cells #[.slice A len cap] 24)).alloc (.cells #[.int .i64 32] 3) := by
  refine callsIn_of_wp Try.func27 rfl trivial ?_ rfl
  simp only [Try.ntmps27, List.size_toArray, List.length_cons, List.length_nil, Nat.reduceAdd, Nat.reduceSub, Array.replicate_succ, Array.replicate_zero, List.push_toArray, List.append_toArray, List.nil_append, List.cons_append]
  gi_wp2
  go_ret
  exact ⟨rfl, rfl⟩
theorem chunk_stops (n : Nat) (hn : 1 ≤ n) (Bs Bn n₀ bb off : Nat) (A : Option Addr) (len cap : Nat) (w : World) (hBs : Bs < w.heap.size) (hBn : Bn < w.heap.size) (hA : 0 < len → A = some ⟨bb, off, none⟩) (hcap : len ≤ cap) (hlim : cap ≤ 9223372036854775807) (hlen : len ≤ 140737488355328)
    (hc : w.cell? ⟨Bs, 0, none⟩ = some (.slice A len cap)) (hc' : w.cell? ⟨Bn, 0, none⟩ = some (.int .i64 32)) :
    SeqStopsK Fence.wide n Try.prog 33 #[.pointer (some ⟨Bs, 0, none⟩), .pointer (some ⟨Bn, 0, none⟩)] (encs bb off len) (KB n₀ Bs Bn) (fun ys => ys.map (·.1) = List.range (nparts len)) (fun pre => ∃ k, k ≤ nparts len ∧ pre.map (·.1) = List.range k) (nparts len) w := fun ll J Jx W hW hJ _ hY h0 =>
  chunk1_in n hn ll Bs Bn n₀ cap len bb off A J Jx hA hcap hlim (fun s V hs => hJ s V V.drew none hs ⟨rfl, rfl, rfl, Nat.le_refl _, fun _ _ _ => rfl⟩ (fun r e => by cases e)) hY W ((hW.cell (p := ⟨Bs, 0, none⟩) hBs).trans hc) ((hW.cell (p := ⟨Bn, 0, none⟩) hBn).trans hc') h0 hlen
theorem boxed_own {β : Type} (B : Nat) (t : TypeId) (v : Value) : Own (fun (_ : β) W => Boxed W B t v) := by
  intro s X Y row hv hg hrow
  refine Boxed.kept hv hg fun e' => ?_
  obtain ⟨o, ho, hc⟩ := hrow B e'.symm
  rw [show X.heap[B]? = _ from hv] at ho
  cases ho
  cases hc
/-- One entry more, as it comes. -/
theorem appR_raw {w : World} {base : Nat} {v : Value} {l : List Rw} (r : Rw) (hown : OwnR w base v l) (hk : l.length ≤ 5000000000000) (hbase : base ≤ w.heap.size) :
    ∃ v' w', (Builtin.append_ #[35, 35] 35 #[v, .slice (some ⟨w.heap.size, 0, none⟩) 1 1]).run Try.prog (w.alloc (.cells #[.string (bs r.1), .int .i64 r.2] 23)) = .ok v' w' ∧ OwnR w' base v' (l ++ [r]) ∧ (w.alloc (.cells #[.string (bs r.1), .int .i64 r.2] 23)).grownBy w' v.ownBlock := by
  obtain ⟨i0, hi, hz0, hz1, hz2⟩ := info_parts Try.info23
  obtain ⟨v', w', hr, h2, h3, _⟩ := run_append_own (P := Try.prog) (w.alloc (.cells #[.string (bs r.1), .int .i64 r.2] 23)) base 35 35 23 i0 _ 2 24 Try.underlying35 hi hz0 hz1 hz2 rfl (by decide) v l.length (l.flatMap rc) (World.ownsRow.alloc hown _) ⟨w.heap.size, 0, none⟩ 1 1 (rc r) (by rfl)
    (fun j u hu => by
      rw [Addr.add_lit, World.cell?_alloc_mark, Nat.zero_add]
      match j, hu with
      | 0, hu => exact hu
      | 1, hu => exact hu
      | j + 2, hu => simp [rc] at hu) (rc_one r) (by unfold maxLen; omega) (by omega) (by simp; omega)
  refine ⟨v', w', hr, ?_, h3⟩
  unfold OwnR
  rw [List.flatMap_append, List.length_append]
  simpa using h2
def rowsOf (b : List UInt8) (ks : List Nat) : List Rw := ks.map fun i => (dec (prt b i)).getD emp
def oksOf (b : List UInt8) (ks : List Nat) : Bool := ks.all fun i => (dec (prt b i)).isSome
theorem plen_take {b : List UInt8} {len : Nat} (h : b.length = len) (k : Nat) : (b.drop (32 * k)).take (plen len k) = prt b k := by
  unfold prt plen
  rw [← h, ← List.length_drop, List.take_eq_take_iff]
  omega
/-- What holds behind some rounds. -/
def Inv (w : World) (A : Option Addr) (cap : Nat) (b : List UInt8) {len : Nat} (pre : List (Pl len)) (W : World) : Prop :=
  (∃ v, Boxed W (w.heap.size + 1 + 1) 35 v ∧ W.ownsRow w.heap.size 23 2 v (rowsOf b (pre.map (·.1))).length ((rowsOf b (pre.map (·.1))).flatMap rc) ∧ True) ∧ (Boxed W w.heap.size 35 (.slice none 0 0) ∧ (Boxed W (w.heap.size + 1) 25 (.int .i64 0) ∧ (Boxed W (w.heap.size + 1 + 1 + 1) 24 (.slice A len cap) ∧ (Boxed W (w.heap.size + 1 + 1 + 1 + 1) 3 (.int .i64 32) ∧ (Below w.heap.size w W ∧ oksOf b (pre.map (·.1)) = true)))))
def InvX (w : World) (b : List UInt8) {len : Nat} (c : Code) (pre : List (Pl len)) (W : World) : Prop :=
  Boxed W w.heap.size 35 (.slice none 0 0) ∧ (Boxed W (w.heap.size + 1) 25 (.int .i64 2) ∧ (Below w.heap.size w W ∧ (c = .ret ∧ oksOf b (pre.map (·.1)) = false)))
theorem inv_own (w : World) (A : Option Addr) (cap : Nat) (b : List UInt8) {len B : Nat} (hB : w.heap.size ≤ B) : OwnFrom B (Inv w A cap b (len := len)) :=
  OwnFrom.and ((holdsRow_own w.heap.size (w.heap.size + 1 + 1) 35 23 2 (fun pre : List (Pl len) => (rowsOf b (pre.map (·.1))).length) (fun pre => (rowsOf b (pre.map (·.1))).flatMap rc) (fun _ _ => True)).from B)
    (OwnFrom.and ((boxed_own _ _ _).from B) (OwnFrom.and ((boxed_own _ _ _).from B) (OwnFrom.and ((boxed_own _ _ _).from B) (OwnFrom.and ((boxed_own _ _ _).from B) (OwnFrom.and (ownFrom_below (Nat.le_refl _) hB) (fun _ _ _ _ hs _ _ => hs))))))
theorem invX_own (w : World) (b : List UInt8) {len B : Nat} (hB : w.heap.size ≤ B) (c : Code) : OwnFrom B (InvX w b (len := len) c) :=
  OwnFrom.and ((boxed_own _ _ _).from B) (OwnFrom.and ((boxed_own _ _ _).from B) (OwnFrom.and (ownFrom_below (Nat.le_refl _) hB) (fun _ _ _ _ hs _ _ => hs)))
theorem keeps_below {B : Nat} {W W' : World} (h : Below W.heap.size W W') : KeepsFrom B W W' := ⟨h.size, fun k o _ hk _ => (h.block k (Array.getElem?_eq_some_iff.1 hk).1).trans hk⟩
/-- Two results out of their cells. -/
theorem ret_two {fn : Func} {p q : Tmp} {ty ty' : TypeId} (h : fn.results = #[.cell p ty, .cell q ty']) {tmps : Array Value} {W : World} {g g' : Nat} {v v' : Value} (hp : tmps.getD p undef = .pointer (some ⟨g, 0, none⟩)) (hq : tmps.getD q undef = .pointer (some ⟨g', 0, none⟩)) (hl : (loadVar ty ⟨g, 0, none⟩).run Try.prog W = .ok v W) (hl' : (loadVar ty' ⟨g', 0, none⟩).run Try.prog W = .ok v' W) :
    (results fn tmps).run Try.prog W = .ok (.tuple #[v, v']) W := by
  have hp' : tmps[p]?.getD undef = .pointer (some ⟨g, 0, none⟩) := by simpa using hp
  have hq' : tmps[q]?.getD undef = .pointer (some ⟨g', 0, none⟩) := by simpa using hq
  simp only [results, h]
  simp [hp', hq', asAddr, hl, hl']
theorem load35 {W : World} {g : Nat} {v : Value} (h : Boxed W g 35 v) : (loadVar 35 ⟨g, 0, none⟩).run Try.prog W = .ok v W := by
  simp [loadVar, h.cell]
theorem load25 {W : World} {g : Nat} {v : Value} (h : Boxed W g 25 v) : (loadVar 25 ⟨g, 0, none⟩).run Try.prog W = .ok v W := by
  simp [loadVar, h.cell]
/-- append by its run, inside a fence. -/
theorem wpListIn_append_run {F : Fence} {n : Nat} {P : Program} (w : World) {ops : Array Oper} {rest : List Oper} {o : Oper} {a : Act} {Q : Exit → Act → World → Prop}
    (hg : o.guard = none) (s x : Operand) (t : TypeId) (hop : o.op = Op.call { callee := Callee.builtin Builtin.append, args := #[s, x], argTypes := #[t, t] }) (vs vx : Value) (hs : a.eval s = vs) (hx : a.eval x = vx)
    (v' : Value) (w' : World) (hrun : (Builtin.append_ #[t, t] o.type #[vs, vx]).run P w = .ok v' w') (h : wpListIn F n P ops Q rest (a.put o.dst v') w') : wpListIn F n P ops Q (o :: rest) a w := by
  refine wpListIn_plain hg fun K hK' => ?_
  unfold Oper.wpIn
  refine ⟨?_, ?_⟩
  · simp [Oper.about, hop, resolve, Target.leads, Sem.run_pure]
  · rw [Oper.semAt_plain F _ _ (by rw [hop]; intro c hc'; cases hc')]
    simp [execOp, hop, resolve, invoke, builtin, hs, hx, hrun, Result.andThen]
    exact hK' _ _ h
theorem decP_none {w w' : World} {e : Ending} (h : DecP w none e w') : e = .returned (.tuple #[.agg #[.string (bs []), .int .i64 0], .int .i64 2]) ∧ Below w.heap.size w w' := by
  obtain ⟨h1, h2⟩ := h
  refine ⟨h1.trans ?_, h2⟩
  simp [emp]
theorem decP_some {w w' : World} {e : Ending} {r : Rw} (h : DecP w (some r) e w') : e = .returned (.tuple #[.agg #[.string (bs r.1), .int .i64 r.2], .int .i64 0]) ∧ Below w.heap.size w w' := by
  obtain ⟨h1, h2⟩ := h
  refine ⟨h1.trans ?_, h2⟩
  simp
theorem Boxed.below {W W' : World} {B : Nat} {t : TypeId} {v : Value} (h : Boxed W B t v) (hb : Below W.heap.size W W') : Boxed W' B t v := (hb.block B h.lt).trans h
theorem callsR {n l : Nat} {f : FuncId} {args : Array Value} {w : World} {R : Ending → World → Prop} (h : Calls Try.prog f args w R) : CallsIn (Fence.wide.inRound l) n Try.prog f args w R :=
  (callsIn_wide.2 h : CallsIn Fence.wide n Try.prog f args w R)
theorem callsW {n : Nat} {f : FuncId} {args : Array Value} {w : World} {R : Ending → World → Prop} (h : Calls Try.prog f args w R) : CallsIn Fence.wide n Try.prog f args w R := callsIn_wide.2 h
end Go.Proofs.Ytdlephffcbkalaa
