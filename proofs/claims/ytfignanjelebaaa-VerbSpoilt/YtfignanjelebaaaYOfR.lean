/- package verb: the pointers to the fields of a reply: a drawn region with a build, a call and an append. -/
import Derived.Test.YtfignanjelebaaaYOf
import Derived.Deep.RegionLaw
import Derived.Deep.RegionWith
namespace Go.Proofs.Ytfignanjelebaaa
open Go.RowKit
set_option linter.unusedVariables false
theorem wp_append_run {P : Program} {o : Oper} {a : Act} {w : World} {K : Act → World → Prop} {Q : Exit → Act → World → Prop} (s x : Operand) (t : TypeId)
    (ho : o.op = .call { callee := .builtin .append, args := #[s, x], argTypes := #[t, t] }) (v y v' : Value) (w' : World) (hs : a.eval s = v) (hx : a.eval x = y)
    (hr : (Builtin.append_ #[t, t] o.type #[v, y]).run P w = .ok v' w') (h : K (a.put o.dst v') w') : o.wp P a w K Q := by
  unfold Oper.wp execOp
  simp only [ho, resolve, invoke, builtin, Sem.run_bind, Sem.run_pure, Result.andThen_ok, List.map_toArray, List.map_cons, List.map_nil, hs, hx, hr]
  exact h
/-- append, at a step of a region that draws its order, by its run's equation. -/
theorem step_append_run {P : Program} {ops : Array Oper} {o : Oper} {a : Act} {w : World} {K : Act → World → Prop} {Q : Exit → Act → World → Prop} {E : Prop} (hgd : o.guard = none) (s x : Operand) (t : TypeId)
    (ho : o.op = .call { callee := .builtin .append, args := #[s, x], argTypes := #[t, t] }) (v y v' : Value) (w' : World) (hs : a.eval s = v) (hx : a.eval x = y)
    (hr : (Builtin.append_ #[t, t] o.type #[v, y]).run P w = .ok v' w') (h : K (a.put o.dst v') w') : if Region.wanted o (yielded ops a.tmps) = true then Oper.wp P o a w K Q else E := by
  have hw : Region.wanted o (yielded ops a.tmps) = true := by simp [Region.wanted, hgd]
  rw [if_pos hw]
  exact wp_append_run s x t ho v y v' w' hs hx hr h
def ReplyQ (w : World) (g : Nat) (e : Ending) (w' : World) : Prop := ∃ v, e = .returned v ∧ w'.ownsRow w.heap.size 97 1 v (rOs.map fun o => (g, o)).length ((rOs.map fun o => (g, o)).map PV) ∧ Below w.heap.size w w'
theorem app37 {w W : World} {f0 f1 g : Nat} (h0 : W.heap[f0]? = some (.cells #[PV (g, 0), PV (g, 1), PV (g, 2)] 97 (0, 0))) (hf0 : w.heap.size ≤ f0) (h1 : W.heap[f1]? = some (.cells (sOs.map fun o => PV (g, o)).toArray 97 (0, 0))) (hb : Below w.heap.size w W) :
    ∃ v' w', (Builtin.append_ #[67, 67] 67 #[.slice (some ⟨f0, 0, none⟩) 3 3, .slice (some ⟨f1, 0, none⟩) 7 7]).run Try.prog W = .ok v' w' ∧ ReplyQ w g (.returned v') w' := by
  have hown : W.ownsRow w.heap.size 97 1 (.slice (some ⟨f0, 0, none⟩) 3 3) [PV (g, 0), PV (g, 1), PV (g, 2)].length [PV (g, 0), PV (g, 1), PV (g, 2)] :=
    ⟨rfl, .inr ⟨f0, 3, _, rfl, hf0, h0, Nat.le_refl _, by decide, rfl, rfl⟩⟩
  obtain ⟨v', w', hr, ho, hgr⟩ := app_ptr (c := 7) 67 Try.underlying67 Try.info97 hown h1 (by rfl : _ = sOs.map fun o => PV (g, o)) (by
    intro u hu
    obtain ⟨p, _, rfl⟩ := List.mem_map.1 hu
    rfl) (by simp [sOs]) hb.size
  exact ⟨v', w', hr, v', rfl, ho, hb.grown hgr hb.size (fun j hj => (hown.lt j hj).1)⟩
def three (g : Nat) : Obj := .cells #[.pointer (some ⟨g, 0, none⟩), .pointer (some ⟨g, 1, none⟩), .pointer (some ⟨g, 2, none⟩)] 97 (0, 0)
theorem app37A {w w1 : World} {f1 g : Nat} (hc1 : w1.heap[f1]? = some (.cells (sOs.map fun o => PV (g, o)).toArray 97 (0, 0))) (hb1 : Below (w.alloc (three g)).drew.heap.size (w.alloc (three g)).drew w1) :
    ∃ v' w', (Builtin.append_ #[67, 67] 67 #[.slice (some ⟨w.heap.size, 0, none⟩) 3 3, .slice (some ⟨f1, 0, none⟩) 7 7]).run Try.prog w1 = .ok v' w' ∧ ReplyQ w g (.returned v') w' :=
  app37 ((hb1.block w.heap.size (by simp)).trans (heap_alloc_new w _)) (Nat.le_refl _) hc1 (((below_alloc w _).drew).trans (hb1.mono (by simp)))
theorem app37B {w w1 : World} {f1 g : Nat} (hc1 : w1.heap[f1]? = some (.cells (sOs.map fun o => PV (g, o)).toArray 97 (0, 0))) (hb1 : Below w.drew.heap.size w.drew w1) :
    ∃ v' w', (Builtin.append_ #[67, 67] 67 #[.slice (some ⟨w1.heap.size, 0, none⟩) 3 3, .slice (some ⟨f1, 0, none⟩) 7 7]).run Try.prog (w1.alloc (three g)) = .ok v' w' ∧ ReplyQ w g (.returned v') w' :=
  app37 (heap_alloc_new w1 _) hb1.size (((below_alloc w1 _).block _ (lt_of_heap hc1)).trans hc1) ((((Below.refl _ w).drew).trans hb1).alloc hb1.size _)
set_option maxHeartbeats 4000000 in
set_option maxRecDepth 100000 in
theorem ofReply_q (g : Nat) (w : World) : Calls Try.prog 54 #[.pointer (some ⟨g, 0, none⟩)] w (ReplyQ w g) := by
  go_enter Try.func54, Try.ntmps54
  go_wp2_with fail
  go_region_law (first
    | (go_simp; go_at_call 60; refine (ofChange_q g _).mono ?_; rintro e w1 ⟨f1, rfl, hf1, hc1, hb1⟩)
    | (obtain ⟨v', w2, hr, hq⟩ := app37A (w := w) (g := g) hc1 hb1; refine step_append_run rfl _ _ 67 rfl _ _ _ _ rfl rfl hr ?_)
    | (obtain ⟨v', w2, hr, hq⟩ := app37B (w := w) (g := g) hc1 hb1; refine step_append_run rfl _ _ 67 rfl _ _ _ _ rfl rfl hr ?_))
  all_goals (go_wp2; go_ret; exact hq)
theorem ofReply_any (g : Nat) (w : World) : Calls Try.prog 54 #[.pointer (some ⟨g, 0, none⟩)] w (OfP w (rOs.map fun o => (g, o))) :=
  (ofReply_q g w).mono fun _ _ h => by
    obtain ⟨v, rfl, ho, hb⟩ := h
    obtain ⟨A, c, rfl, hp, hf⟩ := own_ptrs ho (by decide)
    exact ⟨A, _, c, rfl, hp, hf, hb⟩
end Go.Proofs.Ytfignanjelebaaa
