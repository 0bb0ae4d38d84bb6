/- The arguments, opened: a request, a reply, a recall that came in. -/
import Derived.Test.YtfignanjelebaaaArgs
import Derived.Test.YtfignanjelebaaaVMem
import Derived.Test.YtfignanjelebaaaVRefA
import Derived.SliceStrings
import Derived.Deep.Strs
namespace Go.Proofs.Ytfignanjelebaaa
open Go.ChangeShapes Go.WideShapes Go.ChangeAt Go.RowKit
set_option linter.unusedVariables false
theorem cells3 : Try.prog.cellsOf 3 = 1 := by kernel_rfl
theorem cells9 : Try.prog.cellsOf 9 = 1 := by kernel_rfl
theorem cells24 : Try.prog.cellsOf 24 = 1 := by kernel_rfl
theorem cells42 : Try.prog.cellsOf 42 = 1 := by kernel_rfl
theorem cells23 : Try.prog.cellsOf 23 = 2 := by kernel_rfl
theorem cells26 : Try.prog.cellsOf 26 = 13 := by kernel_rfl
theorem cells41 : Try.prog.cellsOf 41 = 6 := by kernel_rfl
theorem cells44 : Try.prog.cellsOf 44 = 12 := by kernel_rfl
theorem cells52 : Try.prog.cellsOf 52 = 3 := by kernel_rfl
theorem cells27 : Try.prog.cellsOf 27 = 1 := by kernel_rfl
theorem int_of {z : Int} (h : (Lit.int .i64 z).wf = true) : -9223372036854775808 ≤ z ∧ z ≤ 9223372036854775807 := by
  have h1 : IntKind.i64.min = -9223372036854775808 := rfl
  have h2 : IntKind.i64.max = 9223372036854775807 := rfl
  simp only [Lit.wf, Bool.and_eq_true, decide_eq_true_eq] at h
  omega
theorem word_of {z : Int} (h : (Lit.int .u16 z).wf = true) : ∃ n : Nat, n < 65536 ∧ z = (n : Int) := by
  have h1 : IntKind.u16.min = 0 := rfl
  have h2 : IntKind.u16.max = 65535 := rfl
  simp only [Lit.wf, Bool.and_eq_true, decide_eq_true_eq] at h
  exact ⟨z.toNat, by omega, by omega⟩
section
variable {H : Type} {enc : TypeId × Value → H} {W : World}
/-- A []byte that came in, by its cell. -/
theorem open_cell {fuel : Nat} {v : Value} {x : DataW H × List MemPlace} (hf : DataW.trod enc Try.prog W 0 (fun _ => true) true fuel 24 [v] = some x) :
    ∃ a n c l, v = .slice a n c ∧ Bts W W.heap.size a n c l := by
  rcases open_ints Try.underlying24 Try.underlying5 byteCells hf with ⟨hcs, hx⟩ | ⟨x, m, cc, zs, hcs, _, hl, hm, hz, hx, hcell, hwz⟩
  · simp at hcs
    exact ⟨none, 0, 0, [], hcs, Bts.nil_ _ _⟩
  · simp at hcs
    simp only [if_true] at hz
    refine ⟨some x, m, cc, (zs.take m).map (fun z => UInt8.ofNat z.toNat), hcs, ⟨by simp [hz]; omega, hl, hm, (fun e => by cases e), fun h0 => ?_⟩⟩
    obtain ⟨b, off, spot⟩ := x
    have hspot : spot = none := by simpa [Addr.add] using World.cell?_spot (hcell 0 (by omega))
    subst hspot
    have hb : b < W.heap.size := by
      have := hcell 0 (by omega)
      exact World.block_lt_of_cell? W ⟨b, off, none⟩ (by rw [Addr.add_lit] at this; exact this)
    refine ⟨b, off, rfl, hb, fun j hj => ?_⟩
    have hjz : j < zs.length := by omega
    have h1 := hcell j hjz
    rw [Addr.add_lit] at h1
    rw [h1]
    have hw := byte_of (hwz zs[j] (List.getElem_mem hjz))
    simp only [List.getElem?_map, List.getElem?_take, if_pos hj, List.getD, List.getElem?_eq_getElem hjz, Option.getD_some, Option.map_some]
    rw [← hw]
/-- A []string that came in, by its cell. -/
theorem open_strs {fuel : Nat} {v : Value} {x : DataW H × List MemPlace} (hf : DataW.trod enc Try.prog W 0 (fun _ => true) true fuel 42 [v] = some x) :
    ∃ a n c l, v = .slice a n c ∧ Strs W W.heap.size a n c l := by
  rcases open_strings Try.underlying42 Try.underlying9 cells9 hf with ⟨hcs, hx⟩ | ⟨x, m, cc, ss, hcs, _, hl, hm, hz, hx, hcell, _⟩
  · simp at hcs
    exact ⟨none, 0, 0, [], hcs, Strs.nil_ _ _⟩
  · simp at hcs
    simp only [if_true] at hz
    refine ⟨some x, m, cc, (ss.take m).map (fun s => s.data.toList), hcs, ⟨by simp [hz]; omega, hl, fun h0 => ?_⟩⟩
    obtain ⟨b, off, spot⟩ := x
    have hspot : spot = none := by simpa [Addr.add] using World.cell?_spot (hcell 0 (by omega))
    subst hspot
    have hb : b < W.heap.size := by
      have := hcell 0 (by omega)
      exact World.block_lt_of_cell? W ⟨b, off, none⟩ (by rw [Addr.add_lit] at this; exact this)
    refine ⟨b, off, rfl, hb, fun j hj => ?_⟩
    have hjz : j < ss.length := by omega
    have h1 := hcell j hjz
    rw [Addr.add_lit] at h1
    rw [h1]
    simp [hj, hjz]
theorem fld {n : Nat} {fs : Array Field} {cs : List Value} {xs : List (DataW H × List MemPlace)} (hf : ∀ (i : Nat) (f : Field), fs[i]? = some f → DataW.trod enc Try.prog W 0 (fun _ => true) true n f.type ((cs.drop f.offset).take (Try.prog.cellsOf f.type)) = xs[i]?) (i : Nat) (t : TypeId) (o c : Nat) (he : (fs[i]?).map (fun f => (f.type, f.offset)) = some (t, o)) (hc : Try.prog.cellsOf t = c) (hi : i < xs.length) :
    ∃ y, DataW.trod enc Try.prog W 0 (fun _ => true) true n t ((cs.drop o).take c) = some y := by
  obtain ⟨f, hf1, hf2⟩ := Option.map_eq_some_iff.1 he
  have h := hf i f hf1
  simp only [Prod.mk.injEq] at hf2
  rw [hf2.1, hf2.2, hc] at h
  exact ⟨_, h.trans (List.getElem?_eq_getElem hi)⟩
theorem fint {n : Nat} {v : Value} {y : DataW H × List MemPlace} (h : DataW.trod enc Try.prog W 0 (fun _ => true) true n 3 [v] = some y) : ∃ z, v = .int .i64 z := by
  obtain ⟨z, e, _⟩ := DataW.trod_int Try.underlying3 h
  exact ⟨z, by simpa using e⟩
theorem ferr {n : Nat} {v : Value} {y : DataW H × List MemPlace} (h : DataW.trod enc Try.prog W 0 (fun _ => true) true n 27 [v] = some y) : ∃ z, v = .int .i64 z := by
  obtain ⟨z, e, _⟩ := DataW.trod_int Try.underlying27 h
  exact ⟨z, by simpa using e⟩
theorem fstr {n : Nat} {v : Value} {y : DataW H × List MemPlace} (h : DataW.trod enc Try.prog W 0 (fun _ => true) true n 9 [v] = some y) : ∃ s : List UInt8, v = .string ⟨s.toArray⟩ := by
  obtain ⟨s, e, _⟩ := DataW.trod_string Try.underlying9 h
  exact ⟨s.data.toList, by simpa using e⟩
theorem fhandle {n : Nat} {v u : Value} {y : DataW H × List MemPlace} (h : DataW.trod enc Try.prog W 0 (fun _ => true) true n 23 [v, u] = some y) : ∃ z z', v = .int .i64 z ∧ u = .int .i64 z' := by
  obtain ⟨xs, m, _, _, _, hl, hf⟩ := DataW.trod_struct Try.underlying23 h
  have hl : xs.length = 2 := hl
  obtain ⟨yh0, h0⟩ := fld hf 0 3 0 1 rfl cells3 (by omega)
  obtain ⟨yh1, h1⟩ := fld hf 1 3 1 1 rfl cells3 (by omega)
  obtain ⟨z0, e0⟩ := fint (v := v) h0
  obtain ⟨z1, e1⟩ := fint (v := u) h1
  exact ⟨z0, z1, e0, e1⟩
set_option maxRecDepth 100000 in
/-- A recall that came in. -/
theorem open_recall {r : Reach} {b0 : Nat} {v : Value} {d : DataW H} {p : List MemPlace} (hval : Value.okWide Try.prog W r b0 52 v) (h : DataW.Trod enc Try.prog W 0 (fun _ => true) true 52 v d p) : ∃ x : Rc, v = .agg (kc x).toArray := by
  obtain ⟨cs, rfl, hcs⟩ := okWide_struct Try.underlying52 hval
  rw [cells52] at hcs
  obtain ⟨fuel, hf⟩ := h
  obtain ⟨xs, m, _, _, _, hl, hf⟩ := DataW.trod_struct Try.underlying52 hf
  have hl : xs.length = 2 := hl
  obtain ⟨l⟩ := cs
  match l, hcs with
  | [c0, c1, c2], _ =>
    obtain ⟨yh0, h0⟩ := fld hf 0 3 0 1 rfl cells3 (by omega)
    obtain ⟨yh1, h1⟩ := fld hf 1 23 1 2 rfl cells23 (by omega)
    obtain ⟨z0, rfl⟩ := fint (v := c0) h0
    obtain ⟨z1, z2, rfl, rfl⟩ := fhandle (v := c1) (u := c2) h1
    exact ⟨⟨z0, z1, z2⟩, rfl⟩
set_option maxRecDepth 100000 in
/-- A request that came in. -/
theorem open_verb {r : Reach} {b0 : Nat} {v : Value} {d : DataW H} {p : List MemPlace} (hval : Value.okWide Try.prog W r b0 26 v) (h : DataW.Trod enc Try.prog W 0 (fun _ => true) true 26 v d p) : ∃ (x : Vb) (A : Option Addr) (n c : Nat), v = .agg (vc x A n c).toArray ∧ Bts W W.heap.size A n c x.d := by
  obtain ⟨cs, rfl, hcs⟩ := okWide_struct Try.underlying26 hval
  rw [cells26] at hcs
  obtain ⟨fuel, hf⟩ := h
  obtain ⟨xs, m, _, _, _, hl, hf⟩ := DataW.trod_struct Try.underlying26 hf
  have hl : xs.length = 12 := hl
  obtain ⟨l⟩ := cs
  match l, hcs with
  | [c0, c1, c2, c3, c4, c5, c6, c7, c8, c9, c10, c11, c12], _ =>
    obtain ⟨yh0, h0⟩ := fld hf 0 3 0 1 rfl cells3 (by omega)
    obtain ⟨yh1, h1⟩ := fld hf 1 3 1 1 rfl cells3 (by omega)
    obtain ⟨yh2, h2⟩ := fld hf 2 3 2 1 rfl cells3 (by omega)
    obtain ⟨yh3, h3⟩ := fld hf 3 3 3 1 rfl cells3 (by omega)
    obtain ⟨yh4, h4⟩ := fld hf 4 3 4 1 rfl cells3 (by omega)
    obtain ⟨yh5, h5⟩ := fld hf 5 9 5 1 rfl cells9 (by omega)
    obtain ⟨yh6, h6⟩ := fld hf 6 9 6 1 rfl cells9 (by omega)
    obtain ⟨yh7, h7⟩ := fld hf 7 23 7 2 rfl cells23 (by omega)
    obtain ⟨yh8, h8⟩ := fld hf 8 3 9 1 rfl cells3 (by omega)
    obtain ⟨yh9, h9⟩ := fld hf 9 3 10 1 rfl cells3 (by omega)
    obtain ⟨yh10, h10⟩ := fld hf 10 3 11 1 rfl cells3 (by omega)
    obtain ⟨yh11, h11⟩ := fld hf 11 24 12 1 rfl cells24 (by omega)
    obtain ⟨z0, rfl⟩ := fint (v := c0) h0
    obtain ⟨z1, rfl⟩ := fint (v := c1) h1
    obtain ⟨z2, rfl⟩ := fint (v := c2) h2
    obtain ⟨z3, rfl⟩ := fint (v := c3) h3
    obtain ⟨z4, rfl⟩ := fint (v := c4) h4
    obtain ⟨s5, rfl⟩ := fstr (v := c5) h5
    obtain ⟨s6, rfl⟩ := fstr (v := c6) h6
    obtain ⟨z7, z8, rfl, rfl⟩ := fhandle (v := c7) (u := c8) h7
    obtain ⟨z9, rfl⟩ := fint (v := c9) h8
    obtain ⟨z10, rfl⟩ := fint (v := c10) h9
    obtain ⟨z11, rfl⟩ := fint (v := c11) h10
    obtain ⟨A, n, c, l, rfl, hB⟩ := open_cell (v := c12) h11
    exact ⟨⟨z0, z1, z2, z3, z4, z7, z8, z9, z10, z11, s5, s6, l⟩, A, n, c, rfl, hB⟩
set_option maxRecDepth 100000 in
/-- A reply that came in. -/
theorem open_reply {r : Reach} {b0 : Nat} {v : Value} {d : DataW H} {p : List MemPlace} (hval : Value.okWide Try.prog W r b0 44 v) (h : DataW.Trod enc Try.prog W 0 (fun _ => true) true 44 v d p) : ∃ (x : Rp) (A X : Option Addr) (n c m e : Nat), v = .agg (rc x A n c X m e).toArray ∧ Bts W W.heap.size A n c x.d ∧ Strs W W.heap.size X m e x.ns := by
  obtain ⟨cs, rfl, hcs⟩ := okWide_struct Try.underlying44 hval
  rw [cells44] at hcs
  obtain ⟨fuel, hf⟩ := h
  obtain ⟨xs, m, _, _, _, hl, hf⟩ := DataW.trod_struct Try.underlying44 hf
  have hl : xs.length = 7 := hl
  obtain ⟨l⟩ := cs
  match l, hcs with
  | [c0, c1, c2, c3, c4, c5, c6, c7, c8, c9, c10, c11], _ =>
    obtain ⟨yh0, h0⟩ := fld hf 0 3 0 1 rfl cells3 (by omega)
    obtain ⟨yh1, h1⟩ := fld hf 1 3 1 1 rfl cells3 (by omega)
    obtain ⟨yh2, h2⟩ := fld hf 2 3 2 1 rfl cells3 (by omega)
    obtain ⟨yh3, h3⟩ := fld hf 3 27 3 1 rfl cells27 (by omega)
    obtain ⟨yh4, h4⟩ := fld hf 4 41 4 6 rfl cells41 (by omega)
    obtain ⟨yh5, h5⟩ := fld hf 5 24 10 1 rfl cells24 (by omega)
    obtain ⟨yh6, h6⟩ := fld hf 6 42 11 1 rfl cells42 (by omega)
    obtain ⟨z0, rfl⟩ := fint (v := c0) h0
    obtain ⟨z1, rfl⟩ := fint (v := c1) h1
    obtain ⟨z2, rfl⟩ := fint (v := c2) h2
    obtain ⟨z3, rfl⟩ := ferr (v := c3) h3
    obtain ⟨A, n, c, l, rfl, hB⟩ := open_cell (v := c10) h5
    obtain ⟨X, m', e, ns, rfl, hS⟩ := open_strs (v := c11) h6
    obtain ⟨ys, k, _, _, _, kl, kf⟩ := DataW.trod_struct Try.underlying41 h4
    have kl : ys.length = 5 := kl
    obtain ⟨yg0, g0⟩ := fld kf 0 23 0 2 rfl cells23 (by omega)
    obtain ⟨yg1, g1⟩ := fld kf 1 3 2 1 rfl cells3 (by omega)
    obtain ⟨yg2, g2⟩ := fld kf 2 3 3 1 rfl cells3 (by omega)
    obtain ⟨yg3, g3⟩ := fld kf 3 3 4 1 rfl cells3 (by omega)
    obtain ⟨yg4, g4⟩ := fld kf 4 3 5 1 rfl cells3 (by omega)
    obtain ⟨z4, z5, rfl, rfl⟩ := fhandle (v := c4) (u := c5) g0
    obtain ⟨z6, rfl⟩ := fint (v := c6) g1
    obtain ⟨z7, rfl⟩ := fint (v := c7) g2
    obtain ⟨z8, rfl⟩ := fint (v := c8) g3
    obtain ⟨z9, rfl⟩ := fint (v := c9) g4
    exact ⟨⟨z0, z1, z2, z3, z4, z5, z6, z7, z8, z9, l, ns⟩, A, X, n, c, m', e, rfl, hB, hS⟩
end
end Go.Proofs.Ytfignanjelebaaa
