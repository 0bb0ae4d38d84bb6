/- The arguments, opened: a node is eleven numbers, a []byte a slice that holds bytes. -/
import Derived.Test.YtijphembfohfnaaMem
import Derived.OpenShut
import Derived.ShutString
import Derived.ChangeOld
import Derived.SizedLaws
import Derived.Deep.Strs
namespace Go.Proofs.Ytijphembfohfnaa
open Go.ChangeShapes Go.WideShapes Go.ChangeAt Go.RowKit
set_option linter.unusedVariables false

theorem own : ownKnob Try.prog.godebug = none := by kernel_rfl
theorem laidOut : laidOutB Try.prog = true := by kernel_rfl
theorem byteCells : Try.prog.cellsOf 5 = 1 := by kernel_rfl
theorem intCells : Try.prog.cellsOf 3 = 1 := by kernel_rfl
theorem byte_of {z : Int} (h : (Lit.int .u8 z).wf = true) : z = ((UInt8.ofNat z.toNat).toNat : Int) := by
  have h1 : IntKind.u8.min = 0 := rfl
  have h2 : IntKind.u8.max = 255 := rfl
  simp only [Lit.wf, Bool.and_eq_true, decide_eq_true_eq] at h
  rw [UInt8.toNat_ofNat']
  omega
theorem int_of {z : Int} (h : (Lit.int .i64 z).wf = true) : -9223372036854775808 ≤ z ∧ z ≤ 9223372036854775807 := by
  have h1 : IntKind.i64.min = -9223372036854775808 := rfl
  have h2 : IntKind.i64.max = 9223372036854775807 := rfl
  simp only [Lit.wf, Bool.and_eq_true, decide_eq_true_eq] at h
  omega
theorem word_of {z : Int} (h : (Lit.int .u16 z).wf = true) : ∃ n : Nat, n < 65536 ∧ z = (n : Int) := by
  have h1 : IntKind.u16.min = 0 := rfl
  have h2 : IntKind.u16.max = 65535 := rfl
  simp only [Lit.wf, Bool.and_eq_true, decide_eq_true_eq] at h
  exact ⟨z.toNat, by omega, by omega⟩
theorem node_cells : (Try.prog.cellsOf 25) = 11 := by kernel_rfl
theorem four_cells : (Try.prog.cellsOf 23) = 4 := by kernel_rfl
theorem slice_cells : (Try.prog.cellsOf 22) = 1 := by kernel_rfl
/-- A []byte that came in, by its cell. -/
theorem open_cell {H : Type} {enc : TypeId × Value → H} {W : World} {fuel : Nat} {v : Value} {x : DataW H × List MemPlace} (hf : DataW.trod enc Try.prog W 0 (fun _ => true) true fuel 22 [v] = some x) :
    ∃ a n c l, v = .slice a n c ∧ F.Bts W W.heap.size a n c l := by
  rcases open_ints Try.underlying22 Try.underlying5 byteCells hf with ⟨hcs, hx⟩ | ⟨x, m, cc, zs, hcs, _, hl, hm, hz, hx, hcell, hwz⟩
  · simp at hcs
    exact ⟨none, 0, 0, [], hcs, F.Bts.nil_ _ _⟩
  · simp at hcs
    simp only [if_true] at hz
    refine ⟨some x, m, cc, (zs.take m).map (fun z => UInt8.ofNat z.toNat), hcs, ⟨by simp [hz]; omega, hl, hm, (fun e => by cases e), fun h0 => ?_⟩⟩
    obtain ⟨b, off, spot⟩ := x
    have hspot : spot = none := by simpa [Addr.add] using World.cell?_spot (hcell 0 (by omega))
    subst hspot
    have hb : b < W.heap.size := by
      have := hcell 0 (by omega)
      exact World.block_lt_of_cell? W ⟨b, off, none⟩ (by rw [Addr.add_lit] at this; exact this)
    refine ⟨b, off, rfl, hb, fun j hj => ?_⟩
    have hjz : j < zs.length := by omega
    have h1 := hcell j hjz
    rw [Addr.add_lit] at h1
    rw [h1]
    have hw := byte_of (hwz zs[j] (List.getElem_mem hjz))
    simp only [List.getElem?_map, List.getElem?_take, if_pos hj, List.getD, List.getElem?_eq_getElem hjz, Option.getD_some, Option.map_some]
    rw [← hw]
/-- A node that came in: eleven numbers. -/
theorem open_node {H : Type} {enc : TypeId × Value → H} {W : World} {r : Reach} {b0 : Nat} {v : Value} {d : DataW H} {p : List MemPlace} (hval : Value.okWide Try.prog W r b0 25 v) (h : DataW.Trod enc Try.prog W 0 (fun _ => true) true 25 v d p) :
    ∃ x : Nd, v = .agg (nc x).toArray := by
  obtain ⟨cs, rfl, hcs⟩ := okWide_struct Try.underlying25 hval
  rw [node_cells] at hcs
  obtain ⟨fuel, hf⟩ := h
  obtain ⟨xs, m, _, _, _, hlen, hfs⟩ := DataW.trod_struct Try.underlying25 hf
  obtain ⟨l⟩ := cs
  match l, hcs with
  | [c0, c1, c2, c3, c4, c5, c6, c7, c8, c9, c10], _ =>
    match xs, hlen with
    | [y0, y1, y2, y3, y4, y5, y6, y7], _ =>
      have g0 : DataW.trod enc Try.prog W 0 (fun _ => true) true m 3 (([c0, c1, c2, c3, c4, c5, c6, c7, c8, c9, c10].drop 0).take (Try.prog.cellsOf 3)) = some y0 := hfs 0 _ rfl
      have g1 : DataW.trod enc Try.prog W 0 (fun _ => true) true m 3 (([c0, c1, c2, c3, c4, c5, c6, c7, c8, c9, c10].drop 1).take (Try.prog.cellsOf 3)) = some y1 := hfs 1 _ rfl
      have g2 : DataW.trod enc Try.prog W 0 (fun _ => true) true m 3 (([c0, c1, c2, c3, c4, c5, c6, c7, c8, c9, c10].drop 2).take (Try.prog.cellsOf 3)) = some y2 := hfs 2 _ rfl
      have g3 : DataW.trod enc Try.prog W 0 (fun _ => true) true m 3 (([c0, c1, c2, c3, c4, c5, c6, c7, c8, c9, c10].drop 3).take (Try.prog.cellsOf 3)) = some y3 := hfs 3 _ rfl
      have g4 : DataW.trod enc Try.prog W 0 (fun _ => true) true m 3 (([c0, c1, c2, c3, c4, c5, c6, c7, c8, c9, c10].drop 4).take (Try.prog.cellsOf 3)) = some y4 := hfs 4 _ rfl
      have g5 : DataW.trod enc Try.prog W 0 (fun _ => true) true m 23 (([c0, c1, c2, c3, c4, c5, c6, c7, c8, c9, c10].drop 5).take (Try.prog.cellsOf 23)) = some y5 := hfs 5 _ rfl
      have g6 : DataW.trod enc Try.prog W 0 (fun _ => true) true m 3 (([c0, c1, c2, c3, c4, c5, c6, c7, c8, c9, c10].drop 9).take (Try.prog.cellsOf 3)) = some y6 := hfs 6 _ rfl
      have g7 : DataW.trod enc Try.prog W 0 (fun _ => true) true m 3 (([c0, c1, c2, c3, c4, c5, c6, c7, c8, c9, c10].drop 10).take (Try.prog.cellsOf 3)) = some y7 := hfs 7 _ rfl
      rw [intCells] at g0 g1 g2 g3 g4 g6 g7
      rw [four_cells] at g5
      obtain ⟨z0, e0, _⟩ := DataW.trod_int Try.underlying3 g0
      obtain ⟨z1, e1, _⟩ := DataW.trod_int Try.underlying3 g1
      obtain ⟨z2, e2, _⟩ := DataW.trod_int Try.underlying3 g2
      obtain ⟨z3, e3, _⟩ := DataW.trod_int Try.underlying3 g3
      obtain ⟨z4, e4, _⟩ := DataW.trod_int Try.underlying3 g4
      obtain ⟨z9, e9, _⟩ := DataW.trod_int Try.underlying3 g6
      obtain ⟨z10, e10, _⟩ := DataW.trod_int Try.underlying3 g7
      obtain ⟨us, m', _, _, _, hl5, hf5⟩ := DataW.trod_array Try.underlying23 g5
      match us, hl5 with
      | [u0, u1, u2, u3], _ =>
        have k0 : DataW.trod enc Try.prog W 0 (fun _ => true) true m' 3 ((((([c0, c1, c2, c3, c4, c5, c6, c7, c8, c9, c10].drop 5).take 4)).drop (0 * Try.prog.cellsOf 3)).take (Try.prog.cellsOf 3)) = some u0 := hf5 0 (by omega)
        have k1 : DataW.trod enc Try.prog W 0 (fun _ => true) true m' 3 ((((([c0, c1, c2, c3, c4, c5, c6, c7, c8, c9, c10].drop 5).take 4)).drop (1 * Try.prog.cellsOf 3)).take (Try.prog.cellsOf 3)) = some u1 := hf5 1 (by omega)
        have k2 : DataW.trod enc Try.prog W 0 (fun _ => true) true m' 3 ((((([c0, c1, c2, c3, c4, c5, c6, c7, c8, c9, c10].drop 5).take 4)).drop (2 * Try.prog.cellsOf 3)).take (Try.prog.cellsOf 3)) = some u2 := hf5 2 (by omega)
        have k3 : DataW.trod enc Try.prog W 0 (fun _ => true) true m' 3 ((((([c0, c1, c2, c3, c4, c5, c6, c7, c8, c9, c10].drop 5).take 4)).drop (3 * Try.prog.cellsOf 3)).take (Try.prog.cellsOf 3)) = some u3 := hf5 3 (by omega)
        rw [intCells] at k0 k1 k2 k3
        obtain ⟨z5, e5, _⟩ := DataW.trod_int Try.underlying3 k0
        obtain ⟨z6, e6, _⟩ := DataW.trod_int Try.underlying3 k1
        obtain ⟨z7, e7, _⟩ := DataW.trod_int Try.underlying3 k2
        obtain ⟨z8, e8, _⟩ := DataW.trod_int Try.underlying3 k3
        simp at e0 e1 e2 e3 e4 e5 e6 e7 e8 e9 e10
        refine ⟨⟨z0, z1, z2, z3, z4, z5, z6, z7, z8, z9, z10⟩, ?_⟩
        rw [e0, e1, e2, e3, e4, e5, e6, e7, e8, e9, e10]
        rfl
theorem open_bytes {H : Type} {enc : TypeId × Value → H} {W : World} {a : Option Addr} {n c : Nat} {d : DataW H} {p : List MemPlace} (h : DataW.Trod enc Try.prog W 0 (fun _ => true) true 22 (.slice a n c) d p) :
    ∃ l, F.Bts W W.heap.size a n c l := by
  obtain ⟨fuel, hf⟩ := h
  obtain ⟨a', n', c', l, e, hB⟩ := open_cell hf
  cases e
  exact ⟨l, hB⟩
end Go.Proofs.Ytijphembfohfnaa
