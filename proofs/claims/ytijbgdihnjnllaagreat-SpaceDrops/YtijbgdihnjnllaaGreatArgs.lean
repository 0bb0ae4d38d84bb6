/- The arguments, opened: a node is eleven numbers, a seat two numbers and bytes, a []byte a slice that holds bytes, a []int one that holds numbers. -/
import Derived.Test.YtijbgdihnjnllaaGreatMD
import Derived.Test.YtijbgdihnjnllaaGreatMRb
import Derived.OpenShut
import Derived.ShutString
import Derived.ChangeOld
import Derived.SizedLaws
import Derived.Deep.Strs
namespace Go.Proofs.YtijbgdihnjnllaaGreat
open Go.ChangeShapes Go.WideShapes Go.ChangeAt Go.RowKit
set_option linter.unusedVariables false
set_option maxRecDepth 100000

theorem own : ownKnob Tryz.prog.godebug = none := by kernel_rfl
theorem laidOut : laidOutB Tryz.prog = true := by kernel_rfl
theorem byteCells : Tryz.prog.cellsOf 5 = 1 := by kernel_rfl
theorem intCells : Tryz.prog.cellsOf 3 = 1 := by kernel_rfl
theorem byte_of {z : Int} (h : (Lit.int .u8 z).wf = true) : z = ((UInt8.ofNat z.toNat).toNat : Int) := by
  have h1 : IntKind.u8.min = 0 := rfl
  have h2 : IntKind.u8.max = 255 := rfl
  simp only [Lit.wf, Bool.and_eq_true, decide_eq_true_eq] at h
  rw [UInt8.toNat_ofNat']
  omega
theorem int_of {z : Int} (h : (Lit.int .i64 z).wf = true) : -9223372036854775808 ≤ z ∧ z ≤ 9223372036854775807 := by
  have h1 : IntKind.i64.min = -9223372036854775808 := rfl
  have h2 : IntKind.i64.max = 9223372036854775807 := rfl
  simp only [Lit.wf, Bool.and_eq_true, decide_eq_true_eq] at h
  omega
theorem word_of {z : Int} (h : (Lit.int .u16 z).wf = true) : ∃ n : Nat, n < 65536 ∧ z = (n : Int) := by
  have h1 : IntKind.u16.min = 0 := rfl
  have h2 : IntKind.u16.max = 65535 := rfl
  simp only [Lit.wf, Bool.and_eq_true, decide_eq_true_eq] at h
  exact ⟨z.toNat, by omega, by omega⟩
theorem node_cells : (Tryz.prog.cellsOf 72) = 11 := by kernel_rfl
theorem four_cells : (Tryz.prog.cellsOf 70) = 4 := by kernel_rfl
theorem slice_cells : (Tryz.prog.cellsOf 27) = 1 := by kernel_rfl
/-- A []byte that came in, by its cell. -/
theorem open_cell {H : Type} {enc : TypeId × Value → H} {W : World} {fuel : Nat} {v : Value} {x : DataW H × List MemPlace} (hf : DataW.trod enc Tryz.prog W 0 (fun _ => true) true fuel 27 [v] = some x) :
    ∃ a n c l, v = .slice a n c ∧ F.Bts W W.heap.size a n c l := by
  rcases open_ints Tryz.underlying27 Tryz.underlying5 byteCells hf with ⟨hcs, hx⟩ | ⟨x, m, cc, zs, hcs, _, hl, hm, hz, hx, hcell, hwz⟩
  · simp at hcs
    exact ⟨none, 0, 0, [], hcs, F.Bts.nil_ _ _⟩
  · simp at hcs
    simp only [if_true] at hz
    refine ⟨some x, m, cc, (zs.take m).map (fun z => UInt8.ofNat z.toNat), hcs, ⟨by simp [hz]; omega, hl, hm, (fun e => by cases e), fun h0 => ?_⟩⟩
    obtain ⟨b, off, spot⟩ := x
    have hspot : spot = none := by simpa [Addr.add] using World.cell?_spot (hcell 0 (by omega))
    subst hspot
    have hb : b < W.heap.size := by
      have := hcell 0 (by omega)
      exact World.block_lt_of_cell? W ⟨b, off, none⟩ (by rw [Addr.add_lit] at this; exact this)
    refine ⟨b, off, rfl, hb, fun j hj => ?_⟩
    have hjz : j < zs.length := by omega
    have h1 := hcell j hjz
    rw [Addr.add_lit] at h1
    rw [h1]
    have hw := byte_of (hwz zs[j] (List.getElem_mem hjz))
    simp only [List.getElem?_map, List.getElem?_take, if_pos hj, List.getD, List.getElem?_eq_getElem hjz, Option.getD_some, Option.map_some]
    rw [← hw]
/-- A node that came in: eleven numbers. -/
theorem open_node {H : Type} {enc : TypeId × Value → H} {W : World} {r : Reach} {b0 : Nat} {v : Value} {d : DataW H} {p : List MemPlace} (hval : Value.okWide Tryz.prog W r b0 72 v) (h : DataW.Trod enc Tryz.prog W 0 (fun _ => true) true 72 v d p) :
    ∃ x : D.Nd, v = .agg (D.nc x).toArray := by
  obtain ⟨cs, rfl, hcs⟩ := okWide_struct Tryz.underlying72 hval
  rw [node_cells] at hcs
  obtain ⟨fuel, hf⟩ := h
  obtain ⟨xs, m, _, _, _, hlen, hfs⟩ := DataW.trod_struct Tryz.underlying72 hf
  obtain ⟨l⟩ := cs
  match l, hcs with
  | [c0, c1, c2, c3, c4, c5, c6, c7, c8, c9, c10], _ =>
    match xs, hlen with
    | [y0, y1, y2, y3, y4, y5, y6, y7], _ =>
      have g0 : DataW.trod enc Tryz.prog W 0 (fun _ => true) true m 3 (([c0, c1, c2, c3, c4, c5, c6, c7, c8, c9, c10].drop 0).take (Tryz.prog.cellsOf 3)) = some y0 := hfs 0 _ rfl
      have g1 : DataW.trod enc Tryz.prog W 0 (fun _ => true) true m 3 (([c0, c1, c2, c3, c4, c5, c6, c7, c8, c9, c10].drop 1).take (Tryz.prog.cellsOf 3)) = some y1 := hfs 1 _ rfl
      have g2 : DataW.trod enc Tryz.prog W 0 (fun _ => true) true m 3 (([c0, c1, c2, c3, c4, c5, c6, c7, c8, c9, c10].drop 2).take (Tryz.prog.cellsOf 3)) = some y2 := hfs 2 _ rfl
      have g3 : DataW.trod enc Tryz.prog W 0 (fun _ => true) true m 3 (([c0, c1, c2, c3, c4, c5, c6, c7, c8, c9, c10].drop 3).take (Tryz.prog.cellsOf 3)) = some y3 := hfs 3 _ rfl
      have g4 : DataW.trod enc Tryz.prog W 0 (fun _ => true) true m 3 (([c0, c1, c2, c3, c4, c5, c6, c7, c8, c9, c10].drop 4).take (Tryz.prog.cellsOf 3)) = some y4 := hfs 4 _ rfl
      have g5 : DataW.trod enc Tryz.prog W 0 (fun _ => true) true m 70 (([c0, c1, c2, c3, c4, c5, c6, c7, c8, c9, c10].drop 5).take (Tryz.prog.cellsOf 70)) = some y5 := hfs 5 _ rfl
      have g6 : DataW.trod enc Tryz.prog W 0 (fun _ => true) true m 3 (([c0, c1, c2, c3, c4, c5, c6, c7, c8, c9, c10].drop 9).take (Tryz.prog.cellsOf 3)) = some y6 := hfs 6 _ rfl
      have g7 : DataW.trod enc Tryz.prog W 0 (fun _ => true) true m 3 (([c0, c1, c2, c3, c4, c5, c6, c7, c8, c9, c10].drop 10).take (Tryz.prog.cellsOf 3)) = some y7 := hfs 7 _ rfl
      rw [intCells] at g0 g1 g2 g3 g4 g6 g7
      rw [four_cells] at g5
      obtain ⟨z0, e0, _⟩ := DataW.trod_int Tryz.underlying3 g0
      obtain ⟨z1, e1, _⟩ := DataW.trod_int Tryz.underlying3 g1
      obtain ⟨z2, e2, _⟩ := DataW.trod_int Tryz.underlying3 g2
      obtain ⟨z3, e3, _⟩ := DataW.trod_int Tryz.underlying3 g3
      obtain ⟨z4, e4, _⟩ := DataW.trod_int Tryz.underlying3 g4
      obtain ⟨z9, e9, _⟩ := DataW.trod_int Tryz.underlying3 g6
      obtain ⟨z10, e10, _⟩ := DataW.trod_int Tryz.underlying3 g7
      obtain ⟨us, m', _, _, _, hl5, hf5⟩ := DataW.trod_array Tryz.underlying70 g5
      match us, hl5 with
      | [u0, u1, u2, u3], _ =>
        have k0 : DataW.trod enc Tryz.prog W 0 (fun _ => true) true m' 3 ((((([c0, c1, c2, c3, c4, c5, c6, c7, c8, c9, c10].drop 5).take 4)).drop (0 * Tryz.prog.cellsOf 3)).take (Tryz.prog.cellsOf 3)) = some u0 := hf5 0 (by omega)
        have k1 : DataW.trod enc Tryz.prog W 0 (fun _ => true) true m' 3 ((((([c0, c1, c2, c3, c4, c5, c6, c7, c8, c9, c10].drop 5).take 4)).drop (1 * Tryz.prog.cellsOf 3)).take (Tryz.prog.cellsOf 3)) = some u1 := hf5 1 (by omega)
        have k2 : DataW.trod enc Tryz.prog W 0 (fun _ => true) true m' 3 ((((([c0, c1, c2, c3, c4, c5, c6, c7, c8, c9, c10].drop 5).take 4)).drop (2 * Tryz.prog.cellsOf 3)).take (Tryz.prog.cellsOf 3)) = some u2 := hf5 2 (by omega)
        have k3 : DataW.trod enc Tryz.prog W 0 (fun _ => true) true m' 3 ((((([c0, c1, c2, c3, c4, c5, c6, c7, c8, c9, c10].drop 5).take 4)).drop (3 * Tryz.prog.cellsOf 3)).take (Tryz.prog.cellsOf 3)) = some u3 := hf5 3 (by omega)
        rw [intCells] at k0 k1 k2 k3
        obtain ⟨z5, e5, _⟩ := DataW.trod_int Tryz.underlying3 k0
        obtain ⟨z6, e6, _⟩ := DataW.trod_int Tryz.underlying3 k1
        obtain ⟨z7, e7, _⟩ := DataW.trod_int Tryz.underlying3 k2
        obtain ⟨z8, e8, _⟩ := DataW.trod_int Tryz.underlying3 k3
        simp at e0 e1 e2 e3 e4 e5 e6 e7 e8 e9 e10
        refine ⟨⟨z0, z1, z2, z3, z4, z5, z6, z7, z8, z9, z10⟩, ?_⟩
        rw [e0, e1, e2, e3, e4, e5, e6, e7, e8, e9, e10]
        rfl
theorem one_cells : (Tryz.prog.cellsOf 133) = 3 := by kernel_rfl
/-- A seat that came in: two numbers and bytes. -/
theorem open_seat {H : Type} {enc : TypeId × Value → H} {W : World} {r : Reach} {b0 : Nat} {v : Value} {d : DataW H} {p : List MemPlace} (hval : Value.okWide Tryz.prog W r b0 133 v) (h : DataW.Trod enc Tryz.prog W 0 (fun _ => true) true 133 v d p) :
    ∃ (a b : Int) (A : Option Addr) (n c : Nat) (l : List UInt8), v = .agg #[.int .i64 a, .int .i64 b, .slice A n c] ∧ F.Bts W W.heap.size A n c l := by
  obtain ⟨cs, rfl, hcs⟩ := okWide_struct Tryz.underlying133 hval
  rw [one_cells] at hcs
  obtain ⟨fuel, hf⟩ := h
  obtain ⟨y0, y1, y2, n, _, _, h0, h1, h2⟩ := Deep.trod_struct3 Tryz.underlying133 hf
  obtain ⟨l⟩ := cs
  match l, hcs with
  | [c0, c1, c2], _ =>
    simp only [intCells, slice_cells] at h0 h1 h2
    obtain ⟨z0, e0, _⟩ := DataW.trod_int Tryz.underlying3 h0
    obtain ⟨z1, e1, _⟩ := DataW.trod_int Tryz.underlying3 h1
    simp [Value.cells] at e0 e1
    obtain ⟨A, m, c, l, e2, hB⟩ := open_cell h2
    refine ⟨z0, z1, A, m, c, l, ?_, hB⟩
    rw [e0, e1, e2]
theorem open_keep {H : Type} {enc : TypeId × Value → H} {W : World} {a : Option Addr} {n c : Nat} {fuel : Nat} {x : DataW H × List MemPlace} (hf : DataW.trod enc Tryz.prog W 0 (fun _ => true) true fuel 54 [.slice a n c] = some x) :
    ∃ l, Ints W (fun q => q < W.heap.size) a n c l := by
  rcases open_ints Tryz.underlying54 Tryz.underlying3 intCells hf with ⟨hcs, hx⟩ | ⟨x, m, cc, zs, hcs, _, hl, hm, hz, hx, hcell, hwz⟩
  · simp at hcs
    obtain ⟨rfl, rfl, rfl⟩ := hcs
    exact ⟨[], ints_none _ _⟩
  · simp at hcs
    obtain ⟨rfl, rfl, rfl⟩ := hcs
    simp only [if_true] at hz
    refine ⟨zs.take n, by simp [hz]; omega, hl, hm, fun h0 => ?_⟩
    obtain ⟨b, off, spot⟩ := x
    have hspot : spot = none := by simpa [Addr.add] using World.cell?_spot (hcell 0 (by omega))
    subst hspot
    have hb : b < W.heap.size := by
      have := hcell 0 (by omega)
      exact World.block_lt_of_cell? W ⟨b, off, none⟩ (by rw [Addr.add_lit] at this; exact this)
    refine ⟨b, off, rfl, hb, fun j hj => ?_⟩
    have hjz : j < zs.length := by omega
    have h1 := hcell j hjz
    rw [Addr.add_lit] at h1
    rw [h1]
    simp [hj, hjz]
theorem open_bytes {H : Type} {enc : TypeId × Value → H} {W : World} {a : Option Addr} {n c : Nat} {d : DataW H} {p : List MemPlace} (h : DataW.Trod enc Tryz.prog W 0 (fun _ => true) true 27 (.slice a n c) d p) :
    ∃ l, F.Bts W W.heap.size a n c l := by
  obtain ⟨fuel, hf⟩ := h
  obtain ⟨a', n', c', l, e, hB⟩ := open_cell hf
  cases e
  exact ⟨l, hB⟩
end Go.Proofs.YtijbgdihnjnllaaGreat
