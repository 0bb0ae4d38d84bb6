/- What stands in memory while node.nodeOf reads. -/
import Derived.Test.YtijphembfohfnaaImg
import Derived.Deep.RegionWith
import Derived.Deep.CutRange
import Derived.StillTailTactics
namespace Go.Proofs.Ytijphembfohfnaa
open Go.RowKit
set_option linter.unusedVariables false
/-- The cells of an empty node. -/
abbrev z11 : Array Value := #[.int .i64 0, .int .i64 0, .int .i64 0, .int .i64 0, .int .i64 0, .int .i64 0, .int .i64 0, .int .i64 0, .int .i64 0, .int .i64 0, .int .i64 0]
/-- The twelve bytes of the three numbers. -/
def mid (b : List UInt8) : List UInt8 := (b.drop 2).take 12
theorem mid_num {b : List UInt8} {k : Nat} (hk : k ≤ 2) : F.big (((mid b).drop (4 * k)).take 4) = num4 b k := by
  unfold mid num4
  congr 1
  apply List.ext_getElem?
  intro n
  simp only [List.getElem?_take, List.getElem?_drop]
  split
  · rw [if_pos (by omega)]
    congr 1
    omega
  · rfl
theorem mid_len {b : List UInt8} (hb : b.length = 32) : (mid b).length = 12 := by simp [mid, hb]
/-- k numbers are read; P: the block of the node that is being made, if it is there already. -/
structure St (w W : World) (b : List UInt8) (k : Nat) (P : Option Nat) : Prop where
  form : F.FormAt W (w.heap.size + 1 + 1) (w.heap.size + 1) ((mid b).drop (4 * k)) false
  box : W.heap[w.heap.size]? = some (.cells (b.map F.bv).toArray 44 (0, 0))
  zero : W.heap[w.heap.size + 1]? = some (.cells z11 25 (0, 0))
  bel : Below w.heap.size w W
  new : ∀ p, P = some p → w.heap.size + 1 + 1 < p ∧ W.heap[p]? = some (.cells z11 25 (0, 0))
section
variable {w W W' : World} {b : List UInt8} {k : Nat} {P : Option Nat}
theorem St.lt (h : St w W b k P) : w.heap.size + 1 + 1 < W.heap.size := h.form.lt
theorem St.below (h : St w W b k P) (hb : Below W.heap.size W W') : St w W' b k P := by
  have hlt := h.lt
  refine ⟨h.form.below hb, (hb.block _ (by omega)).trans h.box, (hb.block _ (by omega)).trans h.zero, h.bel.trans (hb.mono (by omega)), fun p hp => ?_⟩
  obtain ⟨h1, h2⟩ := h.new p hp
  exact ⟨h1, (hb.block _ (F.lt_of_heap h2)).trans h2⟩
theorem St.drew (h : St w W b k P) : St w W.drew b k P := h.below (Below.refl _ _).drew
theorem St.alloc (h : St w W b k none) (p : Nat) (hp : p = W.heap.size) : St w (W.alloc (.cells z11 25)) b k (some p) := by
  subst hp
  have hlt := h.lt
  have hb := box_below W (.cells z11 25)
  refine ⟨h.form.below hb, (hb.block _ (by omega)).trans h.box, (hb.block _ (by omega)).trans h.zero, h.bel.trans (hb.mono (by omega)), fun p hp => ?_⟩
  cases hp
  exact ⟨hlt, heap_alloc_new W _⟩
theorem box_cell {W : World} {g : Nat} {b : List UInt8} {t : TypeId} {fr : Nat × Nat} (h : W.heap[g]? = some (.cells (b.map F.bv).toArray t fr)) {j : Nat} (hj : j < b.length) : W.cell? ⟨g, j, none⟩ = some (.int .u8 ((b[j]?.getD 0).toNat : Int)) := by
  rw [cell_of_row W g _ _ t fr h]
  simp [hj, F.bv]
theorem St.c01 {x y : UInt8} (h : St w W b k P) (hb : b.length = 32) (hx : b[0]?.getD 0 = x) (hy : b[1]?.getD 0 = y) : W.cell? ⟨w.heap.size, 0, none⟩ = some (.int .u8 (x.toNat : Int)) ∧ W.cell? ⟨w.heap.size, 1, none⟩ = some (.int .u8 (y.toNat : Int)) := by
  subst hx; subst hy
  exact ⟨box_cell h.box (by omega), box_cell h.box (by omega)⟩
theorem St.far {x y : UInt8} (h : St w W b k P) (hb : b.length = 32) (hx : b[0]?.getD 0 = x) (hy : b[1]?.getD 0 = y) (o : Obj) : (W.alloc o).cell? ⟨w.heap.size, 0, none⟩ = some (.int .u8 (x.toNat : Int)) ∧ (W.alloc o).cell? ⟨w.heap.size, 1, none⟩ = some (.int .u8 (y.toNat : Int)) := by
  have hlt := h.lt
  obtain ⟨h0, h1⟩ := h.c01 hb hx hy
  exact ⟨((box_below W o).cell (by show w.heap.size < _; omega)).trans h0, ((box_below W o).cell (by show w.heap.size < _; omega)).trans h1⟩
theorem St.ne {p : Nat} (h : St w W b k (some p)) : p ≠ w.heap.size := by have := (h.new p rfl).1; omega
/-- form.Num, whichever way came before. -/
theorem num_st (k : Nat) (hk : k ≤ 2) (hb : b.length = 32) (h : St w W b k P) :
    Calls Try.prog 26 #[.pointer (some ⟨w.heap.size + 1 + 1, 0, none⟩)] W fun e W' => e = .returned (.int .i64 (num4 b k : Nat)) ∧ St w W' b (k + 1) P := by
  refine (F.fnum_yes (w.heap.size + 1 + 1) (w.heap.size + 1) ((mid b).drop (4 * k)) false W h.form (by rw [List.length_drop, mid_len hb]; omega)).mono ?_
  rintro e w2 ⟨rfl, hf2, hg2⟩
  rw [mid_num hk]
  have hlt := h.lt
  have hblk : ∀ j, j < W.heap.size → j ≠ w.heap.size + 1 + 1 → w2.heap[j]? = W.heap[j]? := fun j hj hne => hg2.block j hj (fun e => by injection e with e; exact hne e)
  refine ⟨rfl, ?_, (hblk _ (by omega) (by omega)).trans h.box, (hblk _ (by omega) (by omega)).trans h.zero, h.bel.grown hg2 h.bel.size (fun j hj => by cases hj; omega), fun p hp => ?_⟩
  · rw [List.drop_drop] at hf2
    have e : 4 * (k + 1) = 4 * k + 4 := by omega
    rw [e]
    exact hf2
  · obtain ⟨h1, h2⟩ := h.new p hp
    exact ⟨h1, (hblk _ (F.lt_of_heap h2) (by omega)).trans h2⟩
theorem St.cells {p : Nat} (h : St w W b k (some p)) (j : Nat) (hj : j < 11) : W.cell? ⟨p, j, none⟩ = some (.int .i64 0) ∧ W.frozen? ⟨p, j, none⟩ = false := by
  obtain ⟨_, h2⟩ := h.new p rfl
  refine ⟨?_, F.free_in h2 j⟩
  rw [F.cell_in h2]
  match j, hj with
  | 0, _ => rfl
  | 1, _ => rfl
  | 2, _ => rfl
  | 3, _ => rfl
  | 4, _ => rfl
  | 5, _ => rfl
  | 6, _ => rfl
  | 7, _ => rfl
  | 8, _ => rfl
  | 9, _ => rfl
  | 10, _ => rfl
end
/-- A node of which the pointers are not there yet. -/
def nd5 (b : List UInt8) : Nd := ⟨(b[0]?.getD 0).toNat, (b[1]?.getD 0).toNat, num4 b 0, num4 b 1, num4 b 2, 0, 0, 0, 0, 0, 0⟩
/-- The node is made, but for its pointers. -/
structure Dn (w W : World) (b : List UInt8) (p : Nat) : Prop where
  box : W.heap[w.heap.size]? = some (.cells (b.map F.bv).toArray 44 (0, 0))
  zero : W.heap[w.heap.size + 1]? = some (.cells z11 25 (0, 0))
  node : W.heap[p]? = some (.cells (nc (nd5 b)).toArray 25 (0, 0))
  gt : w.heap.size + 1 + 1 < p
  bel : Below w.heap.size w W
section
variable {w W : World} {b : List UInt8} {k p : Nat} {x y : UInt8}
theorem Dn.put (h : St w W b k (some p)) (hx : b[0]?.getD 0 = x) (hy : b[1]?.getD 0 = y) : Dn w (((((((((((W.setCell ⟨p, 0, none⟩ (.int .i64 (x.toNat : Int))).setCell ⟨p, 1, none⟩ (.int .i64 (y.toNat : Int))).setCell ⟨p, 2, none⟩ (.int .i64 (num4 b 0 : Nat))).setCell ⟨p, 3, none⟩ (.int .i64 (num4 b 1 : Nat))).setCell ⟨p, 4, none⟩ (.int .i64 (num4 b 2 : Nat))).setCell ⟨p, 5, none⟩ (.int .i64 0)).setCell ⟨p, 6, none⟩ (.int .i64 0)).setCell ⟨p, 7, none⟩ (.int .i64 0)).setCell ⟨p, 8, none⟩ (.int .i64 0)).setCell ⟨p, 9, none⟩ (.int .i64 0)).setCell ⟨p, 10, none⟩ (.int .i64 0)) b p := by
  subst hx; subst hy
  have hlt := h.lt
  obtain ⟨h1, h2⟩ := h.new p rfl
  have hN : (W.setCells p 0 (nc (nd5 b))).heap[p]? = some (.cells (nc (nd5 b)).toArray 25 (0, 0)) := heap_setCells (nc (nd5 b)) 0 (C := z11.toList) h2 rfl
  show Dn w (W.setCells p 0 (nc (nd5 b))) b p
  exact ⟨(heap_setCells_ne (by omega) _ _ _).trans h.box, (heap_setCells_ne (by omega) _ _ _).trans h.zero, hN, h1, below_setCells (by omega) _ _ h.bel⟩
theorem Dn.new (h : St w W b k none) (hx : b[0]?.getD 0 = x) (hy : b[1]?.getD 0 = y) : Dn w (W.alloc (.cells #[.int .i64 (x.toNat : Int), .int .i64 (y.toNat : Int), .int .i64 (num4 b 0 : Nat), .int .i64 (num4 b 1 : Nat), .int .i64 (num4 b 2 : Nat), .int .i64 0, .int .i64 0, .int .i64 0, .int .i64 0, .int .i64 0, .int .i64 0] 25)) b W.heap.size := by
  subst hx; subst hy
  have hlt := h.lt
  have hb := box_below W (.cells (nc (nd5 b)).toArray 25)
  exact ⟨(hb.block _ (by omega)).trans h.box, (hb.block _ (by omega)).trans h.zero, heap_alloc_new W _, hlt, h.bel.trans (hb.mono (by omega))⟩
end
/-- The pointers, k of them read. -/
def fv (b : List UInt8) (k j : Nat) : Value := if j < k then .int .i64 (num2 b j : Nat) else .int .i64 0
def fill (b : List UInt8) (k : Nat) : List Value := [fv b k 0, fv b k 1, fv b k 2, fv b k 3, fv b k 4, fv b k 5]
theorem fill_zero (b : List UInt8) : fill b 0 = [.int .i64 0, .int .i64 0, .int .i64 0, .int .i64 0, .int .i64 0, .int .i64 0] := rfl
theorem fill_set (b : List UInt8) {k : Nat} (hk : k < 6) : (fill b k).toArray.setIfInBounds k (.int .i64 (num2 b k : Nat)) = (fill b (k + 1)).toArray := by
  match k, hk with
  | 0, _ => rfl
  | 1, _ => rfl
  | 2, _ => rfl
  | 3, _ => rfl
  | 4, _ => rfl
  | 5, _ => rfl
theorem fill_get (b : List UInt8) {k : Nat} (hk : k < 6) : ∃ v, (fill b k).toArray[k]? = some v := by
  match k, hk with
  | 0, _ => exact ⟨_, rfl⟩
  | 1, _ => exact ⟨_, rfl⟩
  | 2, _ => exact ⟨_, rfl⟩
  | 3, _ => exact ⟨_, rfl⟩
  | 4, _ => exact ⟨_, rfl⟩
  | 5, _ => exact ⟨_, rfl⟩
theorem Dn.below {w W W' : World} {b : List UInt8} {p : Nat} (h : Dn w W b p) (hb : Below W.heap.size W W') : Dn w W' b p := by
  have h0 := F.lt_of_heap h.box
  exact ⟨(hb.block _ h0).trans h.box, (hb.block _ (F.lt_of_heap h.zero)).trans h.zero, (hb.block _ (F.lt_of_heap h.node)).trans h.node, h.gt, h.bel.trans (hb.mono (by omega))⟩
theorem Dn.set {w W : World} {b : List UInt8} {p G : Nat} (h : Dn w W b p) (hG : p < G) (i : Nat) (u : Value) : Dn w (W.setCell ⟨G, i, none⟩ u) b p := by
  have hset : ∀ j, j ≠ G → (W.setCell ⟨G, i, none⟩ u).heap[j]? = W.heap[j]? := fun j hj => Below.heap_setCell _ _ _ _ (fun e => hj e)
  have := h.gt
  exact ⟨(hset _ (by omega)).trans h.box, (hset _ (by omega)).trans h.zero, (hset _ (by omega)).trans h.node, h.gt, h.bel.setCell (p := ⟨G, i, none⟩) (by simp; omega) _⟩
/-- The node is made, and k of its pointers are read. -/
structure Rl (w W : World) (b : List UInt8) (p G k : Nat) : Prop where
  dn : Dn w W b p
  gt : p < G
  list : W.heap[G]? = some (.cells (fill b k).toArray 49 (0, 0))
theorem Rl.step {w W : World} {b : List UInt8} {p G k : Nat} (h : Rl w W b p G k) (hk : k < 6) {v : Value} (hv : v = .int .i64 (num2 b k : Nat)) : Rl w (W.setCell ⟨G, k, none⟩ v) b p G (k + 1) := by
  subst hv
  exact ⟨h.dn.set h.gt _ _, h.gt, by rw [← fill_set b hk]; exact F.heap_set h.list k _⟩
theorem Rl.drew {w W : World} {b : List UInt8} {p G k : Nat} (h : Rl w W b p G k) : Rl w W.drew b p G k := ⟨h.dn.below (Below.refl _ _).drew, h.gt, h.list⟩
theorem or_low (x y : UInt8) : bits .or .i64 (x.toNat : Int) ((y.toNat : Int) * 256) = ((x.toNat + 256 * y.toNat : Nat) : Int) := by
  have hx := x.toNat_lt
  have hy := y.toNat_lt
  have e : (y.toNat : Int) * 256 = ((y.toNat * 256 : Nat) : Int) := by omega
  have o1 : ∀ a : Nat, a < 9223372036854775808 → (BitVec.ofInt 64 (a : Int)).toNat = a := fun a ha => by
    rw [BitVec.ofInt_natCast, BitVec.toNat_ofNat]; exact Nat.mod_eq_of_lt (by omega)
  have hb : x.toNat ||| y.toNat * 256 < 2 ^ 63 := Nat.or_lt_two_pow (by omega) (by omega)
  have h : bits .or .i64 (x.toNat : Int) ((y.toNat * 256 : Nat) : Int) = ((x.toNat ||| y.toNat * 256 : Nat) : Int) := by
    show IntKind.i64.wrap ((BitVec.ofInt 64 (x.toNat : Int) ||| BitVec.ofInt 64 ((y.toNat * 256 : Nat) : Int)).toNat : Int) = _
    rw [BitVec.toNat_or, o1 _ (by omega), o1 _ (by omega), IntKind.wrap_i64]
    omega
  have h2 : x.toNat ||| y.toNat * 256 = x.toNat + 256 * y.toNat := by
    rw [Nat.or_comm, Nat.mul_comm y.toNat 256, ← Nat.two_pow_add_eq_or_of_lt (i := 8) (by omega) y.toNat]
    omega
  rw [e, h, h2]
/-- The four that go to Direct. -/
def four (b : List UInt8) : List Value := [.int .i64 (num2 b 0 : Nat), .int .i64 (num2 b 1 : Nat), .int .i64 (num2 b 2 : Nat), .int .i64 (num2 b 3 : Nat)]
theorem four_one (b : List UInt8) : ∀ v ∈ four b, v.oneCell' = true := by
  intro v hv
  simp only [four, List.mem_cons, List.not_mem_nil, or_false] at hv
  rcases hv with rfl | rfl | rfl | rfl <;> rfl
theorem four_in {W : World} {G : Nat} {b : List UInt8} {t : TypeId} {fr : Nat × Nat} (h : W.heap[G]? = some (.cells (fill b 6).toArray t fr)) : ∀ j v, (four b)[j]? = some v → W.cell? ((⟨G, 0, none⟩ : Addr).add j) = some v := by
  intro j v hv
  rw [Addr.add_mid, cell_of_row W G _ _ t fr h]
  match j, hv with
  | 0, hv => exact hv
  | 1, hv => exact hv
  | 2, hv => exact hv
  | 3, hv => exact hv
/-- A node of which One and Two are not there yet. -/
def nd9 (b : List UInt8) : Nd := ⟨(b[0]?.getD 0).toNat, (b[1]?.getD 0).toNat, num4 b 0, num4 b 1, num4 b 2, num2 b 0, num2 b 1, num2 b 2, num2 b 3, 0, 0⟩
end Go.Proofs.Ytijphembfohfnaa
