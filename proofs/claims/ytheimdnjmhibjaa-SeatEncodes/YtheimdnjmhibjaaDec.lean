/- seat.Decode, walked. -/
import Derived.Test.YtheimdnjmhibjaaEnc
import Derived.Laws.ResultCell
import Derived.Laws.Rows
import Derived.Deep.RegionWith
import Derived.Deep.CutRange
namespace Go.Proofs.Ytheimdnjmhibjaa
open Go.RowKit
set_option linter.unusedVariables false

/-- No sector: the empty seat, and ErrForm. -/
def NoSec (w : World) (e : Ending) (w' : World) : Prop := e = .returned (.tuple #[.agg #[.int .i64 0, .int .i64 0, .slice none 0 0], .int .i64 2]) ∧ Below w.heap.size w w'
/-- A seat, its reply in memory of its own. -/
def Said (w : World) (x y : Nat) (r : List UInt8) (e : Ending) (w' : World) : Prop := ∃ A n c, e = .returned (.tuple #[.agg #[.int .i64 x, .int .i64 y, .slice A n c], .int .i64 0]) ∧ F.Bts w' w'.heap.size A n c r ∧ Below w.heap.size w w'
theorem decode_short (A : Option Addr) (n c : Nat) (w : World) (hn : n ≠ 128) : Calls Try.prog 11 #[.slice A n c] w (NoSec w) := by
  have h1 : ((n : Int) != 128) = true := by rw [bne_iff_ne]; omega
  go_enter Try.func11, Try.ntmps11
  go_wp2_with fail
  go_returns
  exact ⟨rfl, by go_grown⟩
theorem decode_long {w : World} {B c : Nat} {A : Option Addr} {b : List UInt8} (h : F.Bts w B A 128 c b) (hB : B ≤ w.heap.size) (hl : 96 < len b) : Calls Try.prog 11 #[.slice A 128 c] w (NoSec w) := by
  obtain ⟨bb, off, rfl, hbb, hcell⟩ := h.at_ (by omega)
  have hc12 : ∀ o, (w.alloc o).cell? ⟨bb, off + 12, none⟩ = some (.int .u8 (len b : Int)) := fun o => ((box_below w o).cell (by show bb < _; omega)).trans (hcell 12 (by omega))
  have hlt := len_lt b
  have hcap := h.cap
  have hlim := h.lim
  unfold maxLen at hlim
  generalize len b = m at *
  clear h hcell
  go_enter Try.func11, Try.ntmps11
  go_wp2_with fail
  go_returns
  exact ⟨rfl, by go_grown⟩
/-- The cells of an empty seat. -/
abbrev Z24 : Array Value := #[.int .i64 0, .int .i64 0, .slice none 0 0]
/-- What stands in memory while k numbers are read; P: the block of the seat that is being made, if it is there already. -/
structure St (w W : World) (b : List UInt8) (k : Nat) (P : Option Nat) : Prop where
  form : F.FormAt W (w.heap.size + 1) w.heap.size (b.drop (4 + 4 * k)) false
  zero : W.heap[w.heap.size]? = some (.cells Z24 24 (0, 0))
  bel : Below w.heap.size w W
  box : ∀ p, P = some p → w.heap.size + 1 < p ∧ W.heap[p]? = some (.cells Z24 24 (0, 0))
theorem St.lt {w W : World} {b : List UInt8} {k : Nat} {P : Option Nat} (h : St w W b k P) : w.heap.size + 1 < W.heap.size := h.form.lt
theorem St.below {w W W' : World} {b : List UInt8} {k : Nat} {P : Option Nat} (h : St w W b k P) (hb : Below W.heap.size W W') : St w W' b k P := by
  have hlt := h.lt
  refine ⟨h.form.below hb, (hb.block _ (by omega)).trans h.zero, h.bel.trans (hb.mono (by omega)), fun p hp => ?_⟩
  obtain ⟨h1, h2⟩ := h.box p hp
  exact ⟨h1, (hb.block _ (F.lt_of_heap h2)).trans h2⟩
theorem St.drew {w W : World} {b : List UInt8} {k : Nat} {P : Option Nat} (h : St w W b k P) : St w W.drew b k P := h.below (Below.refl _ _).drew
theorem St.alloc {w W : World} {b : List UInt8} {k : Nat} (h : St w W b k none) (p : Nat) (hp : p = W.heap.size) : St w (W.alloc (.cells Z24 24)) b k (some p) := by
  subst hp
  have hlt := h.lt
  have hb := box_below W (.cells Z24 24)
  refine ⟨h.form.below hb, (hb.block _ (by omega)).trans h.zero, h.bel.trans (hb.mono (by omega)), fun p hp => ?_⟩
  cases hp
  exact ⟨hlt, heap_alloc_new W _⟩
theorem St.cells {w W : World} {b : List UInt8} {k p : Nat} (h : St w W b k (some p)) : W.cell? ⟨p, 0, none⟩ = some (.int .i64 0) ∧ W.cell? ⟨p, 1, none⟩ = some (.int .i64 0) ∧ W.cell? ⟨p, 2, none⟩ = some (.slice none 0 0) ∧
    W.frozen? ⟨p, 0, none⟩ = false ∧ W.frozen? ⟨p, 1, none⟩ = false ∧ W.frozen? ⟨p, 2, none⟩ = false := by
  obtain ⟨_, h2⟩ := h.box p rfl
  exact ⟨F.cell_in h2 0, F.cell_in h2 1, F.cell_in h2 2, F.free_in h2 0, F.free_in h2 1, F.free_in h2 2⟩
/-- form.Num, whichever way came before. -/
theorem num_st {w W : World} {b : List UInt8} {P : Option Nat} (k : Nat) (hk : k ≤ 1) (hb : b.length = 128) (h : St w W b k P) :
    Calls Try.prog 23 #[.pointer (some ⟨w.heap.size + 1, 0, none⟩)] W fun e W' => e = .returned (.int .i64 (num b k : Nat)) ∧ St w W' b (k + 1) P := by
  refine (F.fnum_yes (w.heap.size + 1) w.heap.size (b.drop (4 + 4 * k)) false W h.form (by rw [List.length_drop]; omega)).mono ?_
  rintro e w2 ⟨rfl, hf2, hg2⟩
  have hlt := h.lt
  have hblk : ∀ j, j < W.heap.size → j ≠ w.heap.size + 1 → w2.heap[j]? = W.heap[j]? := fun j hj hne => hg2.block j hj (fun e => by injection e with e; exact hne e)
  refine ⟨rfl, ?_, (hblk _ (by omega) (by omega)).trans h.zero, h.bel.grown hg2 h.bel.size (fun j hj => by cases hj; omega), fun p hp => ?_⟩
  · rw [List.drop_drop] at hf2
    have e : 4 + 4 * (k + 1) = 4 + 4 * k + 4 := by omega
    rw [e]
    exact hf2
  · obtain ⟨h1, h2⟩ := h.box p hp
    exact ⟨h1, (hblk _ (F.lt_of_heap h2) (by omega)).trans h2⟩
/-- The reply's bytes, cloned. -/
theorem clone_st {w W : World} {b : List UInt8} {P : Option Nat} {A : Option Addr} {n c : Nat} {r : List UInt8} (hr : F.Bts w w.heap.size A n c r) (hn : n ≤ 96) (h : St w W b 2 P) :
    Calls Try.prog 24 #[.slice A n c] W fun e W' => ∃ A' n' c', e = .returned (.slice A' n' c') ∧ (F.Bts W' W'.heap.size A' n' c' r ∧ ∀ g o, A' = some ⟨g, o, none⟩ → w.heap.size < g ∧ ∀ p, P = some p → g ≠ p) ∧ St w W' b 2 P := by
  refine (clone_any A n c w.heap.size r W (hr.below h.bel) h.bel.size (by omega)).mono ?_
  rintro e W' ⟨v, rfl, hm⟩
  obtain ⟨A', n', c', rfl, hB'⟩ := hm.holds
  refine ⟨A', n', c', rfl, ⟨hB', fun g o ho => ?_⟩, h.below hm.bel⟩
  have hlt := h.lt
  have hg : W.heap.size ≤ g := by
    rcases hm.own.2 with ⟨e, _⟩ | ⟨g', cap', cur, e, hg, _⟩
    · injection e with e1
      rw [e1] at ho
      cases ho
    · injection e with e1
      rw [e1] at ho
      injection ho with ho
      injection ho with ho
      omega
  refine ⟨by omega, fun p hp => ?_⟩
  have hlt := F.lt_of_heap (h.box p hp).2
  omega
/-- The seat is made. -/
structure Dn (w W : World) (b : List UInt8) (p : Nat) (A : Option Addr) (n c : Nat) : Prop where
  zero : W.heap[w.heap.size]? = some (.cells Z24 24 (0, 0))
  seat : W.heap[p]? = some (.cells #[.int .i64 (num b 0 : Nat), .int .i64 (num b 1 : Nat), .slice A n c] 24 (0, 0))
  gt : w.heap.size + 1 < p
  bts : F.Bts W W.heap.size A n c (rep b)
  far : ∀ g o, A = some ⟨g, o, none⟩ → w.heap.size < g
  bel : Below w.heap.size w W
theorem bts_set {W : World} {B n c p : Nat} {A : Option Addr} {l : List UInt8} (h : F.Bts W B A n c l) (hne : ∀ g o, A = some ⟨g, o, none⟩ → g ≠ p) (i : Nat) (u : Value) : F.Bts (W.setCell ⟨p, i, none⟩ u) B A n c l :=
  ⟨h.len, h.cap, h.lim, h.nil, fun hn => by
    obtain ⟨g, o, e, hb, hc⟩ := h.at_ hn
    exact ⟨g, o, e, hb, fun j hj => (World.cell?_of_block (Below.heap_setCell _ _ _ _ (fun e' => hne g o e e'))).trans (hc j hj)⟩⟩
theorem Dn.new {w W : World} {b : List UInt8} {A : Option Addr} {n c : Nat} (h : St w W b 2 none) (hB : F.Bts W W.heap.size A n c (rep b) ∧ ∀ g o, A = some ⟨g, o, none⟩ → w.heap.size < g ∧ ∀ q, none = some q → g ≠ q) :
    Dn w (W.alloc (.cells #[.int .i64 (num b 0 : Nat), .int .i64 (num b 1 : Nat), .slice A n c] 24)) b W.heap.size A n c := by
  have hlt := h.lt
  have hb := box_below W (.cells #[.int .i64 (num b 0 : Nat), .int .i64 (num b 1 : Nat), .slice A n c] 24)
  exact ⟨(hb.block _ (by omega)).trans h.zero, heap_alloc_new W _, hlt, (hB.1.below hb).more hb.size, (fun g o e => (hB.2 g o e).1), h.bel.trans (hb.mono (by omega))⟩
theorem Dn.put {w W : World} {b : List UInt8} {p n c : Nat} {A : Option Addr} (h : St w W b 2 (some p)) (hB : F.Bts W W.heap.size A n c (rep b) ∧ ∀ g o, A = some ⟨g, o, none⟩ → w.heap.size < g ∧ ∀ q, some p = some q → g ≠ q) :
    Dn w (((W.setCell ⟨p, 0, none⟩ (.int .i64 (num b 0 : Nat))).setCell ⟨p, 1, none⟩ (.int .i64 (num b 1 : Nat))).setCell ⟨p, 2, none⟩ (.slice A n c)) b p A n c := by
  obtain ⟨h1, h2⟩ := h.box p rfl
  have hne : ∀ g o, A = some ⟨g, o, none⟩ → g ≠ p := fun g o e => (hB.2 g o e).2 p rfl
  have hset : ∀ (V : World) i u j, j ≠ p → (V.setCell ⟨p, i, none⟩ u).heap[j]? = V.heap[j]? := fun V i u j hj => Below.heap_setCell _ _ _ _ (fun e => hj e)
  have hw := h.bel.size
  refine ⟨?_, ?_, h1, ?_, fun g o e => (hB.2 g o e).1, ?_⟩
  · rw [hset _ _ _ _ (by omega), hset _ _ _ _ (by omega), hset _ _ _ _ (by omega)]
    exact h.zero
  · exact F.heap_set (F.heap_set (F.heap_set h2 0 _) 1 _) 2 _
  · have := bts_set (bts_set (bts_set hB.1 hne 0 (.int .i64 (num b 0 : Nat))) hne 1 (.int .i64 (num b 1 : Nat))) hne 2 (.slice A n c)
    simpa using this
  · exact ((h.bel.setCell (p := ⟨p, 0, none⟩) (by simp; omega) _).setCell (p := ⟨p, 1, none⟩) (by simp; omega) _).setCell (p := ⟨p, 2, none⟩) (by simp; omega) _
end Go.Proofs.Ytheimdnjmhibjaa
