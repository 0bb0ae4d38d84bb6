/- field.Num, field.Text, field.Frame, bytes.Clone, walked. -/
import Derived.Test.YtijphembfohfnaaFMake
namespace Go.Proofs.Ytijphembfohfnaa.F
open Go.RowKit
set_option linter.unusedVariables false

theorem spr_bts {w : World} {g k n : Nat} (h : w.heap[g]? = some (.cells (spr k n k) 5 (0, 0))) (hk : k ≤ 4) : Bts w (g + 1) (some ⟨g, 0, none⟩) k k (lit k n) :=
  ⟨lit_length k n, Nat.le_refl _, by unfold maxLen; omega, (fun e => by cases e), fun h0 => ⟨g, 0, rfl, by omega, fun j hj => by
    rw [Nat.zero_add, cell_in h]
    have hl := lit_length k n
    simp [spr, hl, hj, bv]⟩⟩
theorem lt_of_heap {w : World} {g : Nat} {o : Obj} (h : w.heap[g]? = some o) : g < w.heap.size := (Array.getElem?_eq_some_iff.1 h).1
theorem Mine.from_ {w W w' : World} {v : Value} {l : List UInt8} (h : Mine W w' v l) (hb : Below w.heap.size w W) : Mine w w' v l := by
  refine ⟨⟨h.own.1, ?_⟩, hb.trans (h.bel.mono hb.size)⟩
  rcases h.own.2 with h0 | ⟨g, cap, cur, e, hg, r⟩
  · exact .inl h0
  · exact .inr ⟨g, cap, cur, e, Nat.le_trans hb.size hg, r⟩
theorem Mine.holds {w w' : World} {v : Value} {l : List UInt8} (h : Mine w w' v l) : Holds w' w'.heap.size v l := own_holds h.own
theorem holds_of {w : World} {B n c : Nat} {A : Option Addr} {l : List UInt8} (h : Bts w B A n c l) : Holds w B (.slice A n c) l := ⟨_, _, _, rfl, h⟩
theorem below_alloc (w : World) (o : Obj) : Below w.heap.size w (w.alloc o) := (Below.refl _ w).alloc (Nat.le_refl _) o
theorem concat2 {v0 v1 : Value} {l0 l1 : List UInt8} {W : World} {B : Nat} (h0 : Holds W B v0 l0) (h1 : Holds W B v1 l1) (hB : B ≤ W.heap.size) (hl : l0.length + l1.length ≤ 281474976710656) :
    Calls Try.prog 27 #[.slice (some ⟨W.heap.size, 0, none⟩) 2 2] (W.alloc (.cells #[v0, v1] 22)) (GivesMine (W.alloc (.cells #[v0, v1] 22)) (l0 ++ l1)) := by
  have e : cat [(v0, l0), (v1, l1)] 2 = l0 ++ l1 := by simp [cat]
  have hb := (below_alloc W (.cells #[v0, v1] 22)).mono hB
  rw [← e]
  refine concat_any [(v0, l0), (v1, l1)] W.heap.size 2 B _ (by simp) (by simp; omega) (by simp) ?_ ?_ (by show (cat _ 2).length ≤ _; rw [e, List.length_append]; exact hl)
  · intro j hj
    rw [World.cell?_alloc_mark]
    match j, hj with
    | 0, _ => rfl
    | 1, _ => rfl
  · intro j hj
    match j, hj with
    | 0, _ => exact h0.below hb
    | 1, _ => exact h1.below hb
theorem concat3 {v0 v1 v2 : Value} {l0 l1 l2 : List UInt8} {W : World} {B : Nat} (h0 : Holds W B v0 l0) (h1 : Holds W B v1 l1) (h2 : Holds W B v2 l2) (hB : B ≤ W.heap.size) (hl : l0.length + l1.length + l2.length ≤ 281474976710656) :
    Calls Try.prog 27 #[.slice (some ⟨W.heap.size, 0, none⟩) 3 3] (W.alloc (.cells #[v0, v1, v2] 22)) (GivesMine (W.alloc (.cells #[v0, v1, v2] 22)) (l0 ++ l1 ++ l2)) := by
  have e : cat [(v0, l0), (v1, l1), (v2, l2)] 3 = l0 ++ l1 ++ l2 := by simp [cat]
  have hb := (below_alloc W (.cells #[v0, v1, v2] 22)).mono hB
  rw [← e]
  refine concat_any [(v0, l0), (v1, l1), (v2, l2)] W.heap.size 3 B _ (by simp) (by simp; omega) (by simp) ?_ ?_ (by show (cat _ 3).length ≤ _; rw [e, List.length_append, List.length_append]; exact hl)
  · intro j hj
    rw [World.cell?_alloc_mark]
    match j, hj with
    | 0, _ => rfl
    | 1, _ => rfl
    | 2, _ => rfl
  · intro j hj
    match j, hj with
    | 0, _ => exact h0.below hb
    | 1, _ => exact h1.below hb
    | 2, _ => exact h2.below hb
def Gives2 (w : World) (l : List UInt8) (e : Ending) (w' : World) : Prop := ∃ v, e = .returned (.tuple #[v, .int .i64 0]) ∧ Mine w w' v l

set_option maxRecDepth 20000 in
set_option maxHeartbeats 1000000 in
theorem num_no (A : Option Addr) (n c : Nat) (x : Int) (w : World) (hx : x < 0 ∨ 4294967295 < x) :
    Calls Try.prog 24 #[.slice A n c, .int .i64 x] w fun e w' => e = .returned (.tuple #[.slice none 0 0, .int .i64 4]) ∧ w = w' := by
  by_cases h0 : x < 0
  · go_enter Try.func24, Try.ntmps24
    go_wp2
    go_ret2
    exact ⟨rfl, rfl⟩
  · have h1 : 4294967295 < x := by omega
    go_enter Try.func24, Try.ntmps24
    go_wp2
    go_ret2
    exact ⟨rfl, rfl⟩
set_option maxRecDepth 20000 in
set_option maxHeartbeats 1000000 in
theorem num_yes (A : Option Addr) (n c B x : Nat) (l : List UInt8) (w : World) (hx : x < 4294967296) (h : Bts w B A n c l) (hB : B ≤ w.heap.size) (hn : n ≤ 281474976700000) :
    Calls Try.prog 24 #[.slice A n c, .int .i64 x] w (Gives2 w (l ++ lit 4 x)) := by
  have h0 : ¬ ((x : Int) < 0) := by omega
  have h1 : ¬ ((x : Int) > 4294967295) := by omega
  have H := Lib.hid h
  clear h
  go_enter Try.func24, Try.ntmps24
  go_wp2_with fail
  refine (spread_any x 4 _ hx (by omega)).mono ?_
  rintro e w1 ⟨rfl, hh, hb⟩
  have HH := Lib.hid hh
  clear hh
  have hB1 : w.heap.size + 1 ≤ w1.heap.size := lt_of_heap HH.out
  go_wp2_with fail
  refine (concat2 (holds_of ((H.out.below (hb.mono hB)).more (by omega))) (holds_of (spr_bts HH.out (by omega))) hB1 ?_).mono ?_
  · rw [lit_length, H.out.len]; omega
  rintro e w2 ⟨v, rfl, hm⟩
  go_wp2
  go_ret2
  exact ⟨v, rfl, hm.from_ (hb.trans ((below_alloc _ _).mono hb.size))⟩

/-- '[]byte(s)': the bytes of s, in a block of their own. -/
theorem bytes_bts (w : World) (s : ByteArray) (hs : s.size ≤ 65535) : Bts (w.drew.alloc (.cells (bytesRow s (grownCap w s.size 0 5)) 5 ((bytesRow s (grownCap w s.size 0 5)).size, (bytesRow s (grownCap w s.size 0 5)).size + 1))) (w.heap.size + 1)
    (some ⟨w.heap.size, 0, none⟩) s.size (grownCap w s.size 0 5) s.data.toList :=
  ⟨Array.length_toList, grownCap_ge _ _ _ _, grownCap_le_maxLen _ _ _ _ (by unfold maxLen; omega), (fun e => by cases e), fun h0 => ⟨w.heap.size, 0, rfl, by omega, fun j hj => by
    have hj' : j < s.data.size := hj
    have h1 := World.cell?_alloc_mark w.drew (bytesRow s (grownCap w s.size 0 5)) 5 ((bytesRow s (grownCap w s.size 0 5)).size, (bytesRow s (grownCap w s.size 0 5)).size + 1) j
    rw [Nat.zero_add]
    refine h1.trans ?_
    rw [bytesRow_at s _ j hj', Array.getElem?_toList, Array.getElem?_eq_getElem hj']
    rfl⟩⟩
/-- The bytes of a frame. -/
def body (t : UInt8) (l : List UInt8) : List UInt8 := [t] ++ lit 2 l.length ++ l
def fram (t : UInt8) (l : List UInt8) : List UInt8 := body t l ++ lit 4 (crc (body t l))
theorem body_length (t : UInt8) (l : List UInt8) : (body t l).length = l.length + 3 := by simp [body, lit_length]; omega
theorem fram_length (t : UInt8) (l : List UInt8) : (fram t l).length = l.length + 7 := by simp [fram, lit_length, body_length]
theorem one_bts (W : World) (t : UInt8) : Bts (W.alloc (.cells #[.int .u8 (t.toNat : Int)] 5)) (W.heap.size + 1) (some ⟨W.heap.size, 0, none⟩) 1 1 [t] :=
  ⟨rfl, Nat.le_refl _, by decide, (fun e => by cases e), fun _ => ⟨W.heap.size, 0, rfl, by omega, fun j hj => by
    have h0 : j = 0 := by omega
    subst h0
    rw [Nat.zero_add, World.cell?_alloc_mark]
    rfl⟩⟩
end Go.Proofs.Ytijphembfohfnaa.F
