/- field.Form: Read, take, Num, Text, End, walked. -/
import Derived.Test.YtijphembfohfnaaFGather
import Derived.Test.YtijphembfohfnaaFMake
namespace Go.Proofs.Ytijphembfohfnaa.F
open Go.RowKit
set_option linter.unusedVariables false

theorem Bts.head {w : World} {B n c s : Nat} {A : Option Addr} {l : List UInt8} (h : Bts w B A n c l) (hs : s ≤ n) : Bts w B A s c (l.take s) := by
  refine ⟨by rw [List.length_take, h.len]; omega, by have := h.cap; omega, h.lim, h.nil, fun h0 => ?_⟩
  obtain ⟨b, off, e, hb, hc⟩ := h.at_ (by omega)
  refine ⟨b, off, e, hb, fun j hj => ?_⟩
  rw [hc j (by omega), List.getElem?_take, if_pos hj]
theorem Bts.tail {w : World} {B n c s : Nat} {A : Option Addr} {l : List UInt8} (h : Bts w B A n c l) (hs : s ≤ n) : Bts w B (if c = s then A else A.map (·.add s)) (n - s) (c - s) (l.drop s) := by
  have hcap := h.cap
  refine ⟨by rw [List.length_drop, h.len], by omega, by have := h.lim; omega, fun e => ?_, fun h0 => ?_⟩
  · split at e
    · omega
    · have : A = none := by simpa using e
      have := h.nil this
      omega
  · obtain ⟨b, off, rfl, hb, hc⟩ := h.at_ (by omega)
    rw [if_neg (by omega)]
    refine ⟨b, off + s, by simp [Addr.add_lit], hb, fun j hj => ?_⟩
    rw [Nat.add_assoc, hc (s + j) (by omega), List.getElem?_drop]

/-- A Form at block g: what is left (its bytes lie below B), and whether it was short. -/
structure FormAt (w : World) (g B : Nat) (l : List UInt8) (short : Bool) : Prop where
  le : B ≤ g
  ex : ∃ A n c, w.heap[g]? = some (.cells #[.slice A n c, .bool short] 66 (0, 0)) ∧ Bts w B A n c l

set_option maxRecDepth 20000 in
set_option maxHeartbeats 1000000 in
theorem take_nil (s : Int) (w : World) : Calls Try.prog 30 #[.pointer none, .int .i64 s] w fun e w' => e = .returned (.slice none 0 0) ∧ w = w' := by
  go_enter Try.func30, Try.ntmps30
  go_wp2
  go_ret
  exact ⟨rfl, rfl⟩
theorem grown_set (w : World) (g i : Nat) (u : Value) : w.grownBy (w.setCell ⟨g, i, none⟩ u) (some g) :=
  ⟨rfl, rfl, rfl, by simp [World.setCell], fun k _ hne => Below.heap_setCell _ _ _ _ (fun e => hne (by rw [e]))⟩
theorem grown_trans {a b c : World} {r : Option Nat} (h : a.grownBy b r) (k : b.grownBy c r) : a.grownBy c r :=
  ⟨k.os.trans h.os, k.tape.trans h.tape, k.output.trans h.output, Nat.le_trans h.size k.size, fun i hi hne => (k.block i (Nat.lt_of_lt_of_le hi h.size) hne).trans (h.block i hi hne)⟩
theorem grown_of_below {a b : World} (h : Below a.heap.size a b) (r : Option Nat) : a.grownBy b r := ⟨h.os, h.tape, h.output, h.size, fun i hi _ => h.block i hi⟩
theorem Bts.grown {w w' : World} {g B n c : Nat} {A : Option Addr} {l : List UInt8} (h : Bts w B A n c l) (hB : B ≤ g) (hg : w.grownBy w' (some g)) (hlt : g < w.heap.size) : Bts w' B A n c l :=
  h.keep fun p hp => World.cell?_of_block (hg.block p.block (by omega) (fun e => by injection e with e; omega))
theorem FormAt.lt {w : World} {g B : Nat} {l : List UInt8} {sh : Bool} (h : FormAt w g B l sh) : g < w.heap.size := by
  obtain ⟨A, n, c, hh, _⟩ := h.ex
  exact (Array.getElem?_eq_some_iff.1 hh).1
theorem FormAt.below {w w' : World} {g B : Nat} {l : List UInt8} {sh : Bool} (h : FormAt w g B l sh) (hb : Below w.heap.size w w') : FormAt w' g B l sh := by
  have hlt := h.lt
  have hle := h.le
  obtain ⟨A, n, c, hh, hB⟩ := h.ex
  exact ⟨hle, A, n, c, (hb.block g hlt).trans hh, hB.below (hb.mono (by omega))⟩
def TookNone (w : World) (g B : Nat) (e : Ending) (w' : World) : Prop := e = .returned (.slice none 0 0) ∧ FormAt w' g B [] true ∧ w.grownBy w' (some g)
def Took (w : World) (g B : Nat) (l : List UInt8) (sh : Bool) (s : Nat) (e : Ending) (w' : World) : Prop := ∃ A c, e = .returned (.slice A s c) ∧ Bts w' B A s c (l.take s) ∧ FormAt w' g B (l.drop s) sh ∧ w.grownBy w' (some g)
set_option maxRecDepth 20000 in
set_option maxHeartbeats 1000000 in
theorem take_no (g B s : Nat) (l : List UInt8) (sh : Bool) (w : World) (h : FormAt w g B l sh) (hs : l.length < s) (hs' : s ≤ 65536) :
    Calls Try.prog 30 #[.pointer (some ⟨g, 0, none⟩), .int .i64 s] w (TookNone w g B) := by
  have hle := Lib.hid h.le
  obtain ⟨A, n, c, hh, hB⟩ := h.ex
  have hn : n < s := by rw [← hB.len]; exact hs
  have hc0 : w.cell? ⟨g, 0, none⟩ = some (.slice A n c) := cell_in hh 0
  have hc1 : w.cell? ⟨g, 1, none⟩ = some (.bool sh) := cell_in hh 1
  have hf0 := free_in hh 0
  have hf1 := free_in hh 1
  have HH := Lib.hid hh
  clear hh hB h hs
  go_enter Try.func30, Try.ntmps30
  go_wp2
  go_ret
  exact ⟨rfl, ⟨hle.out, none, 0, 0, heap_set (heap_set HH.out 0 _) 1 _, Bts.nil_ _ _⟩, grown_trans (grown_set _ _ _ _) (grown_set _ _ _ _)⟩
theorem took {w : World} {g B s n c : Nat} {A : Option Addr} {l : List UInt8} {sh : Bool} {v : Value} (hh : w.heap[g]? = some (.cells #[.slice A n c, .bool sh] 66 (0, 0))) (hle : B ≤ g) (hB : Bts w B A n c l) (hs : s ≤ n)
    (hv : v = .slice (if c = s then A else A.map (·.add s)) (n - s) (c - s)) : Took w g B l sh s (.returned (.slice A s c)) (w.setCell ⟨g, 0, none⟩ v) := by
  have hlt := (Array.getElem?_eq_some_iff.1 hh).1
  have hg := grown_set w g 0 v
  subst hv
  exact ⟨A, c, rfl, (hB.head hs).grown hle hg hlt, ⟨hle, _, _, _, heap_set hh 0 _, (hB.tail hs).grown hle hg hlt⟩, hg⟩
set_option maxRecDepth 20000 in
set_option maxHeartbeats 1000000 in
theorem take_yes (g B s : Nat) (l : List UInt8) (sh : Bool) (w : World) (h : FormAt w g B l sh) (hs : s ≤ l.length) :
    Calls Try.prog 30 #[.pointer (some ⟨g, 0, none⟩), .int .i64 s] w (Took w g B l sh s) := by
  have HLE := Lib.hid h.le
  obtain ⟨A, n, c, hh, hB⟩ := h.ex
  have hn : s ≤ n := by rw [← hB.len]; exact hs
  have hcap := hB.cap
  have hlim := hB.lim
  have hc0 : w.cell? ⟨g, 0, none⟩ = some (.slice A n c) := cell_in hh 0
  have hc1 : w.cell? ⟨g, 1, none⟩ = some (.bool sh) := cell_in hh 1
  have hf0 := free_in hh 0
  have hf1 := free_in hh 1
  have HH := Lib.hid hh
  have HB := Lib.hid hB
  clear hh hB h hs
  unfold maxLen at hlim
  by_cases hcs : c = s
  · subst hcs
    obtain rfl : n = c := by omega
    go_enter Try.func30, Try.ntmps30
    go_wp2
    go_ret
    exact took HH.out HLE.out HB.out (Nat.le_refl _) (by simp)
  · go_enter Try.func30, Try.ntmps30
    go_wp2
    go_ret
    exact took HH.out HLE.out HB.out hn (by rw [if_neg hcs])

def NumIs (w : World) (g B : Nat) (x : Nat) (l : List UInt8) (sh : Bool) (e : Ending) (w' : World) : Prop := e = .returned (.int .i64 (x : Nat)) ∧ FormAt w' g B l sh ∧ w.grownBy w' (some g)
set_option maxRecDepth 20000 in
set_option maxHeartbeats 1000000 in
theorem fnum_nil (w : World) : Calls Try.prog 26 #[.pointer none] w fun e w' => e = .returned (.int .i64 0) ∧ Below w.heap.size w w' := by
  go_enter Try.func26, Try.ntmps26
  go_wp2_with fail
  refine (take_nil _ _).mono ?_
  rintro e w' ⟨rfl, rfl⟩
  go_wp2_with fail
  refine (gather_any none 0 0 w.heap.size [] w (Bts.nil_ _ _) (Nat.le_refl _) (by omega)).mono ?_
  rintro e w' ⟨rfl, hb⟩
  go_wp2
  go_ret
  exact ⟨rfl, hb⟩
set_option maxRecDepth 20000 in
set_option maxHeartbeats 1000000 in
theorem fnum_no (g B : Nat) (l : List UInt8) (sh : Bool) (w : World) (h : FormAt w g B l sh) (hs : l.length < 4) : Calls Try.prog 26 #[.pointer (some ⟨g, 0, none⟩)] w (NumIs w g B 0 [] true) := by
  have H := Lib.hid h
  clear h
  go_enter Try.func26, Try.ntmps26
  go_wp2_with fail
  refine (take_no g B 4 l sh w H.out hs (by omega)).mono ?_
  rintro e w1 ⟨rfl, h1, hg1⟩
  go_wp2_with fail
  refine (gather_any none 0 0 w1.heap.size [] w1 (Bts.nil_ _ _) (Nat.le_refl _) (by omega)).mono ?_
  rintro e w2 ⟨rfl, hb⟩
  go_wp2
  go_ret
  exact ⟨rfl, h1.below hb, grown_trans hg1 (grown_of_below hb _)⟩
set_option maxRecDepth 20000 in
set_option maxHeartbeats 1000000 in
theorem fnum_yes (g B : Nat) (l : List UInt8) (sh : Bool) (w : World) (h : FormAt w g B l sh) (hs : 4 ≤ l.length) : Calls Try.prog 26 #[.pointer (some ⟨g, 0, none⟩)] w (NumIs w g B (big (l.take 4)) (l.drop 4) sh) := by
  have H := Lib.hid h
  clear h
  go_enter Try.func26, Try.ntmps26
  go_wp2_with fail
  refine (take_yes g B 4 l sh w H.out hs).mono ?_
  rintro e w1 ⟨A, c, rfl, hB, h1, hg1⟩
  have hlt := h1.lt
  have hle := h1.le
  have HB := Lib.hid hB
  clear hB
  go_wp2_with fail
  refine (gather_any A 4 c B _ w1 HB.out (by omega) (by omega)).mono ?_
  rintro e w2 ⟨rfl, hb⟩
  go_wp2
  go_ret
  exact ⟨rfl, h1.below hb, grown_trans hg1 (grown_of_below hb _)⟩
def TextIs (w : World) (g B : Nat) (x : List UInt8) (l : List UInt8) (sh : Bool) (e : Ending) (w' : World) : Prop := e = .returned (.string ⟨x.toArray⟩) ∧ FormAt w' g B l sh ∧ w.grownBy w' (some g)
/-- What End tells. -/
def endOf (l : List UInt8) (sh : Bool) : Int := if sh then 3 else if 0 < l.length then 2 else 0
set_option maxRecDepth 20000 in
set_option maxHeartbeats 1000000 in
theorem read_any (A : Option Addr) (n c B : Nat) (l : List UInt8) (w : World) (h : Bts w B A n c l) (hB : B ≤ w.heap.size) : Calls Try.prog 25 #[.slice A n c] w fun e w' => e = .returned (.pointer (some ⟨w.heap.size, 0, none⟩)) ∧ FormAt w' w.heap.size B l false ∧ Below w.heap.size w w' := by
  have H := Lib.hid h
  clear h
  go_enter Try.func25, Try.ntmps25
  go_wp2
  go_ret
  have hb := (Below.refl _ w).alloc (Nat.le_refl _) (.cells #[.slice A n c, .bool false] 66)
  exact ⟨rfl, ⟨hB, A, n, c, heap_alloc_new w _, H.out.below (hb.mono hB)⟩, hb⟩
end Go.Proofs.Ytijphembfohfnaa.F
