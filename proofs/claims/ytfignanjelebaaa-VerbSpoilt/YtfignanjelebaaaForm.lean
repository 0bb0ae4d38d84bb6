/- field.Form: Read, take, Num, Text, End, walked. -/
import Derived.Test.YtfignanjelebaaaGather
import Derived.Test.YtfignanjelebaaaMake
namespace Go.Proofs.Ytfignanjelebaaa
open Go.RowKit
set_option linter.unusedVariables false

theorem Bts.head {w : World} {B n c s : Nat} {A : Option Addr} {l : List UInt8} (h : Bts w B A n c l) (hs : s ≤ n) : Bts w B A s c (l.take s) := by
  refine ⟨by rw [List.length_take, h.len]; omega, by have := h.cap; omega, h.lim, h.nil, fun h0 => ?_⟩
  obtain ⟨b, off, e, hb, hc⟩ := h.at_ (by omega)
  refine ⟨b, off, e, hb, fun j hj => ?_⟩
  rw [hc j (by omega), List.getElem?_take, if_pos hj]
theorem Bts.tail {w : World} {B n c s : Nat} {A : Option Addr} {l : List UInt8} (h : Bts w B A n c l) (hs : s ≤ n) : Bts w B (if c = s then A else A.map (·.add s)) (n - s) (c - s) (l.drop s) := by
  have hcap := h.cap
  refine ⟨by rw [List.length_drop, h.len], by omega, by have := h.lim; omega, fun e => ?_, fun h0 => ?_⟩
  · split at e
    · omega
    · have : A = none := by simpa using e
      have := h.nil this
      omega
  · obtain ⟨b, off, rfl, hb, hc⟩ := h.at_ (by omega)
    rw [if_neg (by omega)]
    refine ⟨b, off + s, by simp [Addr.add_lit], hb, fun j hj => ?_⟩
    rw [Nat.add_assoc, hc (s + j) (by omega), List.getElem?_drop]

/-- A Form at block g: what is left, and whether it was short. -/
structure FormAt (w : World) (g : Nat) (l : List UInt8) (short : Bool) : Prop where
  ex : ∃ A n c, w.heap[g]? = some (.cells #[.slice A n c, .bool short] 118 (0, 0)) ∧ Bts w g A n c l

set_option maxHeartbeats 1000000 in
theorem take_nil (s : Int) (w : World) : Calls Try.prog 72 #[.pointer none, .int .i64 s] w fun e w' => e = .returned (.slice none 0 0) ∧ w = w' := by
  go_enter Try.func72, Try.ntmps72
  go_wp2
  go_ret
  exact ⟨rfl, rfl⟩
theorem grown_set (w : World) (g i : Nat) (u : Value) : w.grownBy (w.setCell ⟨g, i, none⟩ u) (some g) :=
  ⟨rfl, rfl, rfl, by simp [World.setCell], fun k _ hne => Below.heap_setCell _ _ _ _ (fun e => hne (by rw [e]))⟩
theorem grown_trans {a b c : World} {r : Option Nat} (h : a.grownBy b r) (k : b.grownBy c r) : a.grownBy c r :=
  ⟨k.os.trans h.os, k.tape.trans h.tape, k.output.trans h.output, Nat.le_trans h.size k.size, fun i hi hne => (k.block i (Nat.lt_of_lt_of_le hi h.size) hne).trans (h.block i hi hne)⟩
theorem grown_of_below {a b : World} (h : Below a.heap.size a b) (r : Option Nat) : a.grownBy b r := ⟨h.os, h.tape, h.output, h.size, fun i hi _ => h.block i hi⟩
theorem Bts.grown {w w' : World} {g n c : Nat} {A : Option Addr} {l : List UInt8} (h : Bts w g A n c l) (hg : w.grownBy w' (some g)) (hlt : g < w.heap.size) : Bts w' g A n c l :=
  h.keep fun p hp => World.cell?_of_block (hg.block p.block (by omega) (fun e => by injection e with e; omega))
theorem FormAt.lt {w : World} {g : Nat} {l : List UInt8} {sh : Bool} (h : FormAt w g l sh) : g < w.heap.size := by
  obtain ⟨A, n, c, hh, _⟩ := h.ex
  exact (Array.getElem?_eq_some_iff.1 hh).1
theorem FormAt.below {w w' : World} {g : Nat} {l : List UInt8} {sh : Bool} (h : FormAt w g l sh) (hb : Below w.heap.size w w') : FormAt w' g l sh := by
  have hlt := h.lt
  obtain ⟨A, n, c, hh, hB⟩ := h.ex
  exact ⟨A, n, c, (hb.block g hlt).trans hh, hB.below (hb.mono (by omega))⟩
def TookNone (w : World) (g : Nat) (e : Ending) (w' : World) : Prop := e = .returned (.slice none 0 0) ∧ FormAt w' g [] true ∧ w.grownBy w' (some g)
def Took (w : World) (g : Nat) (l : List UInt8) (sh : Bool) (s : Nat) (e : Ending) (w' : World) : Prop := ∃ A c, e = .returned (.slice A s c) ∧ Bts w' g A s c (l.take s) ∧ FormAt w' g (l.drop s) sh ∧ w.grownBy w' (some g)
set_option maxHeartbeats 1000000 in
theorem take_no (g s : Nat) (l : List UInt8) (sh : Bool) (w : World) (h : FormAt w g l sh) (hs : l.length < s) (hs' : s ≤ 65536) :
    Calls Try.prog 72 #[.pointer (some ⟨g, 0, none⟩), .int .i64 s] w (TookNone w g) := by
  obtain ⟨A, n, c, hh, hB⟩ := h.ex
  have hn : n < s := by rw [← hB.len]; exact hs
  have hc0 : w.cell? ⟨g, 0, none⟩ = some (.slice A n c) := cell_in hh 0
  have hc1 : w.cell? ⟨g, 1, none⟩ = some (.bool sh) := cell_in hh 1
  have hf0 := free_in hh 0
  have hf1 := free_in hh 1
  have HH := Lib.hid hh
  clear hh hB h hs
  go_enter Try.func72, Try.ntmps72
  go_wp2
  go_ret
  exact ⟨rfl, ⟨none, 0, 0, heap_set (heap_set HH.out 0 _) 1 _, Bts.nil_ _ _⟩, grown_trans (grown_set _ _ _ _) (grown_set _ _ _ _)⟩
theorem took {w : World} {g s n c : Nat} {A : Option Addr} {l : List UInt8} {sh : Bool} {v : Value} (hh : w.heap[g]? = some (.cells #[.slice A n c, .bool sh] 118 (0, 0))) (hB : Bts w g A n c l) (hs : s ≤ n)
    (hv : v = .slice (if c = s then A else A.map (·.add s)) (n - s) (c - s)) : Took w g l sh s (.returned (.slice A s c)) (w.setCell ⟨g, 0, none⟩ v) := by
  have hlt := (Array.getElem?_eq_some_iff.1 hh).1
  have hg := grown_set w g 0 v
  subst hv
  exact ⟨A, c, rfl, (hB.head hs).grown hg hlt, ⟨_, _, _, heap_set hh 0 _, (hB.tail hs).grown hg hlt⟩, hg⟩
set_option maxHeartbeats 1000000 in
theorem take_yes (g s : Nat) (l : List UInt8) (sh : Bool) (w : World) (h : FormAt w g l sh) (hs : s ≤ l.length) :
    Calls Try.prog 72 #[.pointer (some ⟨g, 0, none⟩), .int .i64 s] w (Took w g l sh s) := by
  obtain ⟨A, n, c, hh, hB⟩ := h.ex
  have hn : s ≤ n := by rw [← hB.len]; exact hs
  have hcap := hB.cap
  have hlim := hB.lim
  have hc0 : w.cell? ⟨g, 0, none⟩ = some (.slice A n c) := cell_in hh 0
  have hc1 : w.cell? ⟨g, 1, none⟩ = some (.bool sh) := cell_in hh 1
  have hf0 := free_in hh 0
  have hf1 := free_in hh 1
  have HH := Lib.hid hh
  have HB := Lib.hid hB
  clear hh hB h hs
  unfold maxLen at hlim
  by_cases hcs : c = s
  · subst hcs
    obtain rfl : n = c := by omega
    go_enter Try.func72, Try.ntmps72
    go_wp2
    go_ret
    exact took HH.out HB.out (Nat.le_refl _) (by simp)
  · go_enter Try.func72, Try.ntmps72
    go_wp2
    go_ret
    exact took HH.out HB.out hn (by rw [if_neg hcs])

def NumIs (w : World) (g : Nat) (x : Nat) (l : List UInt8) (sh : Bool) (e : Ending) (w' : World) : Prop := e = .returned (.int .i64 (x : Nat)) ∧ FormAt w' g l sh ∧ w.grownBy w' (some g)
set_option maxHeartbeats 1000000 in
theorem fnum_nil (w : World) : Calls Try.prog 47 #[.pointer none] w fun e w' => e = .returned (.int .i64 0) ∧ Below w.heap.size w w' := by
  go_enter Try.func47, Try.ntmps47
  go_wp2_with fail
  refine (take_nil _ _).mono ?_
  rintro e w' ⟨rfl, rfl⟩
  go_wp2_with fail
  refine (gather_any none 0 0 w.heap.size [] w (Bts.nil_ _ _) (Nat.le_refl _) (by omega)).mono ?_
  rintro e w' ⟨rfl, hb⟩
  go_wp2
  go_ret
  exact ⟨rfl, hb⟩
set_option maxHeartbeats 1000000 in
theorem fnum_no (g : Nat) (l : List UInt8) (sh : Bool) (w : World) (h : FormAt w g l sh) (hs : l.length < 4) : Calls Try.prog 47 #[.pointer (some ⟨g, 0, none⟩)] w (NumIs w g 0 [] true) := by
  have H := Lib.hid h
  clear h
  go_enter Try.func47, Try.ntmps47
  go_wp2_with fail
  refine (take_no g 4 l sh w H.out hs (by omega)).mono ?_
  rintro e w1 ⟨rfl, h1, hg1⟩
  go_wp2_with fail
  refine (gather_any none 0 0 w1.heap.size [] w1 (Bts.nil_ _ _) (Nat.le_refl _) (by omega)).mono ?_
  rintro e w2 ⟨rfl, hb⟩
  go_wp2
  go_ret
  exact ⟨rfl, h1.below hb, grown_trans hg1 (grown_of_below hb _)⟩
set_option maxHeartbeats 1000000 in
theorem fnum_yes (g : Nat) (l : List UInt8) (sh : Bool) (w : World) (h : FormAt w g l sh) (hs : 4 ≤ l.length) : Calls Try.prog 47 #[.pointer (some ⟨g, 0, none⟩)] w (NumIs w g (big (l.take 4)) (l.drop 4) sh) := by
  have H := Lib.hid h
  clear h
  go_enter Try.func47, Try.ntmps47
  go_wp2_with fail
  refine (take_yes g 4 l sh w H.out hs).mono ?_
  rintro e w1 ⟨A, c, rfl, hB, h1, hg1⟩
  have hlt := h1.lt
  have HB := Lib.hid hB
  clear hB
  go_wp2_with fail
  refine (gather_any A 4 c g _ w1 HB.out (by omega) (by omega)).mono ?_
  rintro e w2 ⟨rfl, hb⟩
  go_wp2
  go_ret
  exact ⟨rfl, h1.below hb, grown_trans hg1 (grown_of_below hb _)⟩
def TextIs (w : World) (g : Nat) (x : List UInt8) (l : List UInt8) (sh : Bool) (e : Ending) (w' : World) : Prop := e = .returned (.string ⟨x.toArray⟩) ∧ FormAt w' g l sh ∧ w.grownBy w' (some g)
set_option maxHeartbeats 1000000 in
theorem ftext_nil (w : World) : Calls Try.prog 49 #[.pointer none] w fun e w' => e = .returned (.string ⟨#[]⟩) ∧ Below w.heap.size w w' := by
  go_enter Try.func49, Try.ntmps49
  go_wp2_with fail
  refine (take_nil _ _).mono ?_
  rintro e w' ⟨rfl, rfl⟩
  go_wp2_with fail
  refine (gather_any none 0 0 w.heap.size [] w (Bts.nil_ _ _) (Nat.le_refl _) (by omega)).mono ?_
  rintro e w1 ⟨rfl, hb⟩
  have hs := (Bts.nil_ w1 0).str w1 (fun _ _ => rfl)
  go_wp2_with fail
  refine (take_nil _ _).mono ?_
  rintro e w' ⟨rfl, rfl⟩
  go_wp2
  go_ret
  exact ⟨rfl, hb⟩
set_option maxHeartbeats 1000000 in
theorem ftext_short (g : Nat) (l : List UInt8) (sh : Bool) (w : World) (h : FormAt w g l sh) (hs : l.length < 2) : Calls Try.prog 49 #[.pointer (some ⟨g, 0, none⟩)] w (TextIs w g [] [] true) := by
  have H := Lib.hid h
  clear h
  go_enter Try.func49, Try.ntmps49
  go_wp2_with fail
  refine (take_no g 2 l sh w H.out hs (by omega)).mono ?_
  rintro e w1 ⟨rfl, h1, hg1⟩
  go_wp2_with fail
  refine (gather_any none 0 0 w1.heap.size [] w1 (Bts.nil_ _ _) (Nat.le_refl _) (by omega)).mono ?_
  rintro e w2 ⟨rfl, hb⟩
  have h2 := h1.below hb
  go_wp2_with fail
  refine (take_yes g 0 [] true w2 h2 (by simp)).mono ?_
  rintro e w3 ⟨A, c, rfl, hB, h3, hg3⟩
  have hst := hB.str w3 (fun _ _ => rfl)
  have HB := Lib.hid hB
  clear hB
  go_wp2
  go_ret
  exact ⟨rfl, h3, grown_trans (grown_trans hg1 (grown_of_below hb _)) hg3⟩
set_option maxHeartbeats 1000000 in
theorem ftext_no (g : Nat) (l : List UInt8) (sh : Bool) (w : World) (h : FormAt w g l sh) (hs : 2 ≤ l.length) (hx : (l.drop 2).length < big (l.take 2)) : Calls Try.prog 49 #[.pointer (some ⟨g, 0, none⟩)] w (TextIs w g [] [] true) := by
  have hbig : big (l.take 2) < 65536 := by have := big_lt (l.take 2); rw [List.length_take_of_le hs] at this; exact this
  have H := Lib.hid h
  clear h
  go_enter Try.func49, Try.ntmps49
  go_wp2_with fail
  refine (take_yes g 2 l sh w H.out hs).mono ?_
  rintro e w1 ⟨A, c, rfl, hB, h1, hg1⟩
  have hlt := h1.lt
  have HB := Lib.hid hB
  clear hB
  go_wp2_with fail
  refine (gather_any A 2 c g _ w1 HB.out (by omega) (by omega)).mono ?_
  rintro e w2 ⟨rfl, hb⟩
  have h2 := h1.below hb
  have hst := (Bts.nil_ w2 0).str
  go_wp2_with fail
  refine (take_no g (big (l.take 2)) (l.drop 2) sh w2 h2 hx (by omega)).mono ?_
  rintro e w3 ⟨rfl, h3, hg3⟩
  have hst := (Bts.nil_ w3 0).str w3 (fun _ _ => rfl)
  go_wp2
  go_ret
  exact ⟨rfl, h3, grown_trans (grown_trans hg1 (grown_of_below hb _)) hg3⟩
set_option maxHeartbeats 1000000 in
theorem ftext_yes (g : Nat) (l : List UInt8) (sh : Bool) (w : World) (h : FormAt w g l sh) (hs : 2 ≤ l.length) (hx : big (l.take 2) ≤ (l.drop 2).length) : Calls Try.prog 49 #[.pointer (some ⟨g, 0, none⟩)] w (TextIs w g ((l.drop 2).take (big (l.take 2))) ((l.drop 2).drop (big (l.take 2))) sh) := by
  have H := Lib.hid h
  clear h
  go_enter Try.func49, Try.ntmps49
  go_wp2_with fail
  refine (take_yes g 2 l sh w H.out hs).mono ?_
  rintro e w1 ⟨A, c, rfl, hB, h1, hg1⟩
  have hlt := h1.lt
  have HB := Lib.hid hB
  clear hB
  go_wp2_with fail
  refine (gather_any A 2 c g _ w1 HB.out (by omega) (by omega)).mono ?_
  rintro e w2 ⟨rfl, hb⟩
  have h2 := h1.below hb
  go_wp2_with fail
  refine (take_yes g (big (l.take 2)) (l.drop 2) sh w2 h2 hx).mono ?_
  rintro e w3 ⟨A3, c3, rfl, hB3, h3, hg3⟩
  have hst := hB3.str w3 (fun _ _ => rfl)
  have HB3 := Lib.hid hB3
  clear hB3
  go_wp2
  go_ret
  exact ⟨rfl, h3, grown_trans (grown_trans hg1 (grown_of_below hb _)) hg3⟩
/-- What End tells. -/
def endOf (l : List UInt8) (sh : Bool) : Int := if sh then 3 else if 0 < l.length then 2 else 0
set_option maxHeartbeats 1000000 in
theorem fend_nil (w : World) : Calls Try.prog 52 #[.pointer none] w fun e w' => e = .returned (.int .i64 1) ∧ w = w' := by
  go_enter Try.func52, Try.ntmps52
  go_wp2
  go_ret
  exact ⟨rfl, rfl⟩
set_option maxHeartbeats 1000000 in
theorem fend_any (g : Nat) (l : List UInt8) (sh : Bool) (w : World) (h : FormAt w g l sh) : Calls Try.prog 52 #[.pointer (some ⟨g, 0, none⟩)] w fun e w' => e = .returned (.int .i64 (endOf l sh)) ∧ w = w' := by
  obtain ⟨A, n, c, hh, hB⟩ := h.ex
  have hc0 : w.cell? ⟨g, 0, none⟩ = some (.slice A n c) := cell_in hh 0
  have hc1 : w.cell? ⟨g, 1, none⟩ = some (.bool sh) := cell_in hh 1
  have HL := Lib.hid hB.len
  clear hh hB h
  cases sh
  · by_cases h0 : 0 < n
    · go_enter Try.func52, Try.ntmps52
      go_wp2
      go_ret
      exact ⟨ret1 (by unfold endOf; rw [HL.out, if_pos h0]; rfl), rfl⟩
    · obtain rfl : n = 0 := by omega
      go_enter Try.func52, Try.ntmps52
      go_wp2
      go_ret
      exact ⟨ret1 (by unfold endOf; rw [HL.out]; rfl), rfl⟩
  · go_enter Try.func52, Try.ntmps52
    go_wp2
    go_ret
    exact ⟨rfl, rfl⟩
set_option maxHeartbeats 1000000 in
theorem read_any (A : Option Addr) (n c B : Nat) (l : List UInt8) (w : World) (h : Bts w B A n c l) (hB : B ≤ w.heap.size) : Calls Try.prog 61 #[.slice A n c] w fun e w' => e = .returned (.pointer (some ⟨w.heap.size, 0, none⟩)) ∧ FormAt w' w.heap.size l false ∧ Below w.heap.size w w' := by
  have H := Lib.hid h
  clear h
  go_enter Try.func61, Try.ntmps61
  go_wp2
  go_ret
  have hb := (Below.refl _ w).alloc (Nat.le_refl _) (.cells #[.slice A n c, .bool false] 118)
  exact ⟨rfl, ⟨A, n, c, heap_alloc_new w _, (H.out.more hB).below hb⟩, hb⟩
end Go.Proofs.Ytfignanjelebaaa
