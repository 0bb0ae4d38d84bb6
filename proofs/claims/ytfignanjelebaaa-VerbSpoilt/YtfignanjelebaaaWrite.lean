/- field.Num, field.Text, field.Frame, bytes.Clone, walked. -/
import Derived.Test.YtfignanjelebaaaMake
import Derived.Test.YtfignanjelebaaaSum
namespace Go.Proofs.Ytfignanjelebaaa
open Go.RowKit
set_option linter.unusedVariables false

theorem spr_bts {w : World} {g k n : Nat} (h : w.heap[g]? = some (.cells (spr k n k) 5 (0, 0))) (hk : k ≤ 4) : Bts w (g + 1) (some ⟨g, 0, none⟩) k k (lit k n) :=
  ⟨lit_length k n, Nat.le_refl _, by unfold maxLen; omega, (fun e => by cases e), fun h0 => ⟨g, 0, rfl, by omega, fun j hj => by
    rw [Nat.zero_add, cell_in h]
    have hl := lit_length k n
    simp [spr, hl, hj, bv]⟩⟩
theorem lt_of_heap {w : World} {g : Nat} {o : Obj} (h : w.heap[g]? = some o) : g < w.heap.size := (Array.getElem?_eq_some_iff.1 h).1
theorem Mine.from_ {w W w' : World} {v : Value} {l : List UInt8} (h : Mine W w' v l) (hb : Below w.heap.size w W) : Mine w w' v l := by
  refine ⟨⟨h.own.1, ?_⟩, hb.trans (h.bel.mono hb.size)⟩
  rcases h.own.2 with h0 | ⟨g, cap, cur, e, hg, r⟩
  · exact .inl h0
  · exact .inr ⟨g, cap, cur, e, Nat.le_trans hb.size hg, r⟩
theorem Mine.holds {w w' : World} {v : Value} {l : List UInt8} (h : Mine w w' v l) : Holds w' w'.heap.size v l := own_holds h.own
theorem holds_of {w : World} {B n c : Nat} {A : Option Addr} {l : List UInt8} (h : Bts w B A n c l) : Holds w B (.slice A n c) l := ⟨_, _, _, rfl, h⟩
theorem below_alloc (w : World) (o : Obj) : Below w.heap.size w (w.alloc o) := (Below.refl _ w).alloc (Nat.le_refl _) o
theorem concat2 {v0 v1 : Value} {l0 l1 : List UInt8} {W : World} {B : Nat} (h0 : Holds W B v0 l0) (h1 : Holds W B v1 l1) (hB : B ≤ W.heap.size) (hl : l0.length + l1.length ≤ 281474976710656) :
    Calls Try.prog 62 #[.slice (some ⟨W.heap.size, 0, none⟩) 2 2] (W.alloc (.cells #[v0, v1] 24)) (GivesMine (W.alloc (.cells #[v0, v1] 24)) (l0 ++ l1)) := by
  have e : cat [(v0, l0), (v1, l1)] 2 = l0 ++ l1 := by simp [cat]
  have hb := (below_alloc W (.cells #[v0, v1] 24)).mono hB
  rw [← e]
  refine concat_any [(v0, l0), (v1, l1)] W.heap.size 2 B _ (by simp) (by simp; omega) (by simp) ?_ ?_ (by show (cat _ 2).length ≤ _; rw [e, List.length_append]; exact hl)
  · intro j hj
    rw [World.cell?_alloc_mark]
    match j, hj with
    | 0, _ => rfl
    | 1, _ => rfl
  · intro j hj
    match j, hj with
    | 0, _ => exact h0.below hb
    | 1, _ => exact h1.below hb
theorem concat3 {v0 v1 v2 : Value} {l0 l1 l2 : List UInt8} {W : World} {B : Nat} (h0 : Holds W B v0 l0) (h1 : Holds W B v1 l1) (h2 : Holds W B v2 l2) (hB : B ≤ W.heap.size) (hl : l0.length + l1.length + l2.length ≤ 281474976710656) :
    Calls Try.prog 62 #[.slice (some ⟨W.heap.size, 0, none⟩) 3 3] (W.alloc (.cells #[v0, v1, v2] 24)) (GivesMine (W.alloc (.cells #[v0, v1, v2] 24)) (l0 ++ l1 ++ l2)) := by
  have e : cat [(v0, l0), (v1, l1), (v2, l2)] 3 = l0 ++ l1 ++ l2 := by simp [cat]
  have hb := (below_alloc W (.cells #[v0, v1, v2] 24)).mono hB
  rw [← e]
  refine concat_any [(v0, l0), (v1, l1), (v2, l2)] W.heap.size 3 B _ (by simp) (by simp; omega) (by simp) ?_ ?_ (by show (cat _ 3).length ≤ _; rw [e, List.length_append, List.length_append]; exact hl)
  · intro j hj
    rw [World.cell?_alloc_mark]
    match j, hj with
    | 0, _ => rfl
    | 1, _ => rfl
    | 2, _ => rfl
  · intro j hj
    match j, hj with
    | 0, _ => exact h0.below hb
    | 1, _ => exact h1.below hb
    | 2, _ => exact h2.below hb
def Gives2 (w : World) (l : List UInt8) (e : Ending) (w' : World) : Prop := ∃ v, e = .returned (.tuple #[v, .int .i64 0]) ∧ Mine w w' v l

set_option maxHeartbeats 1000000 in
theorem num_no (A : Option Addr) (n c : Nat) (x : Int) (w : World) (hx : x < 0 ∨ 4294967295 < x) :
    Calls Try.prog 30 #[.slice A n c, .int .i64 x] w fun e w' => e = .returned (.tuple #[.slice none 0 0, .int .i64 4]) ∧ w = w' := by
  by_cases h0 : x < 0
  · go_enter Try.func30, Try.ntmps30
    go_wp2
    go_ret2
    exact ⟨rfl, rfl⟩
  · have h1 : 4294967295 < x := by omega
    go_enter Try.func30, Try.ntmps30
    go_wp2
    go_ret2
    exact ⟨rfl, rfl⟩
set_option maxHeartbeats 1000000 in
theorem num_yes (A : Option Addr) (n c B x : Nat) (l : List UInt8) (w : World) (hx : x < 4294967296) (h : Bts w B A n c l) (hB : B ≤ w.heap.size) (hn : n ≤ 281474976700000) :
    Calls Try.prog 30 #[.slice A n c, .int .i64 x] w (Gives2 w (l ++ lit 4 x)) := by
  have h0 : ¬ ((x : Int) < 0) := by omega
  have h1 : ¬ ((x : Int) > 4294967295) := by omega
  have H := Lib.hid h
  clear h
  go_enter Try.func30, Try.ntmps30
  go_wp2_with fail
  refine (spread_any x 4 _ hx (by omega)).mono ?_
  rintro e w1 ⟨rfl, hh, hb⟩
  have HH := Lib.hid hh
  clear hh
  have hB1 : w.heap.size + 1 ≤ w1.heap.size := lt_of_heap HH.out
  go_wp2_with fail
  refine (concat2 (holds_of ((H.out.below (hb.mono hB)).more (by omega))) (holds_of (spr_bts HH.out (by omega))) hB1 ?_).mono ?_
  · rw [lit_length, H.out.len]; omega
  rintro e w2 ⟨v, rfl, hm⟩
  go_wp2
  go_ret2
  exact ⟨v, rfl, hm.from_ (hb.trans ((below_alloc _ _).mono hb.size))⟩

set_option maxHeartbeats 1000000 in
theorem text_no (A : Option Addr) (n c : Nat) (s : ByteArray) (w : World) (hx : 65535 < s.size) :
    Calls Try.prog 33 #[.slice A n c, .string s] w fun e w' => e = .returned (.tuple #[.slice none 0 0, .int .i64 4]) ∧ w = w' := by
  go_enter Try.func33, Try.ntmps33
  go_wp2
  go_ret2
  exact ⟨rfl, rfl⟩
/-- '[]byte(s)': the bytes of s, in a block of their own. -/
theorem bytes_bts (w : World) (s : ByteArray) (hs : s.size ≤ 65535) : Bts (w.drew.alloc (.cells (bytesRow s (grownCap w s.size 0 5)) 5 ((bytesRow s (grownCap w s.size 0 5)).size, (bytesRow s (grownCap w s.size 0 5)).size + 1))) (w.heap.size + 1)
    (some ⟨w.heap.size, 0, none⟩) s.size (grownCap w s.size 0 5) s.data.toList :=
  ⟨Array.length_toList, grownCap_ge _ _ _ _, grownCap_le_maxLen _ _ _ _ (by unfold maxLen; omega), (fun e => by cases e), fun h0 => ⟨w.heap.size, 0, rfl, by omega, fun j hj => by
    have hj' : j < s.data.size := hj
    have h1 := World.cell?_alloc_mark w.drew (bytesRow s (grownCap w s.size 0 5)) 5 ((bytesRow s (grownCap w s.size 0 5)).size, (bytesRow s (grownCap w s.size 0 5)).size + 1) j
    rw [Nat.zero_add]
    refine h1.trans ?_
    rw [bytesRow_at s _ j hj', Array.getElem?_toList, Array.getElem?_eq_getElem hj']
    rfl⟩⟩
set_option maxHeartbeats 1000000 in
theorem text_yes (A : Option Addr) (n c B : Nat) (l : List UInt8) (s : ByteArray) (w : World) (hs : s.size ≤ 65535) (h : Bts w B A n c l) (hB : B ≤ w.heap.size) (hn : n ≤ 281474976600000) :
    Calls Try.prog 33 #[.slice A n c, .string s] w (Gives2 w (l ++ lit 2 s.size ++ s.data.toList)) := by
  have h1 : ¬ ((s.size : Int) > 65535) := by omega
  have H := Lib.hid h
  clear h
  go_enter Try.func33, Try.ntmps33
  go_wp2_with fail
  refine (spread_any s.size 2 _ (by omega) (by omega)).mono ?_
  rintro e w1 ⟨rfl, hh, hb⟩
  have HH := Lib.hid hh
  clear hh
  have hB1 : w.heap.size + 1 ≤ w1.heap.size := lt_of_heap HH.out
  have hcv := run_bytes_of_string (P := Try.prog) w1 9 24 5 s Try.underlying9 Try.underlying24 Try.underlying5
  have HB := Lib.hid (bytes_bts w1 s hs)
  generalize hW : (w1.drew.alloc (.cells (bytesRow s (grownCap w1 s.size 0 5)) 5 ((bytesRow s (grownCap w1 s.size 0 5)).size, (bytesRow s (grownCap w1 s.size 0 5)).size + 1))) = w2 at *
  have hb2 : Below w1.heap.size w1 w2 := by rw [← hW]; exact ((Below.refl _ w1).drew).alloc (Nat.le_refl _) _
  have hz : w2.heap.size = w1.heap.size + 1 := by rw [← hW]; simp
  generalize grownCap w1 s.size 0 5 = cc at *
  have HZ := Lib.hid hz
  clear hW hz
  go_wp2_with fail
  refine (concat3 (holds_of (((H.out.below (hb.mono hB)).below (hb2.mono (by omega))).more (B' := w2.heap.size) (by have := HZ.out; omega))) (holds_of (((spr_bts HH.out (by omega)).below (hb2.mono hB1)).more (by have := HZ.out; omega))) (holds_of (HB.out.more (by have := HZ.out; omega))) (Nat.le_refl _) ?_).mono ?_
  · rw [lit_length, H.out.len, HB.out.len]; omega
  rintro e w3 ⟨v, rfl, hm⟩
  go_wp2
  go_ret2
  exact ⟨v, rfl, hm.from_ ((hb.trans (hb2.mono hb.size)).trans ((below_alloc _ _).mono (by have := hb.size; have := HZ.out; omega)))⟩
set_option maxHeartbeats 1000000 in
theorem clone_any (A : Option Addr) (n c B : Nat) (l : List UInt8) (w : World) (h : Bts w B A n c l) (hB : B ≤ w.heap.size) (hn : n ≤ 140737488355328) :
    Calls Try.prog 79 #[.slice A n c] w (GivesMine w l) := by
  have heq := fun W => Lib.run_eql_slice_nil (P := Try.prog) W 24 5 A n c 0 0 Try.underlying24
  have hl0 := h.len
  have H := Lib.hid h
  clear h
  rcases A with _ | a
  · have hc := H.out.nil rfl
    have h0 : l = [] := List.length_eq_zero_iff.1 (by have := H.out.cap; omega)
    subst h0
    subst hc
    simp only [Option.isNone_none] at heq
    clear hl0
    go_enter Try.func79, Try.ntmps79
    go_wp2
    go_ret
    exact ⟨_, rfl, World.ownsRow_nil _ _ _ _, Below.refl _ _⟩
  · simp only [Option.isNone_some] at heq
    have ho := World.ownsRow_made (e := 5) (size := 1) (base := w.heap.size) w #[] 0 (Nat.le_refl _) (by decide) (by rfl)
    have hbl := below_alloc w (.cells #[] 5)
    obtain ⟨v', w', hr, ho', hgr⟩ := app_run (l := []) 24 ho (H.out.below (hbl.mono hB)) (by simp; omega) (by simp)
    have HR := Lib.hid hr
    clear hr hl0
    go_enter Try.func79, Try.ntmps79
    go_wp2_with (at_builtin; refine Lib.wpList_append_run _ rfl _ _ _ _ rfl _ _ rfl rfl _ _ HR.out ?_)
    go_ret
    exact ⟨_, rfl, ho', hbl.grown hgr (by simp) (fun j hj => (ho.lt j hj).1)⟩

set_option maxHeartbeats 1000000 in
theorem frame_no (t : UInt8) (A : Option Addr) (n c : Nat) (w : World) (hn : 65535 < n) :
    Calls Try.prog 36 #[bv t, .slice A n c] w fun e w' => e = .returned (.tuple #[.slice none 0 0, .int .i64 17]) ∧ w = w' := by
  unfold bv
  go_enter Try.func36, Try.ntmps36
  go_wp2
  go_ret2
  exact ⟨rfl, rfl⟩
/-- The bytes of a frame. -/
def body (t : UInt8) (l : List UInt8) : List UInt8 := [t] ++ lit 2 l.length ++ l
def fram (t : UInt8) (l : List UInt8) : List UInt8 := body t l ++ lit 4 (crc (body t l))
theorem body_length (t : UInt8) (l : List UInt8) : (body t l).length = l.length + 3 := by simp [body, lit_length]; omega
theorem fram_length (t : UInt8) (l : List UInt8) : (fram t l).length = l.length + 7 := by simp [fram, lit_length, body_length]
theorem one_bts (W : World) (t : UInt8) : Bts (W.alloc (.cells #[.int .u8 (t.toNat : Int)] 5)) (W.heap.size + 1) (some ⟨W.heap.size, 0, none⟩) 1 1 [t] :=
  ⟨rfl, Nat.le_refl _, by decide, (fun e => by cases e), fun _ => ⟨W.heap.size, 0, rfl, by omega, fun j hj => by
    have h0 : j = 0 := by omega
    subst h0
    rw [Nat.zero_add, World.cell?_alloc_mark]
    rfl⟩⟩
set_option maxHeartbeats 1000000 in
theorem frame_yes (t : UInt8) (A : Option Addr) (n c B : Nat) (l : List UInt8) (w : World) (h : Bts w B A n c l) (hB : B ≤ w.heap.size) (hn : n ≤ 65535) :
    Calls Try.prog 36 #[bv t, .slice A n c] w (Gives2 w (fram t l)) := by
  have h1 : ¬ ((n : Int) > 65535) := by omega
  have H := Lib.hid h
  have hlen := h.len
  clear h
  have H0 := Lib.hid (one_bts w t)
  have hb0 := below_alloc w (.cells #[.int .u8 (t.toNat : Int)] 5)
  unfold bv
  go_enter Try.func36, Try.ntmps36
  go_wp2_with fail
  refine (spread_any n 2 _ (by omega) (by omega)).mono ?_
  rintro e w1 ⟨rfl, hh, hb⟩
  have hh' : w1.heap[w.heap.size + 1]? = some (.cells (spr 2 n 2) 5 (0, 0)) := by simpa using hh
  have HH := Lib.hid hh'
  have hb' : Below (w.heap.size + 1) (w.alloc (.cells #[.int .u8 (t.toNat : Int)] 5)) w1 := by simpa using hb
  clear hh hh' hb
  have hz1 : w.heap.size + 2 ≤ w1.heap.size := lt_of_heap HH.out
  have hb1 : Below w.heap.size w w1 := hb0.trans (hb'.mono (by omega))
  go_wp2_with fail
  refine (concat3 (holds_of ((H0.out.below hb').more (B' := w1.heap.size) (by omega))) (holds_of ((spr_bts HH.out (by omega)).more (by omega))) (holds_of ((H.out.below (hb1.mono hB)).more (by omega))) (Nat.le_refl _) ?_).mono ?_
  · rw [lit_length, H.out.len]; simp; omega
  rintro e w2 ⟨v, rfl, hm⟩
  have hbA : Below w.heap.size w w2 := (hm.from_ (hb1.trans ((below_alloc _ _).mono hb1.size))).bel
  obtain ⟨A2, n2, c2, rfl, hB2⟩ := hm.holds
  have hn2 := hB2.len
  have he : [t] ++ lit 2 n ++ l = body t l := by rw [← hlen]; rfl
  rw [he] at hB2 hn2
  rw [body_length, hlen] at hn2
  have hn2' : n2 ≤ 65538 := by omega
  have hcr := crc_lt (body t l)
  have H2 := Lib.hid hB2
  have HE := Lib.hid he
  have HM := Lib.hid hm
  clear hB2 he hm hn2 hlen
  go_wp2_with fail
  refine (sum_any _ _ _ _ _ _ H2.out (by omega)).mono ?_
  rintro e w3 ⟨rfl, rfl⟩
  go_wp2_with fail
  refine (num_yes A2 n2 c2 _ (crc (body t l)) (body t l) w2 hcr H2.out (Nat.le_refl _) (by omega)).mono ?_
  rintro e w3 ⟨v, rfl, hm3⟩
  go_wp2
  go_ret2
  exact ⟨v, rfl, hm3.from_ hbA⟩
end Go.Proofs.Ytfignanjelebaaa
