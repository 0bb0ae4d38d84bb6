/- FieldReads, walked. -/
import Derived.Test.YtffniconhpbbbaaAwake
import Derived.Test.YtffniconhpbbbaaRefsB
namespace Go.Proofs.Ytffniconhpbbbaa.fieldReads
open Go.RowKit
set_option linter.unusedVariables false
/-- The reference's form at block g. -/
def RefAt (w : World) (g : Nat) (S : List UInt8) (sh : Bool) : Prop := w.heap[g]? = some (.cells #[.string ⟨S.toArray⟩, .bool sh] 36 (0, 0))
def RefNum (w : World) (g x : Nat) (S : List UInt8) (sh : Bool) (e : Ending) (w' : World) : Prop := e = .returned (.int .i64 (x : Nat)) ∧ RefAt w' g S sh ∧ w.grownBy w' (some g)
def RefTxt (w : World) (g : Nat) (x S : List UInt8) (sh : Bool) (e : Ending) (w' : World) : Prop := e = .returned (.string ⟨x.toArray⟩) ∧ RefAt w' g S sh ∧ w.grownBy w' (some g)
theorem str_cut (l : List UInt8) (i j : Nat) : (ByteArray.mk l.toArray).extract i j = ByteArray.mk ((l.drop i).take (j - i)).toArray := by
  apply ByteArray.ext
  simp
theorem str_to (l : List UInt8) (j : Nat) (hj : j ≤ l.length) (W : World) : (Instr.slice 9 (.string ⟨l.toArray⟩) none (some (.int .i64 (j : Int))) none).run Try.prog W = .ok (.string ⟨(l.take j).toArray⟩) W := by
  have hsz : (ByteArray.mk l.toArray).size = l.length := rfl
  rw [run_slice_string_to_if W 9 _ _ _ Try.underlying9, if_pos ⟨by omega, by rw [hsz]; omega⟩, Int.toNat_natCast, str_cut]
  simp
theorem str_from (l : List UInt8) (j : Nat) (hj : j ≤ l.length) (W : World) : (Instr.slice 9 (.string ⟨l.toArray⟩) (some (.int .i64 (j : Int))) none none).run Try.prog W = .ok (.string ⟨(l.drop j).toArray⟩) W := by
  have hsz : (ByteArray.mk l.toArray).size = l.length := rfl
  rw [run_slice_string_from_if W 9 _ _ _ Try.underlying9, if_pos ⟨by omega, by rw [hsz]; omega⟩, Int.toNat_natCast, str_cut, hsz]
  congr 4
  exact List.take_of_length_le (by simp)
set_option maxHeartbeats 1000000 in
theorem rnum_short (g : Nat) (S : List UInt8) (w : World) (h : RefAt w g S true) : Calls Try.prog 18 #[.pointer (some ⟨g, 0, none⟩)] w (RefNum w g 0 S true) := by
  have hc0 : w.cell? ⟨g, 0, none⟩ = some (.string ⟨S.toArray⟩) := cell_in h 0
  have hc1 : w.cell? ⟨g, 1, none⟩ = some (.bool true) := cell_in h 1
  have hf1 := free_in h 1
  have H := Lib.hid h
  clear h
  go_enter Try.func18, Try.ntmps18
  go_wp2
  go_ret
  exact ⟨rfl, heap_set H.out 1 _, grown_set _ _ _ _⟩
set_option maxHeartbeats 1000000 in
theorem rnum_no (g : Nat) (S : List UInt8) (w : World) (h : RefAt w g S false) (hs : S.length < 4) : Calls Try.prog 18 #[.pointer (some ⟨g, 0, none⟩)] w (RefNum w g 0 S true) := by
  have hsz : (ByteArray.mk S.toArray).size = S.length := rfl
  have hc0 : w.cell? ⟨g, 0, none⟩ = some (.string ⟨S.toArray⟩) := cell_in h 0
  have hc1 : w.cell? ⟨g, 1, none⟩ = some (.bool false) := cell_in h 1
  have hf1 := free_in h 1
  have H := Lib.hid h
  clear h
  go_enter Try.func18, Try.ntmps18
  go_wp2
  go_ret
  exact ⟨rfl, heap_set H.out 1 _, grown_set _ _ _ _⟩
set_option maxHeartbeats 1000000 in
theorem rnum_yes (g : Nat) (S : List UInt8) (w : World) (h : RefAt w g S false) (hs : 4 ≤ S.length) (hr : S.length ≤ 140737488351232) : Calls Try.prog 18 #[.pointer (some ⟨g, 0, none⟩)] w (RefNum w g (big (S.take 4)) (S.drop 4) false) := by
  have hsz : (ByteArray.mk S.toArray).size = S.length := rfl
  have hc0 : w.cell? ⟨g, 0, none⟩ = some (.string ⟨S.toArray⟩) := cell_in h 0
  have hc1 : w.cell? ⟨g, 1, none⟩ = some (.bool false) := cell_in h 1
  have hf0 := free_in h 0
  have hf1 := free_in h 1
  have hto : ∀ W : World, (Instr.slice 9 (.string ⟨S.toArray⟩) none (some (.int .i64 4)) none).run Try.prog W = .ok (.string ⟨(S.take 4).toArray⟩) W := str_to S 4 hs
  have hfr : ∀ W : World, (Instr.slice 9 (.string ⟨S.toArray⟩) (some (.int .i64 4)) none none).run Try.prog W = .ok (.string ⟨(S.drop 4).toArray⟩) W := str_from S 4 hs
  have H := Lib.hid h
  clear h
  go_enter Try.func18, Try.ntmps18
  go_wp2_with fail
  refine (refBig_any (S.take 4) w (by simp; omega)).mono ?_
  rintro e w1 ⟨rfl, rfl⟩
  go_wp2
  go_ret
  exact ⟨rfl, heap_set H.out 0 _, grown_set _ _ _ _⟩
set_option maxHeartbeats 1000000 in
theorem rtext_short (g : Nat) (S : List UInt8) (w : World) (h : RefAt w g S true) : Calls Try.prog 20 #[.pointer (some ⟨g, 0, none⟩)] w (RefTxt w g [] S true) := by
  have hc0 : w.cell? ⟨g, 0, none⟩ = some (.string ⟨S.toArray⟩) := cell_in h 0
  have hc1 : w.cell? ⟨g, 1, none⟩ = some (.bool true) := cell_in h 1
  have hf1 := free_in h 1
  have H := Lib.hid h
  clear h
  go_enter Try.func20, Try.ntmps20
  go_wp2
  go_ret
  exact ⟨rfl, heap_set H.out 1 _, grown_set _ _ _ _⟩
set_option maxHeartbeats 1000000 in
theorem rtext_few (g : Nat) (S : List UInt8) (w : World) (h : RefAt w g S false) (hs : S.length < 2) : Calls Try.prog 20 #[.pointer (some ⟨g, 0, none⟩)] w (RefTxt w g [] S true) := by
  have hsz : (ByteArray.mk S.toArray).size = S.length := rfl
  have hc0 : w.cell? ⟨g, 0, none⟩ = some (.string ⟨S.toArray⟩) := cell_in h 0
  have hc1 : w.cell? ⟨g, 1, none⟩ = some (.bool false) := cell_in h 1
  have hf1 := free_in h 1
  have H := Lib.hid h
  clear h
  go_enter Try.func20, Try.ntmps20
  go_wp2
  go_ret
  exact ⟨rfl, heap_set H.out 1 _, grown_set _ _ _ _⟩
set_option maxRecDepth 100000 in
set_option maxHeartbeats 1000000 in
theorem rtext_no (g : Nat) (S : List UInt8) (w : World) (h : RefAt w g S false) (hs : 2 ≤ S.length) (hr : S.length ≤ 140737488351232) (hx : (S.drop 2).length < big (S.take 2)) : Calls Try.prog 20 #[.pointer (some ⟨g, 0, none⟩)] w (RefTxt w g [] (S.drop 2) true) := by
  have hsz : (ByteArray.mk S.toArray).size = S.length := rfl
  have hc0 : w.cell? ⟨g, 0, none⟩ = some (.string ⟨S.toArray⟩) := cell_in h 0
  have hc1 : w.cell? ⟨g, 1, none⟩ = some (.bool false) := cell_in h 1
  have hf0 := free_in h 0
  have hf1 := free_in h 1
  have hto : ∀ W : World, (Instr.slice 9 (.string ⟨S.toArray⟩) none (some (.int .i64 2)) none).run Try.prog W = .ok (.string ⟨(S.take 2).toArray⟩) W := str_to S 2 hs
  have hfr : ∀ W : World, (Instr.slice 9 (.string ⟨S.toArray⟩) (some (.int .i64 2)) none none).run Try.prog W = .ok (.string ⟨(S.drop 2).toArray⟩) W := str_from S 2 hs
  have hsz2 : (ByteArray.mk (S.drop 2).toArray).size = (S.drop 2).length := rfl
  have hlt : decide (((S.drop 2).length : Int) < (big (S.take 2) : Nat)) = true := decide_eq_true (by omega)
  have hlt2 : decide ((S.drop 2).length < big (S.take 2)) = true := decide_eq_true hx
  have H := Lib.hid h
  clear h
  go_enter Try.func20, Try.ntmps20
  go_wp2_with fail
  refine (refBig_any (S.take 2) w (by simp; omega)).mono ?_
  rintro e w1 ⟨rfl, rfl⟩
  generalize S.drop 2 = T at *
  generalize big (S.take 2) = n at *
  have hc0' : (w.setCell ⟨g, 0, none⟩ (.string ⟨T.toArray⟩)).cell? ⟨g, 0, none⟩ = some (.string ⟨T.toArray⟩) := cell_in (heap_set H.out 0 _) 0
  go_wp2
  go_ret
  exact ⟨rfl, heap_set (heap_set H.out 0 _) 1 _, grown_trans (grown_set _ _ _ _) (grown_set _ _ _ _)⟩
set_option maxRecDepth 100000 in
set_option maxHeartbeats 1000000 in
theorem rtext_yes (g : Nat) (S : List UInt8) (w : World) (h : RefAt w g S false) (hs : 2 ≤ S.length) (hr : S.length ≤ 140737488351232) (hx : big (S.take 2) ≤ (S.drop 2).length) : Calls Try.prog 20 #[.pointer (some ⟨g, 0, none⟩)] w (RefTxt w g ((S.drop 2).take (big (S.take 2))) ((S.drop 2).drop (big (S.take 2))) false) := by
  have hsz : (ByteArray.mk S.toArray).size = S.length := rfl
  have hc0 : w.cell? ⟨g, 0, none⟩ = some (.string ⟨S.toArray⟩) := cell_in h 0
  have hc1 : w.cell? ⟨g, 1, none⟩ = some (.bool false) := cell_in h 1
  have hf0 := free_in h 0
  have hf1 := free_in h 1
  have hto : ∀ W : World, (Instr.slice 9 (.string ⟨S.toArray⟩) none (some (.int .i64 2)) none).run Try.prog W = .ok (.string ⟨(S.take 2).toArray⟩) W := str_to S 2 hs
  have hfr : ∀ W : World, (Instr.slice 9 (.string ⟨S.toArray⟩) (some (.int .i64 2)) none none).run Try.prog W = .ok (.string ⟨(S.drop 2).toArray⟩) W := str_from S 2 hs
  have hto2 := str_to (S.drop 2) (big (S.take 2)) hx
  have hfr2 := str_from (S.drop 2) (big (S.take 2)) hx
  have hsz2 : (ByteArray.mk (S.drop 2).toArray).size = (S.drop 2).length := rfl
  have hT : (S.drop 2).length ≤ 140737488351232 := by rw [List.length_drop]; omega
  have hlt : decide (((S.drop 2).length : Int) < (big (S.take 2) : Nat)) = false := decide_eq_false (by omega)
  have hlt2 : decide ((S.drop 2).length < big (S.take 2)) = false := decide_eq_false (by omega)
  have H := Lib.hid h
  clear h
  go_enter Try.func20, Try.ntmps20
  go_wp2_with fail
  refine (refBig_any (S.take 2) w (by simp; omega)).mono ?_
  rintro e w1 ⟨rfl, rfl⟩
  generalize S.drop 2 = T at *
  generalize big (S.take 2) = n at *
  have hc0' : (w.setCell ⟨g, 0, none⟩ (.string ⟨T.toArray⟩)).cell? ⟨g, 0, none⟩ = some (.string ⟨T.toArray⟩) := cell_in (heap_set H.out 0 _) 0
  have hf0' : (w.setCell ⟨g, 0, none⟩ (.string ⟨T.toArray⟩)).frozen? ⟨g, 0, none⟩ = false := free_in (heap_set H.out 0 _) 0
  go_wp2
  go_ret
  exact ⟨rfl, heap_set (heap_set H.out 0 _) 0 _, grown_trans (grown_set _ _ _ _) (grown_set _ _ _ _)⟩
/-- How the two forms stand to each other: both are whole and hold the same, or both are short. -/
structure Rel (l S : List UInt8) (sh : Bool) : Prop where
  so : (sh = false ∧ S = l) ∨ (sh = true ∧ l = [])
  le : S.length ≤ 140737488351232
theorem nums {l S : List UInt8} {sh : Bool} (h : Rel l S sh) (g g2 : Nat) : ∃ (x : Nat) (l' S' : List UInt8) (sh' : Bool), Rel l' S' sh' ∧ (∀ w, FormAt w g l sh → Calls Try.prog 17 #[.pointer (some ⟨g, 0, none⟩)] w (NumIs w g x l' sh')) ∧
    (∀ w, RefAt w g2 S sh → Calls Try.prog 18 #[.pointer (some ⟨g2, 0, none⟩)] w (RefNum w g2 x S' sh')) := by
  obtain ⟨⟨rfl, rfl⟩ | ⟨rfl, rfl⟩, hle⟩ := h
  · by_cases h4 : S.length < 4
    · exact ⟨0, [], S, true, ⟨.inr ⟨rfl, rfl⟩, hle⟩, fun w hf => fnum_no g S false w hf h4, fun w hr => rnum_no g2 S w hr h4⟩
    · exact ⟨big (S.take 4), S.drop 4, S.drop 4, false, ⟨.inl ⟨rfl, rfl⟩, by rw [List.length_drop]; omega⟩, fun w hf => fnum_yes g S false w hf (by omega), fun w hr => rnum_yes g2 S w hr (by omega) hle⟩
  · exact ⟨0, [], S, true, ⟨.inr ⟨rfl, rfl⟩, hle⟩, fun w hf => fnum_no g [] true w hf (by simp), fun w hr => rnum_short g2 S w hr⟩
theorem texts {l S : List UInt8} {sh : Bool} (h : Rel l S sh) (g g2 : Nat) : ∃ (x l' S' : List UInt8) (sh' : Bool), Rel l' S' sh' ∧ (∀ w, FormAt w g l sh → Calls Try.prog 19 #[.pointer (some ⟨g, 0, none⟩)] w (TextIs w g x l' sh')) ∧
    (∀ w, RefAt w g2 S sh → Calls Try.prog 20 #[.pointer (some ⟨g2, 0, none⟩)] w (RefTxt w g2 x S' sh')) := by
  obtain ⟨⟨rfl, rfl⟩ | ⟨rfl, rfl⟩, hle⟩ := h
  · by_cases h2 : S.length < 2
    · exact ⟨[], [], S, true, ⟨.inr ⟨rfl, rfl⟩, hle⟩, fun w hf => ftext_short g S false w hf h2, fun w hr => rtext_few g2 S w hr h2⟩
    · by_cases hx : (S.drop 2).length < big (S.take 2)
      · exact ⟨[], [], S.drop 2, true, ⟨.inr ⟨rfl, rfl⟩, by rw [List.length_drop]; omega⟩, fun w hf => ftext_no g S false w hf (by omega) hx, fun w hr => rtext_no g2 S w hr (by omega) hle hx⟩
      · exact ⟨(S.drop 2).take (big (S.take 2)), (S.drop 2).drop (big (S.take 2)), (S.drop 2).drop (big (S.take 2)), false, ⟨.inl ⟨rfl, rfl⟩, by rw [List.length_drop, List.length_drop]; omega⟩, fun w hf => ftext_yes g S false w hf (by omega) (by omega), fun w hr => rtext_yes g2 S w hr (by omega) hle (by omega)⟩
  · exact ⟨[], [], S, true, ⟨.inr ⟨rfl, rfl⟩, hle⟩, fun w hf => ftext_short g [] true w hf (by simp), fun w hr => rtext_short g2 S w hr⟩
theorem RefAt.lt {w : World} {g : Nat} {S : List UInt8} {sh : Bool} (h : RefAt w g S sh) : g < w.heap.size := (Array.getElem?_eq_some_iff.1 h).1
theorem RefAt.grown {w w' : World} {g g2 : Nat} {S : List UInt8} {sh : Bool} (h : RefAt w g2 S sh) (hg : w.grownBy w' (some g)) (hne : g2 ≠ g) : RefAt w' g2 S sh :=
  (hg.block g2 h.lt (fun e => hne (by injection e))).trans h
theorem RefAt.below {w w' : World} {g2 : Nat} {S : List UInt8} {sh : Bool} (h : RefAt w g2 S sh) (hb : Below w.heap.size w w') : RefAt w' g2 S sh := (hb.block g2 h.lt).trans h
theorem form_grown {w w' : World} {g g2 : Nat} {l : List UInt8} {sh : Bool} (h : FormAt w g l sh) (hg : w.grownBy w' (some g2)) (hlt : g < g2) : FormAt w' g l sh := by
  have hz := h.lt
  obtain ⟨A, n, c, hh, hB⟩ := h.ex
  refine ⟨A, n, c, (hg.block g hz (fun e => by injection e with e; omega)).trans hh, hB.keep fun p hp => World.cell?_of_block (hg.block p.block (by omega) (fun e => by injection e with e; omega))⟩
/-- A slice of bools. -/
structure Bools (w : World) (A : Option Addr) (n c : Nat) : Prop where
  cap : n ≤ c
  lim : c ≤ maxLen
  at_ : 0 < n → ∃ b off, A = some ⟨b, off, none⟩ ∧ b < w.heap.size ∧ ∀ j, j < n → ∃ x, w.cell? ⟨b, off + j, none⟩ = some (.bool x)
set_option maxRecDepth 100000 in
set_option maxHeartbeats 2000000 in
theorem walk (w : World) (A : Option Addr) (n c : Nat) (l : List UInt8) (hA : Bts w w.heap.size A n c l) (R : c ≤ 140737488351232) (E : Option Addr) (m d : Nat) (hE : Bools w E m d) :
    Calls Try.prog 4 #[.slice A n c, .slice E m d] w fun e w' => e = .returned (.bool true) ∧ Below w.heap.size w w' := by
  have hmd := hE.cap
  have hdl := hE.lim
  unfold maxLen at hdl
  have hll : l.length ≤ 140737488351232 := by have := hA.len; have := hA.cap; omega
  have HA := Lib.hid hA
  have HE := Lib.hid hE
  have ho := World.ownsRow_made (e := 5) (size := 1) (base := w.heap.size) w #[] 0 (Nat.le_refl _) (by decide) (by rfl)
  have hbl := below_alloc w (.cells #[] 5)
  obtain ⟨v1, w1, hr, ho', hgr⟩ := app_run (l := []) 22 ho (hA.below hbl) (by simp; omega) (by simp)
  have HR := Lib.hid hr
  have hb1 : Below w.heap.size w w1 := hbl.grown hgr (by simp) (fun j hj => (ho.lt j hj).1)
  obtain ⟨A1, n1, c1, rfl, hB1⟩ := own_holds ho'
  rw [List.nil_append] at hB1
  have H1 := Lib.hid hB1
  clear hr ho ho' hgr hB1 hbl hA hE
  go_enter Try.func4, Try.ntmps4
  go_wp2_with (at_builtin; refine Lib.wpList_append_run _ rfl _ _ _ _ rfl _ _ rfl rfl _ _ HR.out ?_)
  refine (read_any A1 n1 c1 _ _ w1 H1.out (Nat.le_refl _)).mono ?_
  rintro e w2 ⟨rfl, hf2, hb2⟩
  have b2 : Below w.heap.size w w2 := hb1.trans (hb2.mono hb1.size)
  have s2 := (HA.out.below b2).str w2 (fun _ _ => rfl)
  have z12 : w1.heap.size < w2.heap.size := hf2.lt
  have hz := hb1.size
  have hrf : RefAt (w2.alloc (.cells #[.string ⟨l.toArray⟩, .bool false] 36)) w2.heap.size l false := heap_alloc_new w2 _
  go_wp2
  go_loopw [7] (fun i wr => ∃ (k : Nat) (l' S' : List UInt8) (sh : Bool), k ≤ m ∧ k ≤ 60 ∧ i = .int .i64 k ∧ Rel l' S' sh ∧ FormAt wr w1.heap.size l' sh ∧ RefAt wr w2.heap.size S' sh ∧ Below w.heap.size w wr) (fun i _ => 60 - (intOf i).toNat)
  case atStart => exact ⟨0, l, l, false, Nat.zero_le _, Nat.zero_le _, rfl, ⟨.inl ⟨rfl, rfl⟩, hll⟩, hf2.below (below_alloc _ _), hrf, b2.alloc b2.size _⟩
  case round =>
    obtain ⟨k, l', S', sh, hkm, hk60, rfl, hrel, hf, hrf', hb⟩ := hrel
    by_cases hlt : k < m ∧ k < 60
    · obtain ⟨hlt1, hlt2⟩ := hlt
      obtain ⟨b, off, rfl, hbb, hcells⟩ := HE.out.at_ (by omega)
      obtain ⟨bb, hcell⟩ := hcells k hlt1
      clear hcells
      have hck : wr.cell? ⟨b, off + k, none⟩ = some (.bool bb) := (hb.cell (p := ⟨b, off + k, none⟩) hbb).trans hcell
      clear hcell
      cases bb
      · obtain ⟨x, l2, S2, sh2, hrel2, hF, hG⟩ := texts hrel w1.heap.size w2.heap.size
        have HF := Lib.hid hF
        have HG := Lib.hid hG
        clear hF hG
        go_wp2_with fail
        refine (HF.out wr hf).mono ?_
        rintro e w3 ⟨rfl, hf3, hg3⟩
        have hr3 := hrf'.grown hg3 (by omega)
        have b3 : Below w.heap.size w w3 := hb.grown hg3 hb.size (fun j hj => by cases hj; exact hz)
        have hck3 : w3.cell? ⟨b, off + k, none⟩ = some (.bool false) := (hg3.cell hck (fun e => by have e' : b = w1.heap.size := (by injection e); omega))
        go_wp2_with fail
        refine (HG.out w3 hr3).mono ?_
        rintro e w4 ⟨rfl, hr4, hg4⟩
        have hf4 := form_grown hf3 hg4 z12
        have b4 : Below w.heap.size w w4 := b3.grown hg4 b3.size (fun j hj => by cases hj; omega)
        have hck4 : w4.cell? ⟨b, off + k, none⟩ = some (.bool false) := (hg4.cell hck3 (fun e => by have e' : b = w2.heap.size := (by injection e); omega))
        go_wp2
        go_roundw
        case rel => exact ⟨k + 1, l2, S2, sh2, by omega, by omega, by go_num, hrel2, hf4, hr4, b4⟩
        case measure => simp [intOf]; omega
      · obtain ⟨x, l2, S2, sh2, hrel2, hF, hG⟩ := nums hrel w1.heap.size w2.heap.size
        have HF := Lib.hid hF
        have HG := Lib.hid hG
        clear hF hG
        go_wp2_with fail
        refine (HF.out wr hf).mono ?_
        rintro e w3 ⟨rfl, hf3, hg3⟩
        have hr3 := hrf'.grown hg3 (by omega)
        have b3 : Below w.heap.size w w3 := hb.grown hg3 hb.size (fun j hj => by cases hj; exact hz)
        have hck3 : w3.cell? ⟨b, off + k, none⟩ = some (.bool true) := (hg3.cell hck (fun e => by have e' : b = w1.heap.size := (by injection e); omega))
        go_wp2_with fail
        refine (HG.out w3 hr3).mono ?_
        rintro e w4 ⟨rfl, hr4, hg4⟩
        have hf4 := form_grown hf3 hg4 z12
        have b4 : Below w.heap.size w w4 := b3.grown hg4 b3.size (fun j hj => by cases hj; omega)
        have hck4 : w4.cell? ⟨b, off + k, none⟩ = some (.bool true) := (hg4.cell hck3 (fun e => by have e' : b = w2.heap.size := (by injection e); omega))
        go_wp2
        go_roundw
        case rel => exact ⟨k + 1, l2, S2, sh2, by omega, by omega, by go_num, hrel2, hf4, hr4, b4⟩
        case measure => simp [intOf]; omega
    · have hend : (decide ((k : Int) < (m : Int)) && decide ((k : Int) < 60)) = false := by
        rw [Bool.and_eq_false_iff, decide_eq_false_iff_not, decide_eq_false_iff_not]
        omega
      have hc0 : wr.cell? ⟨w2.heap.size, 0, none⟩ = some (.string ⟨S'.toArray⟩) := cell_in hrf' 0
      have hc1 : wr.cell? ⟨w2.heap.size, 1, none⟩ = some (.bool sh) := cell_in hrf' 1
      rcases hrel.so with ⟨rfl, rfl⟩ | ⟨rfl, rfl⟩
      · cases S' with
        | nil =>
          by_cases hk1 : k < m
          · obtain rfl : k = 60 := by omega
            go_wp2_with fail
            refine (awake_any _).mono ?_
            rintro e w5 ⟨rfl, hb5⟩
            have hf5 := hf.below hb5
            have b5 : Below w.heap.size w w5 := hb.trans (hb5.mono hb.size)
            go_wp2_with fail
            refine (fend_any _ [] false w5 hf5).mono ?_
            rintro e w6 ⟨rfl, rfl⟩
            have he0 : endOf [] false = 0 := rfl
            rw [he0]
            clear he0
            go_wp2_with fail
            refine (fnum_nil w5).mono ?_
            rintro e w6 ⟨rfl, hb6⟩
            have b6 : Below w.heap.size w w6 := b5.trans (hb6.mono b5.size)
            go_wp2_with fail
            refine (ftext_nil w6).mono ?_
            rintro e w7 ⟨rfl, hb7⟩
            have b7 : Below w.heap.size w w7 := b6.trans (hb7.mono b6.size)
            go_wp2_with fail
            refine (fend_nil w7).mono ?_
            rintro e w8 ⟨rfl, rfl⟩
            go_wp2
            go_ret
            exact ⟨rfl, b7⟩
          · obtain rfl : k = m := by omega
            go_wp2_with fail
            refine (awake_any _).mono ?_
            rintro e w5 ⟨rfl, hb5⟩
            have hf5 := hf.below hb5
            have b5 : Below w.heap.size w w5 := hb.trans (hb5.mono hb.size)
            go_wp2_with fail
            refine (fend_any _ [] false w5 hf5).mono ?_
            rintro e w6 ⟨rfl, rfl⟩
            have he0 : endOf [] false = 0 := rfl
            rw [he0]
            clear he0
            go_wp2_with fail
            refine (fnum_nil w5).mono ?_
            rintro e w6 ⟨rfl, hb6⟩
            have b6 : Below w.heap.size w w6 := b5.trans (hb6.mono b5.size)
            go_wp2_with fail
            refine (ftext_nil w6).mono ?_
            rintro e w7 ⟨rfl, hb7⟩
            have b7 : Below w.heap.size w w7 := b6.trans (hb7.mono b6.size)
            go_wp2_with fail
            refine (fend_nil w7).mono ?_
            rintro e w8 ⟨rfl, rfl⟩
            go_wp2
            go_ret
            exact ⟨rfl, b7⟩
        | cons y ys =>
          by_cases hk1 : k < m
          · obtain rfl : k = 60 := by omega
            go_wp2_with fail
            refine (awake_any _).mono ?_
            rintro e w5 ⟨rfl, hb5⟩
            have hf5 := hf.below hb5
            have b5 : Below w.heap.size w w5 := hb.trans (hb5.mono hb.size)
            go_wp2_with fail
            refine (fend_any _ (y :: ys) false w5 hf5).mono ?_
            rintro e w6 ⟨rfl, rfl⟩
            have he0 : endOf (y :: ys) false = 2 := by unfold endOf; simp
            rw [he0]
            clear he0
            go_wp2_with fail
            refine (fnum_nil w5).mono ?_
            rintro e w6 ⟨rfl, hb6⟩
            have b6 : Below w.heap.size w w6 := b5.trans (hb6.mono b5.size)
            go_wp2_with fail
            refine (ftext_nil w6).mono ?_
            rintro e w7 ⟨rfl, hb7⟩
            have b7 : Below w.heap.size w w7 := b6.trans (hb7.mono b6.size)
            go_wp2_with fail
            refine (fend_nil w7).mono ?_
            rintro e w8 ⟨rfl, rfl⟩
            go_wp2
            go_ret
            exact ⟨rfl, b7⟩
          · obtain rfl : k = m := by omega
            go_wp2_with fail
            refine (awake_any _).mono ?_
            rintro e w5 ⟨rfl, hb5⟩
            have hf5 := hf.below hb5
            have b5 : Below w.heap.size w w5 := hb.trans (hb5.mono hb.size)
            go_wp2_with fail
            refine (fend_any _ (y :: ys) false w5 hf5).mono ?_
            rintro e w6 ⟨rfl, rfl⟩
            have he0 : endOf (y :: ys) false = 2 := by unfold endOf; simp
            rw [he0]
            clear he0
            go_wp2_with fail
            refine (fnum_nil w5).mono ?_
            rintro e w6 ⟨rfl, hb6⟩
            have b6 : Below w.heap.size w w6 := b5.trans (hb6.mono b5.size)
            go_wp2_with fail
            refine (ftext_nil w6).mono ?_
            rintro e w7 ⟨rfl, hb7⟩
            have b7 : Below w.heap.size w w7 := b6.trans (hb7.mono b6.size)
            go_wp2_with fail
            refine (fend_nil w7).mono ?_
            rintro e w8 ⟨rfl, rfl⟩
            go_wp2
            go_ret
            exact ⟨rfl, b7⟩
      · clear hc0
        by_cases hk1 : k < m
        · obtain rfl : k = 60 := by omega
          go_wp2_with fail
          refine (awake_any _).mono ?_
          rintro e w5 ⟨rfl, hb5⟩
          have hf5 := hf.below hb5
          have b5 : Below w.heap.size w w5 := hb.trans (hb5.mono hb.size)
          go_wp2_with fail
          refine (fend_any _ [] true w5 hf5).mono ?_
          rintro e w6 ⟨rfl, rfl⟩
          have he0 : endOf [] true = 3 := rfl
          rw [he0]
          clear he0
          go_wp2_with fail
          refine (fnum_nil w5).mono ?_
          rintro e w6 ⟨rfl, hb6⟩
          have b6 : Below w.heap.size w w6 := b5.trans (hb6.mono b5.size)
          go_wp2_with fail
          refine (ftext_nil w6).mono ?_
          rintro e w7 ⟨rfl, hb7⟩
          have b7 : Below w.heap.size w w7 := b6.trans (hb7.mono b6.size)
          go_wp2_with fail
          refine (fend_nil w7).mono ?_
          rintro e w8 ⟨rfl, rfl⟩
          go_wp2
          go_ret
          exact ⟨rfl, b7⟩
        · obtain rfl : k = m := by omega
          go_wp2_with fail
          refine (awake_any _).mono ?_
          rintro e w5 ⟨rfl, hb5⟩
          have hf5 := hf.below hb5
          have b5 : Below w.heap.size w w5 := hb.trans (hb5.mono hb.size)
          go_wp2_with fail
          refine (fend_any _ [] true w5 hf5).mono ?_
          rintro e w6 ⟨rfl, rfl⟩
          have he0 : endOf [] true = 3 := rfl
          rw [he0]
          clear he0
          go_wp2_with fail
          refine (fnum_nil w5).mono ?_
          rintro e w6 ⟨rfl, hb6⟩
          have b6 : Below w.heap.size w w6 := b5.trans (hb6.mono b5.size)
          go_wp2_with fail
          refine (ftext_nil w6).mono ?_
          rintro e w7 ⟨rfl, hb7⟩
          have b7 : Below w.heap.size w w7 := b6.trans (hb7.mono b6.size)
          go_wp2_with fail
          refine (fend_nil w7).mono ?_
          rintro e w8 ⟨rfl, rfl⟩
          go_wp2
          go_ret
          exact ⟨rfl, b7⟩
end Go.Proofs.Ytffniconhpbbbaa.fieldReads
