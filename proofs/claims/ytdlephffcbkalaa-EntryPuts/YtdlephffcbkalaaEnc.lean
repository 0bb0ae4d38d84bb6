/- Encode, walked. -/
import Derived.Test.YtdlephffcbkalaaSmall
import Derived.Lib.LazyBuf
namespace Go.Proofs.Ytdlephffcbkalaa
open Go.RowKit
set_option linter.unusedVariables false

def zeros : Array Value := (z32.map bv).toArray
theorem make_run (w : World) : (Instr.makeSlice 24 (.int .i64 32) (.int .i64 32)).run Try.prog w = .ok (.slice (some ⟨w.heap.size, 0, none⟩) 32 32) (w.alloc (.cells zeros 5)) := by
  obtain ⟨i0, hi, hz0, hz1, hz2⟩ := info_parts Try.info5
  have hr := run_make (P := Try.prog) w 24 5 i0 _ Try.underlying24 hi hz0 .i64 .i64 32 32 (by omega) (by omega) (by rw [hz2]; omega) (by omega)
  have e : madeCells (Value.int .u8 0).cells ((32 : Int).toNat * 1) = zeros := by
    apply Array.ext'
    have h1 : (Value.int .u8 0).cells = #[Value.int .u8 0] := rfl
    rw [h1, toList_madeCells_one]
    simp [zeros, z32, bv]
  rw [hz1, e] at hr
  exact hr
/-- Bytes that are being written: they lie in block g. -/
def Sec (w : World) (g : Nat) (l : List UInt8) : Prop := w.heap[g]? = some (.cells (l.map bv).toArray 5 (0, 0)) ∧ l.length = 32
section
variable {w w' : World} {g : Nat} {l : List UInt8}
theorem Sec.cell (h : Sec w g l) {j : Nat} (hj : j < 32) : w.cell? ⟨g, j, none⟩ = some (.int .u8 ((l[j]?.getD 0).toNat : Int)) ∧ w.frozen? ⟨g, j, none⟩ = false := by
  refine ⟨?_, free_in h.1 j⟩
  rw [cell_in h.1]
  have : j < l.length := by rw [h.2]; exact hj
  simp [this, bv]
theorem Sec.set (h : Sec w g l) (j : Nat) {y : UInt8} {v : Value} (hv : v = bv y) : Sec (w.setCell ⟨g, j, none⟩ v) g (l.set j y) := by
  subst hv
  refine ⟨?_, by rw [List.length_set]; exact h.2⟩
  rw [heap_set h.1]
  simp
theorem Sec.keep (h : Sec w g l) (he : w'.heap[g]? = w.heap[g]?) : Sec w' g l := ⟨he.trans h.1, h.2⟩
theorem Sec.lt (h : Sec w g l) : g < w.heap.size := (Array.getElem?_eq_some_iff.1 h.1).1
theorem Sec.bts (h : Sec w g l) : Bts w w.heap.size (some ⟨g, 0, none⟩) 32 32 l :=
  ⟨h.2, Nat.le_refl _, by decide, (fun h => by cases h), fun _ => ⟨g, 0, rfl, h.lt, fun j hj => by rw [Nat.zero_add]; exact (h.cell hj).1⟩⟩
end
theorem sec_new (w : World) : Sec (w.alloc (.cells zeros 5)) w.heap.size z32 := ⟨heap_alloc_new w _, rfl⟩
/-- Cells stored in a row, in the midst of a block. -/
theorem heap_mid {b : Nat} {t : TypeId} : ∀ (vs : List Value) (o : Nat) {w : World} {C : List Value}, w.heap[b]? = some (.cells C.toArray t (0, 0)) → o + vs.length ≤ C.length → (w.setCells b o vs).heap[b]? = some (.cells (C.take o ++ vs ++ C.drop (o + vs.length)).toArray t (0, 0))
  | [], o, w, C, h, hl => by
    rw [World.setCells]
    simpa using h
  | v :: r, o, w, C, h, hl => by
    have hlt : o < C.length := by simp at hl; omega
    have h' : (w.setCell ⟨b, o, none⟩ v).heap[b]? = some (.cells (C.set o v).toArray t (0, 0)) := by
      have := heap_set h o v
      simpa using this
    have := heap_mid r (o + 1) h' (by simp at hl ⊢; omega)
    rw [World.setCells, this]
    congr 3
    rw [List.take_succ_eq_append_getElem (by simpa using hlt), List.take_set_of_le (Nat.le_refl _), List.drop_set_of_lt (by omega)]
    simp only [List.getElem_set_self, List.append_assoc, List.cons_append, List.nil_append, List.length_cons]
    rw [show o + 1 + r.length = o + (r.length + 1) by omega]
theorem heap_mid_ne {b b' : Nat} (hb : b' ≠ b) : ∀ (vs : List Value) (o : Nat) (w : World), (w.setCells b o vs).heap[b']? = w.heap[b']?
  | [], _, _ => rfl
  | v :: r, o, w => by rw [World.setCells, heap_mid_ne hb r (o + 1), Below.heap_setCell _ _ _ _ hb]
theorem below_mid {b B : Nat} (hB : B ≤ b) : ∀ (vs : List Value) (o : Nat) {a w : World}, Below B a w → Below B a (w.setCells b o vs)
  | [], _, _, _, h => h
  | v :: r, o, _, _, h => below_mid hB r (o + 1) (h.setCell (p := ⟨b, o, none⟩) hB v)
theorem sz5 (w : World) : (sizeOf 5).run Try.prog w = .ok 1 w := by kernel_rfl
/-- 'copy(b[1:], name)'. -/
theorem copy_run {w : World} {g : Nat} {l nm : List UInt8} (h : Sec w g l) (hn : nm.length ≤ 24) :
    ∃ w', (Builtin.copy_ #[24, 9] 3 #[.slice (some ⟨g, 1, none⟩) 31 31, .string (bs nm)]).run Try.prog w = .ok (.int .i64 nm.length) w' ∧ Sec w' g (l.take 1 ++ nm ++ l.drop (1 + nm.length)) ∧ (∀ b, b ≠ g → w'.heap[b]? = w.heap[b]?) ∧ (∀ B, B ≤ g → Below B w w') := by
  have hr := run_copy_string (P := Try.prog) w 24 9 3 5 g 1 31 31 (bs nm) Try.underlying24 sz5 (by rw [bs_size]; omega) (fun j hj => by
      rw [bs_size] at hj
      rw [(h.cell (j := 1 + j) (by omega)).1]; rfl) (fun j hj => (h.cell (j := 1 + j) (by rw [bs_size] at hj; omega)).2)
  refine ⟨_, hr, ⟨?_, ?_⟩, fun b hb => heap_mid_ne hb _ _ _, fun B hB => below_mid hB _ _ (Below.refl _ _)⟩
  · have hl := h.2
    have := heap_mid (nm.map bv) 1 h.1 (by simp; omega)
    rw [bs_data]
    refine this.trans ?_
    simp
  · simp [h.2]
    omega
/-- What is written, step by step. -/
theorem raw_steps {nm : List UInt8} {x : UInt8} (h : nm.length ≤ 24) : (((z32.set 0 (UInt8.ofNat nm.length)).take 1 ++ nm ++ (z32.set 0 (UInt8.ofNat nm.length)).drop (1 + nm.length)).set 25 x).set 26 0 = raw nm x := by
  have e1 : (z32.set 0 (UInt8.ofNat nm.length)).take 1 = [UInt8.ofNat nm.length] := rfl
  have e2 : (z32.set 0 (UInt8.ofNat nm.length)).drop (1 + nm.length) = List.replicate (24 - nm.length) 0 ++ ([0, 0] ++ List.replicate 5 0) := by
    rw [List.drop_set_of_lt (by omega)]
    unfold z32
    rw [List.drop_replicate, show ([0, 0] ++ List.replicate 5 0 : List UInt8) = List.replicate 7 0 from rfl, List.replicate_append_replicate]
    congr 1
    omega
  rw [e1, e2]
  unfold raw
  simp only [List.cons_append, List.nil_append, List.set_cons_succ, List.append_assoc]
  congr 1
  rw [List.set_append_right (h := by omega), List.set_append_right (h := by omega), List.set_append_right (h := by simp), List.set_append_right (h := by simp; omega)]
  simp only [List.length_replicate]
  rw [show 24 - nm.length - (24 - nm.length) = 0 by omega, show 25 - nm.length - (24 - nm.length) = 1 by omega]
  rfl
def EncP (w : World) (o : Option (List UInt8)) (e : Ending) (w' : World) : Prop :=
  match o with
  | none => e = .returned (.tuple #[.slice none 0 0, .int .i64 2]) ∧ Below w.heap.size w w'
  | some b => ∃ g, e = .returned (.tuple #[.slice (some ⟨g, 0, none⟩) 32 32, .int .i64 0]) ∧ Bts w' w'.heap.size (some ⟨g, 0, none⟩) 32 32 b ∧ w.heap.size ≤ g ∧ Below w.heap.size w w'
theorem nil_yes : ((bs []).toList == []) = true := by rw [bs_list]; rfl
theorem nil_no {a : List UInt8} (h : a ≠ []) : ((bs a).toList == []) = false := by rw [bs_list]; simpa using h
theorem nil_no' {a : List UInt8} (h : a ≠ []) : ¬ (bs a).toList = [] := by rw [bs_list]; exact h
theorem nil_yes' : (bs []).toList = [] := by rw [bs_list]
set_option maxRecDepth 20000 in
set_option maxHeartbeats 1000000 in
theorem enc_emp_any (w : World) : Calls Try.prog 8 #[.agg #[.string (bs []), .int .i64 0]] w (EncP w (some z32)) := by
  obtain ⟨b1, b2, b3⟩ := box1 w (.cells #[.string (bs []), .int .i64 0] 23)
  have hmk := make_run (w.alloc (.cells #[.string (bs []), .int .i64 0] 23))
  have HS := Lib.hid (sec_new (w.alloc (.cells #[.string (bs []), .int .i64 0] 23)))
  have HB := Lib.hid (b2.alloc (by rw [b3]; omega) (.cells zeros 5))
  rw [b3] at hmk HS
  clear b1 b2 b3
  have h0 := nil_yes'
  go_enter Try.func8, Try.ntmps8
  go_wp2_with fail
  go_ret2
  exact ⟨_, rfl, HS.out.bts, by omega, HB.out⟩
/-- What lies where behind the box and the bytes that are made. -/
theorem start (w : World) (r : Rw) : ∃ W, W = (w.alloc (.cells #[.string (bs r.1), .int .i64 r.2] 23)).alloc (.cells zeros 5) ∧ Sec W (w.heap.size + 1) z32 ∧ W.heap[w.heap.size]? = some (.cells #[.string (bs r.1), .int .i64 r.2] 23 (0, 0)) ∧ Below w.heap.size w W ∧ W.heap.size = w.heap.size + 2 := by
  obtain ⟨b1, b2, b3⟩ := box1 w (.cells #[.string (bs r.1), .int .i64 r.2] 23)
  obtain ⟨c1, c2, c3⟩ := box1 (w.alloc (.cells #[.string (bs r.1), .int .i64 r.2] 23)) (.cells zeros 5)
  refine ⟨_, rfl, ?_, (c2.block _ (by rw [b3]; omega)).trans b1, b2.trans (c2.mono (by rw [b3]; omega)), by rw [c3, b3]⟩
  have := sec_new (w.alloc (.cells #[.string (bs r.1), .int .i64 r.2] 23))
  rw [b3] at this
  exact this
set_option maxRecDepth 20000 in
set_option maxHeartbeats 1000000 in
theorem enc_no_any (a : List UInt8) (x : Int) (w : World) (h : (a, x) ≠ emp) (hs : sound (a, x) = false) : Calls Try.prog 8 #[.agg #[.string (bs a), .int .i64 x]] w (EncP w none) := by
  have HS := Lib.hid hs
  clear hs
  have hmk := make_run (w.alloc (.cells #[.string (bs a), .int .i64 x] 23))
  obtain ⟨W, hW, h1, h2, h3, h4⟩ := start w (a, x)
  have HB := Lib.hid h3
  rw [(box1 w _).2.2] at hmk
  dsimp only at hW h2
  rw [← hW] at hmk
  have c0 : W.cell? ⟨w.heap.size, 0, none⟩ = some (.string (bs a)) := cell_in h2 0
  have c1 : W.cell? ⟨w.heap.size, 1, none⟩ = some (.int .i64 x) := cell_in h2 1
  have HW := Lib.hid hW
  clear h1 h2 h3 h4 hW
  by_cases ha : a = []
  · subst ha
    have h0 := nil_yes'
    have hx : (x == 0) = false := by
      rw [beq_eq_false_iff_ne]
      intro e
      exact h (by rw [e]; rfl)
    clear h
    go_enter Try.func8, Try.ntmps8
    go_wp2_with fail
    refine (sound_any [] x _).mono ?_
    rintro e w1 ⟨rfl, hb⟩
    rw [HS.out]
    have HB2 := Lib.hid (HB.out.trans (hb.mono HB.out.size))
    clear hb
    go_wp2_with fail
    go_ret2
    exact ⟨rfl, HB2.out⟩
  · have h0 := nil_no ha
    have h0' := nil_no' ha
    clear h
    go_enter Try.func8, Try.ntmps8
    go_wp2_with fail
    refine (sound_any a x _).mono ?_
    rintro e w1 ⟨rfl, hb⟩
    rw [HS.out]
    have HB2 := Lib.hid (HB.out.trans (hb.mono HB.out.size))
    clear hb
    go_wp2_with fail
    go_ret2
    exact ⟨rfl, HB2.out⟩
end Go.Proofs.Ytdlephffcbkalaa
